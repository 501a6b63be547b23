/-
  The program's checkLens and LensOk.
-/
import Derived.Test.YtkjebacpmmfflaaDoorILensC
import Derived.Test.YtkjebacpmmfflaaDoorILens
import Derived.Test.YtkjebacpmmfflaaDoorAs1
namespace Go.Proofs.YtkjebacpmmfflaaDoor
open Go.RowKit
set_option linter.unusedVariables false

/-- The handle that errors.As looks up. -/
def ErrT (w : World) : Prop := w.cell? ⟨0, 0, none⟩ = some (rtyp 63)
theorem ErrT.below {w w' : World} (h : ErrT w) (hb : Below w.heap.size w w') : ErrT w' := keep hb (World.block_lt_of_cell? _ _ h) h

set_option maxHeartbeats 2000000 in
theorem implLens_any (a : Option Addr) (cap : Nat) (zs : List Int) (w : World) (hb : Ins w a zs) (hn : zs.length ≤ 281474976710656) (h4 : Four w) (hE : ErrT w) :
    Calls Tryd.prog 11 #[.slice a zs.length cap] w fun e w' => e = .returned (.bool (lensB zs)) ∧ Below w.heap.size w w' := by
  have hw : Below w.heap.size w (w.alloc (.cells #[.pointer none] 60)) := (Below.refl _ _).alloc (Nat.le_refl _) _
  go_enter Tryd.func11, Tryd.ntmps11
  go_wp2_with fail
  refine (checkLens_any a cap zs _ (hb.below hw (Nat.le_refl _)) hn (h4.below hw)).mono ?_
  rintro e w1 ⟨hb1, hy, hx⟩
  have hbb : Below w.heap.size w w1 := hw.trans (hb1.mono (by simp))
  have hc : w1.cell? ⟨w.heap.size, 0, none⟩ = some (.pointer none) := keep hb1 (by simp) (by simp)
  have hf : w1.frozen? ⟨w.heap.size, 0, none⟩ = false := (hb1.frozen (p := ⟨w.heap.size, 0, none⟩) (by simp)).trans (by simp)
  have hE1 := hE.below hbb
  clear hb1 hw h4 hE hb
  cases hL : lensB zs with
  | true =>
    have HLL : Hid (lensB zs = true) := hL
    obtain rfl := hy hL
    clear hx hy hL
    go_wp2_with fail
    refine (asNil _ _).mono ?_
    rintro e w2 ⟨rfl, rfl⟩
    go_wp2
    go_ret
    exact ⟨by rw [HLL.out]; rfl, hbb⟩
  | false =>
    have HLL : Hid (lensB zs = false) := hL
    obtain ⟨p, rfl⟩ := hx hL
    clear hx hy hL
    go_wp2_with fail
    refine (asHit p ⟨w.heap.size, 0, none⟩ _ w1 hE1 hc hf).mono ?_
    rintro e w2 ⟨rfl, rfl⟩
    have hz := hbb.size
    have hB' : (Below w.heap.size w (((asW3 w1 ⟨w.heap.size, 0, none⟩).alloc (.cells #[.pointer (some p)] 60)).setCell ⟨w.heap.size, 0, none⟩ (.pointer (some p)))) := by
      refine Below.setCell (p := ⟨w.heap.size, 0, none⟩) ?_ (Nat.le_refl _) _
      exact (((hbb.alloc hz _).alloc (by simp; omega) _).alloc (by simp; omega) _).alloc (by simp; omega) _
    have HB : Hid _ := hB'
    clear hbb hE1 hc hf hB'
    generalize ((asW3 w1 ⟨w.heap.size, 0, none⟩).alloc (.cells #[.pointer (some p)] 60)).setCell ⟨w.heap.size, 0, none⟩ (.pointer (some p)) = w2 at *
    go_wp2
    go_ret
    exact ⟨by rw [HLL.out]; rfl, HB.out⟩
end Go.Proofs.YtkjebacpmmfflaaDoor
