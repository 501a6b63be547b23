/-
  The law on LensOk returns true, whatever is handed in, and writes nothing that was there.
-/
import Derived.Test.YtaiikncdghjmjaaDoorILens2
import Derived.Test.YtaiikncdghjmjaaDoorILens3
import Derived.Test.YtaiikncdghjmjaaDoorICopy
import Derived.Test.YtaiikncdghjmjaaDoorIEq
namespace Go.Proofs.YtaiikncdghjmjaaDoor
open Go.RowKit
set_option linter.unusedVariables false

theorem below_drewNI {B : Nat} {a b : World} (h : Below B a b) (n : Nat) : Below B a (b.drewN n) := ⟨h.os, h.tape, h.output, h.size, h.block⟩

set_option maxHeartbeats 1000000 in
theorem lawLens_any (a : Option Addr) (cap : Nat) (zs : List Int) (w : World) (hb : Ins w a zs) (hm : zs.length ≤ maxLen) (h4 : Four w) (hE : ErrT w) :
    Calls Tryd.prog 3 #[.slice a zs.length cap] w fun e w' => e = .returned (.bool true) ∧ Below w.heap.size w w' := by
  by_cases hn : zs.length ≤ 1048576
  · go_enter Tryd.func3, Tryd.ntmps3
    go_wp2_with fail
    refine (toIntS_any a cap zs _ hb hn).mono ?_
    rintro e w2 ⟨rfl, ho2, hb2⟩
    go_wp2_with fail
    refine (specLens_any _ _ zs _ ho2.byt (by omega)).mono ?_
    rintro e w3 ⟨rfl, rfl⟩
    have hb3 : Below w.heap.size w w3 := hb2
    clear ho2 hb2
    generalize hO : lensB zs = O at *
    have HO : Hid (lensB zs = O) := hO
    clear hO
    go_wp2_with fail
    refine (toIntS_any a cap zs _ (hb.below hb3 (Nat.le_refl _)) hn).mono ?_
    rintro e w4 ⟨rfl, ho4, hb4⟩
    have hb4' : Below w.heap.size w w4 := hb3.trans (hb4.mono hb3.size)
    go_wp2_with fail
    refine (implLens_any _ _ zs _ ho4.byt (by omega) (h4.below hb4') (hE.below hb4')).mono ?_
    rintro e w5 ⟨rfl, hb5⟩
    rw [HO.out]
    have ho5 := ho4.below hb5 (Nat.le_refl _)
    have hb5' : Below w.heap.size w w5 := hb4'.trans (hb5.mono hb4'.size)
    clear ho4 hb4 hb5 hb4'
    have hOO : (O != O) = false := by simp
    go_wp2_with fail
    refine (toIntS_any a cap zs _ (hb.below hb5' (Nat.le_refl _)) hn).mono ?_
    rintro e w6 ⟨rfl, ho6, hb6⟩
    have hb6' : Below w.heap.size w w6 := hb5'.trans (hb6.mono hb5'.size)
    go_wp2_with fail
    refine (eqIntS_yes _ _ _ _ zs _ (ho5.below hb6 (Nat.le_refl _)).byt ho6.byt (by omega)).mono ?_
    rintro e w7 ⟨rfl, n7, rfl⟩
    have hb7 : Below w.heap.size w (w6.drewN n7) := below_drewNI hb6' n7
    clear ho5 ho6 hb6
    generalize w6.drewN n7 = w7 at *
    go_wp2
    go_ret
    exact ⟨rfl, hb7⟩
  · go_enter Tryd.func3, Tryd.ntmps3
    go_wp2
    go_ret
    exact ⟨rfl, Below.refl _ _⟩
end Go.Proofs.YtaiikncdghjmjaaDoor
