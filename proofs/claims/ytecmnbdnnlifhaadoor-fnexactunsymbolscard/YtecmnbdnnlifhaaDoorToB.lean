/-
  laws.toBits makes a struct of the same bytes in memory of its own.
-/
import Derived.Test.YtecmnbdnnlifhaaDoorCopy
namespace Go.Proofs.YtecmnbdnnlifhaaDoor
open Go.RowKit
set_option linter.unusedVariables false

set_option maxHeartbeats 400000 in
theorem toBits_any (a : Option Addr) (cap : Nat) (zs : List Int) (N : Int) (w : World) (hb : Byt w a zs) (hn : zs.length ≤ 1048576) :
    Calls Tryd.prog 20 #[.agg #[.slice a zs.length cap, .int .i64 N]] w fun e w' =>
      ∃ g, e = .returned (.agg #[.slice (some ⟨g, 0, none⟩) zs.length zs.length, .int .i64 N]) ∧ Own w' w.heap.size g zs.length zs ∧ Below w.heap.size w w' := by
  go_enter Tryd.func20, Tryd.ntmps20
  go_wp2_with fail
  have hw : Below w.heap.size w (((w.alloc (Obj.cells #[Value.slice a zs.length cap, Value.int IntKind.i64 N] 39)).alloc (Obj.cells #[Value.slice none 0 0, Value.int IntKind.i64 0] 27)).alloc (Obj.cells #[Value.slice none 0 0, Value.int IntKind.i64 0] 27)) :=
    (((Below.refl _ _).alloc (Nat.le_refl _) _).alloc (by simp) _).alloc (by simp; omega) _
  refine (toByteS_any a cap zs _ (hb.below hw (Nat.le_refl _)) hn).mono ?_
  rintro e w1 ⟨rfl, hown, hbel⟩
  obtain ⟨hc, hf⟩ := bcell hbel
  have hz := hbel.size
  have hb2 := hw.trans (hbel.mono (by simp; omega))
  simp at hc hf hz hown
  clear hbel hw
  go_wp2
  refine bodyPost_ret (v := .agg #[.slice (some ⟨w.heap.size + 1 + 1 + 1, 0, none⟩) zs.length zs.length, .int .i64 N]) (by simp [results, Tryd.results20, go_sem, hc]) rfl ⟨_, rfl, ?_, ?_⟩
  · refine Own.mono (B := w.heap.size + 1 + 1 + 1) ?_ (by omega)
    repeat (refine Own.setCell_other ?_ (by simp) _)
    exact hown
  · repeat (refine Below.setCell ?_ (by first | (simp; done) | (simp; omega)) _)
    exact hb2

end Go.Proofs.YtecmnbdnnlifhaaDoor
