/-
  Marks in the bytes of a struct.
-/
import Derived.Test.YtecmnbdnnlifhaaDoorMarks
namespace Go.Proofs.YtecmnbdnnlifhaaDoor
open Go.RowKit
set_option linter.unusedVariables false

set_option maxHeartbeats 400000 in
theorem markBits_any (a : Option Addr) (B U cap : Nat) (zs : List Int) (N k : Int) (w : World) (h : Mine w B U a cap zs) (hn : zs.length ≤ 2097152) (h0 : 0 ≤ k) (h1 : k ≤ 2097152) :
    Calls Tryd.prog 14 #[.agg #[.slice a zs.length cap, .int .i64 N], .int .i64 k] w fun e w' => e = .returned (.int .i64 (k + zs.length)) ∧ Mine w' B U a cap (marks k zs.length) ∧ Only (rowOf a) w w' := by
  go_enter Tryd.func14, Tryd.ntmps14
  go_wp2_with fail
  refine (markByteS_any a B U cap zs k _ (h.below ((Below.refl _ _).alloc (Nat.le_refl _) _)) hn h0 h1).mono ?_
  rintro e w1 ⟨rfl, hm, ho⟩
  have HM : Hid (Mine w1 B U a cap (marks k zs.length)) := hm
  have HO : Hid (Only (rowOf a) w w1) := ((Only.refl (rowOf a) w).alloc _).trans ho
  clear hm ho h
  go_wp2
  go_ret
  exact ⟨rfl, HM.out, HO.out⟩

set_option maxHeartbeats 400000 in
theorem heldBits_any (a : Option Addr) (cap n : Nat) (N k : Int) (w : World) (h : Byt w a (marks k n)) (hn : n ≤ 2097152) (h0 : 0 ≤ k) (h1 : k ≤ 2097152) :
    Calls Tryd.prog 16 #[.agg #[.slice a n cap, .int .i64 N], .int .i64 k] w fun e w' => e = .returned (.int .i64 (k + n)) ∧ Below w.heap.size w w' := by
  go_enter Tryd.func16, Tryd.ntmps16
  go_wp2_with fail
  refine (heldByteS_any a cap n k _ (h.alloc _) hn h0 h1).mono ?_
  rintro e w1 ⟨rfl, rfl⟩
  clear h
  go_wp2
  go_ret
  exact ⟨rfl, (Below.refl _ _).alloc (Nat.le_refl _) _⟩

end Go.Proofs.YtecmnbdnnlifhaaDoor
