/-
  How many bits are left.
-/
import Derived.Test.YtecmnbdnnlifhaaDoorRdr
import Derived.BigQuiet
namespace Go.Proofs.YtecmnbdnnlifhaaDoor
open Go.RowKit
set_option linter.unusedVariables false

set_option maxHeartbeats 800000 in
theorem RD.left {w : World} {B R : Nat} {a : Option Addr} {L cap n p : Nat} (h : RD w B R a L cap n p) (hn : n ≤ 4104) (hp : p ≤ 4104) :
    Calls Tryd.prog 51 #[.pointer (some ⟨R, 0, none⟩)] w fun e w' => e = .returned (.int .i64 ((n : Int) - p)) ∧ ∃ m, w' = w.drewN m := by
  have c0 := cellRR (j := 0) h.1 rfl
  have c1 := cellRR (j := 1) h.1 rfl
  have c2 := cellRR (j := 2) h.1 rfl
  clear h
  go_enter Tryd.func51, Tryd.ntmps51
  go_wp2
  go_quiet (fail)
  go_wp2
  go_ret
  exact ⟨rfl, _, rfl⟩
end Go.Proofs.YtecmnbdnnlifhaaDoor
