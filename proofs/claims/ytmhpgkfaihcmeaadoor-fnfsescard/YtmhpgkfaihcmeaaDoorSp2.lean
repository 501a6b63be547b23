/-
  The places in their order: eachPlace of the program, as what a range over it is promised.
-/
import Derived.RangeFuncNested
import Derived.RangeFuncBound
import Derived.RangeFuncCalls
import Derived.RangeFuncLeaves
import Derived.RangeFuncFrom
import Derived.Shelf.Abstract
import Derived.Shelf.RegionOpen
import Derived.WalkKit
import Derived.OwnWalkIn
import Derived.TacticsInMore
import Derived.LoopNIn
import Derived.LoopIn
import Derived.Test.YtmhpgkfaihcmeaaDoorSpM
namespace Go.Proofs.YtmhpgkfaihcmeaaDoor
open Go.RowKit Go.Shelf
attribute [local go_sem] Oper.semAt_some
set_option linter.unusedVariables false

abbrev P64 := { x : Nat // x < 64 }

set_option maxRecDepth 100000 in
set_option maxHeartbeats 2000000 in
theorem place_stops (F : Fence) (n : Nat) (hF : F.fn 57) (hro : F.round = none) (hn : 1 ≤ n) (w : World) :
    SeqStops F n Tryd.prog 57 #[] (fun v : P64 => Value.int .i64 ((v.1 : Nat) : Int)) (fun xs => xs.map (·.1) = plc 64) (fun _ => True) 64 w := fun l J Jx W _ _ _ hY h0 => by
  refine callsIn_of_wp Tryd.func57 rfl hF ?_ hro
  simp only [Tryd.ntmps57, List.size_toArray, List.length_cons, List.length_nil, Nat.reduceAdd, Nat.reduceSub, Array.replicate_succ, Array.replicate_zero, List.push_toArray, List.append_toArray, List.nil_append, List.cons_append]
  gi_wp2
  gi_loopw [2, 3] (fun p i wr => ∃ (k q : Nat) (pre : List P64), k ≤ 64 ∧ i = .int .i64 k ∧ q = 43 * k % 64 ∧ p = .int .i64 q ∧ pre.map (·.1) = plc k ∧ J pre wr) (fun _ i _ => 64 - (intOf i).toNat)
  case atStart => exact ⟨0, 0, [], Nat.zero_le _, rfl, rfl, rfl, rfl, h0⟩
  case round =>
    obtain ⟨k, q, pre, hk, rfl, hq, rfl, hp, hJ⟩ := hrel
    have hq64 : q < 64 := by omega
    have hl : pre.length = k := by have := congrArg List.length hp; simpa [plc_len] using this
    by_cases hlt : k < 64
    · obtain ⟨fn, tmps, assign, body, hy, hR⟩ := hY pre ⟨q, hq64⟩ wr hJ (by omega)
      dsimp only at hy
      have HQ : Hid (q = 43 * k % 64) := hq
      have HP : Hid (pre.map (·.1) = plc k) := hp
      have HL : Hid (pre.length = k) := hl
      clear hq hp hl
      gi_wp2
      refine hR.mono ?_
      rintro e W3 (⟨rfl, hJ3, hk3⟩ | ⟨rfl, hJx3⟩)
      · gi_wp2
        go_roundw
        case rel => exact ⟨k + 1, (q + 43) % 64, pre ++ [⟨q, hq64⟩], by omega, by go_num, by rw [HQ.out]; omega, by go_num, by rw [List.map_append, HP.out, plc_succ, ← HQ.out]; rfl, hJ3⟩
        case measure => simp [intOf]; omega
      · gi_wp2
        refine bodyPost_ret (results_none rfl _ _ _) rfl ?_
        exact ⟨⟨_, rfl⟩, .inr ⟨_, trivial, hJx3⟩⟩
    · have hke : k = 64 := by omega
      subst hke
      gi_wp2
      go_end0
      exact ⟨⟨_, rfl⟩, .inl ⟨pre, hp, hJ⟩⟩
end Go.Proofs.YtmhpgkfaihcmeaaDoor
