/-
  How many bits a byte wants: math/bits.Len8.
-/
import Derived.Test.YtdhnlbekkicjcaaDoorBase
namespace Go.Proofs.YtdhnlbekkicjcaaDoor
open Go.RowKit
set_option linter.unusedVariables false

set_option maxRecDepth 100000 in
set_option maxHeartbeats 1600000 in
theorem len8_any (t b : Nat) (w : World) (h1 : 2 ^ b ≤ t) (h2 : t < 2 ^ (b + 1)) (hb : b < 8) :
    Calls Tryd.prog 48 #[.int .u8 (t : Int)] w fun e w' => e = .returned (.int .i64 ((b : Int) + 1)) ∧ w' = w := by
  have h256 : t < 256 := Nat.lt_of_lt_of_le h2 (Nat.pow_le_pow_right (n := 2) (by omega) (show b + 1 ≤ 8 by omega))
  have hi : (t : Int) < 256 := by omega
  have H1 : Hid (2 ^ b ≤ t) := h1
  have H2 : Hid (t < 2 ^ (b + 1)) := h2
  clear h1 h2
  go_enter Tryd.func48, Tryd.ntmps48
  go_wp2
  go_ret
  refine ⟨ret_int ?_, rfl⟩
  have e : ∀ (S : ByteArray) (h : t < S.size), S[t] = S.data.toList.getD t 0 := by
    intro S h
    have h' : t < S.data.toList.length := by simpa using h
    rw [List.getD_eq_getElem?_getD, List.getElem?_eq_getElem h']
    rfl
  rw [e]
  have h1 := H1.out
  have h2 := H2.out
  clear e hi H1 H2
  revert h2 h1
  revert b
  intro b hb
  revert b
  revert h256
  revert t
  decide +kernel
end Go.Proofs.YtdhnlbekkicjcaaDoor
