/-
  How many bits a number wants: math/bits.Len, at numbers below 256.
-/
import Derived.Test.YtecmnbdnnlifhaaDoorBase
namespace Go.Proofs.YtecmnbdnnlifhaaDoor
open Go.RowKit
set_option linter.unusedVariables false

/-- How many bits n has. -/
def bl (n : Nat) : Nat := if n = 0 then 0 else Nat.log2 n + 1
theorem bl_all : ∀ n, n < 256 → n < 2 ^ bl n ∧ (∀ k, k < 9 → k < bl n → 2 ^ k ≤ n) ∧ bl n ≤ 8 ∧ (n ≤ 64 → bl n ≤ 7) := by decide +kernel
theorem bl_lt (n : Nat) (h : n < 256) : n < 2 ^ bl n := (bl_all n h).1
theorem bl_ge (n k : Nat) (h : n < 256) (hk : k < bl n) : 2 ^ k ≤ n := (bl_all n h).2.1 k (by have := (bl_all n h).2.2.1; omega) hk
theorem bl_le (n : Nat) (h : n < 256) : bl n ≤ 8 := (bl_all n h).2.2.1
theorem bl_le7 (n : Nat) (h : n ≤ 64) : bl n ≤ 7 := (bl_all n (by omega)).2.2.2 h
theorem bl_zero : bl 0 = 0 := rfl

set_option maxRecDepth 100000 in
set_option maxHeartbeats 1600000 in
theorem len64_int (x : Int) (w : World) (h0 : 0 ≤ x) (h : x < 256) :
    Calls Tryd.prog 66 #[.int .u64 x] w fun e w' => e = .returned (.int .i64 (bl x.toNat : Nat)) ∧ w' = w := by
  generalize hy : ((bl x.toNat : Nat) : Int) = y
  have HY : Hid (((bl x.toNat : Nat) : Int) = y) := hy
  clear hy
  go_enter Tryd.func66, Tryd.ntmps66
  go_wp2
  go_ret
  refine ⟨ret_int ?_, rfl⟩
  rw [← HY.out]
  have hn : x.toNat < 256 := by omega
  have e : ∀ (n : Nat) (S : ByteArray) (h : n < S.size), S[n] = S.data.toList.getD n 0 := by
    intro n S h
    have h' : n < S.data.toList.length := by simpa using h
    rw [List.getD_eq_getElem?_getD, List.getElem?_eq_getElem h']
    rfl
  rw [e]
  generalize x.toNat = n at *
  revert hn
  clear HY e
  revert n
  decide +kernel
theorem len64_any (n : Nat) (w : World) (h : n < 256) :
    Calls Tryd.prog 66 #[.int .u64 (n : Int)] w fun e w' => e = .returned (.int .i64 (bl n : Nat)) ∧ w' = w := by
  have := len64_int (n : Int) w (by omega) (by omega)
  simpa using this

theorem len_any (n : Nat) (w : World) (h : n < 256) :
    Calls Tryd.prog 63 #[.int .u64 (n : Int)] w fun e w' => e = .returned (.int .i64 (bl n : Nat)) ∧ w' = w := by
  go_enter Tryd.func63, Tryd.ntmps63
  go_wp2_with fail
  refine (len64_any n w h).mono ?_
  rintro e w1 ⟨rfl, rfl⟩
  go_wp2
  go_ret
  exact ⟨rfl, rfl⟩
end Go.Proofs.YtecmnbdnnlifhaaDoor
