/-
  What the operations on bits come to, as plain numbers.
-/
import Derived.WalkKit
import Derived.Laws.BitsAllLaws
namespace Go.Proofs.Ytnelpioadpdphaa
open Go.RowKit

theorem ofInt_i64 (a : Nat) (ha : a < 9223372036854775808) : (BitVec.ofInt 64 (a : Int)).toNat = a := by
  rw [BitVec.ofInt_natCast, BitVec.toNat_ofNat]; exact Nat.mod_eq_of_lt (by omega)

theorem i64_and_nat (a b : Nat) (ha : a < 9223372036854775808) (hb : b < 9223372036854775808) : bits .and .i64 (a : Int) (b : Int) = ((a &&& b : Nat) : Int) := by
  have hx : a &&& b < 2 ^ 63 := Nat.and_lt_two_pow _ (by omega)
  show IntKind.i64.wrap ((BitVec.ofInt 64 (a : Int) &&& BitVec.ofInt 64 (b : Int)).toNat : Int) = _
  rw [BitVec.toNat_and, ofInt_i64 a ha, ofInt_i64 b hb, IntKind.wrap_i64]
  omega

theorem i64_or_nat (a b : Nat) (ha : a < 9223372036854775808) (hb : b < 9223372036854775808) : bits .or .i64 (a : Int) (b : Int) = ((a ||| b : Nat) : Int) := by
  have hx : a ||| b < 2 ^ 63 := Nat.or_lt_two_pow (by omega) (by omega)
  show IntKind.i64.wrap ((BitVec.ofInt 64 (a : Int) ||| BitVec.ofInt 64 (b : Int)).toNat : Int) = _
  rw [BitVec.toNat_or, ofInt_i64 a ha, ofInt_i64 b hb, IntKind.wrap_i64]
  omega

/-- The bit k of a byte, as an int. -/
theorem bit64 (z : Int) (k : Nat) (h : 0 ≤ z ∧ z ≤ 255) : bits .and .i64 (wrap64 (z / 2 ^ k)) 1 = ((z.toNat / 2 ^ k % 2 : Nat) : Int) := by
  obtain ⟨n, rfl⟩ := Int.eq_ofNat_of_zero_le h.1
  have e : ((n : Int) / 2 ^ k) = ((n / 2 ^ k : Nat) : Int) := by simp
  have hle : n / 2 ^ k ≤ n := Nat.div_le_self _ _
  rw [e, Int.toNat_natCast]
  generalize n / 2 ^ k = m at *
  rw [IntWalk.wrap64_in _ (by omega)]
  have := i64_and_nat m 1 (by omega) (by omega)
  rw [show ((1 : Nat) : Int) = 1 from rfl] at this
  rw [this, nat_mask1]

/-- 'n | bit << i' where n has i bits. -/
theorem or_bit64 (n b i : Nat) (hn : n < 2 ^ i) (hb : b ≤ 1) (hi : i ≤ 31) : bits .or .i64 (n : Int) ((b * 2 ^ i : Nat) : Int) = ((n + b * 2 ^ i : Nat) : Int) := by
  have h1 : 2 ^ i ≤ 2 ^ 31 := Nat.pow_le_pow_right (by omega) hi
  have h2 : b * 2 ^ i ≤ 1 * 2 ^ i := Nat.mul_le_mul_right _ hb
  rw [i64_or_nat n (b * 2 ^ i) (by omega) (by omega)]
  congr 1
  rw [Nat.or_comm, nat_join i _ _ (by simp) hn, Nat.add_comm]

theorem or_step64 (X j k : Nat) (z : Int) (hz : 0 ≤ z ∧ z ≤ 255) (hx : X < 2 ^ j) (hj : j ≤ 31) :
    bits .or .i64 (X : Int) (wrap64 (bits .and .i64 (wrap64 (z / 2 ^ k)) 1 * 2 ^ j)) = ((X + z.toNat / 2 ^ k % 2 * 2 ^ j : Nat) : Int) := by
  rw [bit64 z k hz]
  have hb : z.toNat / 2 ^ k % 2 ≤ 1 := by omega
  generalize z.toNat / 2 ^ k % 2 = bt at *
  have e : ((bt : Nat) : Int) * 2 ^ j = ((bt * 2 ^ j : Nat) : Int) := by simp
  have h1 : 2 ^ j ≤ 2 ^ 31 := Nat.pow_le_pow_right (by omega) hj
  have h2 : bt * 2 ^ j ≤ 1 * 2 ^ j := Nat.mul_le_mul_right _ hb
  have h3 := or_bit64 X bt j hx hb hj
  rw [e]
  generalize bt * 2 ^ j = y at *
  rw [IntWalk.wrap64_in _ (by omega)]
  exact h3

/-- 'old | byte(x)' where old has u bits and x none of them. -/
theorem or_u8 (old x u : Nat) (ho : old < 2 ^ u) (hx : x % 2 ^ u = 0) (h8 : x < 256) (h9 : old < 256) : bits .or .u8 (old : Int) (x : Int) = ((old + x : Nat) : Int) := by
  rw [u8_or_nat old x h9 h8]
  congr 1
  rw [Nat.or_comm, nat_join u _ _ hx ho, Nat.add_comm]

end Go.Proofs.Ytnelpioadpdphaa
