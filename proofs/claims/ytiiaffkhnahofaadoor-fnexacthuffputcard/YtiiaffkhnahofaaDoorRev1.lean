/-
  Codes turned round: the highest bit first.
-/
import Derived.Test.YtiiaffkhnahofaaDoorBase
namespace Go.Proofs.YtiiaffkhnahofaaDoor
open Go.RowKit
set_option linter.unusedVariables false

/-- The first j bits of the code c of L bits, from its highest on, as a number that has the first one lowest. -/
def rvp (c L : Nat) : Nat → Nat
  | 0 => 0
  | j + 1 => rvp c L j + (c / 2 ^ (L - 1 - j) % 2) * 2 ^ j
theorem rvp_lt (c L j : Nat) : rvp c L j < 2 ^ j := by
  induction j with
  | zero => simp [rvp]
  | succ j ih =>
    simp only [rvp]
    have h1 : c / 2 ^ (L - 1 - j) % 2 ≤ 1 := by omega
    have h2 : (c / 2 ^ (L - 1 - j) % 2) * 2 ^ j ≤ 1 * 2 ^ j := Nat.mul_le_mul_right _ h1
    rw [Nat.pow_succ]
    omega
theorem rvp_congr {c d L M j : Nat} (h : ∀ i, i < j → c / 2 ^ (L - 1 - i) % 2 = d / 2 ^ (M - 1 - i) % 2) : rvp c L j = rvp d M j := by
  induction j with
  | zero => rfl
  | succ j ih =>
    simp only [rvp]
    rw [ih (fun i hi => h i (by omega)), h j (by omega)]
theorem rvp_split (x a b j : Nat) (hj : j ≤ b) : rvp x (a + b) (a + j) = rvp x (a + b) a + 2 ^ a * rvp x b j := by
  induction j with
  | zero => simp [rvp]
  | succ j ih =>
    rw [show a + (j + 1) = (a + j) + 1 from rfl]
    simp only [rvp]
    rw [ih (by omega), show a + b - 1 - (a + j) = b - 1 - j from by omega, Nat.pow_add, Nat.mul_add]
    have e : x / 2 ^ (b - 1 - j) % 2 * (2 ^ a * 2 ^ j) = 2 ^ a * (x / 2 ^ (b - 1 - j) % 2 * 2 ^ j) := by rw [Nat.mul_left_comm]
    rw [e]
    omega
theorem rvp_shift (x L : Nat) (h : L ≤ 16) : rvp x 16 16 / 2 ^ (16 - L) = rvp x L L := by
  have h1 := rvp_split x (16 - L) L L (Nat.le_refl _)
  rw [show 16 - L + L = 16 from by omega] at h1
  rw [h1, Nat.add_mul_div_left _ _ (Nat.pow_pos (by omega)), Nat.div_eq_of_lt (rvp_lt _ _ _), Nat.zero_add]
theorem bit_mod (c k i : Nat) (h : i < k) : c % 2 ^ k / 2 ^ i % 2 = c / 2 ^ i % 2 := by
  have e : 2 ^ k = 2 ^ i * 2 ^ (k - i) := by rw [← Nat.pow_add]; congr 1; omega
  rw [e, Nat.mod_mul_right_div_self]
  have d : 2 ∣ 2 ^ (k - i) := ⟨2 ^ (k - i - 1), by rw [← Nat.pow_succ']; congr 1; omega⟩
  exact Nat.mod_mod_of_dvd _ d
theorem rvp_mod (c L k : Nat) (h : L ≤ k) : rvp (c % 2 ^ k) L L = rvp c L L := rvp_congr (fun i hi => bit_mod c k (L - 1 - i) (by omega))
theorem rvp_16 (x : Nat) : rvp x 16 16 = rvp (x / 256) 8 8 + 256 * rvp (x % 256) 8 8 := by
  have h1 := rvp_split x 8 8 8 (Nat.le_refl _)
  have h2 : rvp x (8 + 8) 8 = rvp (x / 256) 8 8 := rvp_congr (fun i hi => by
    rw [show 8 + 8 - 1 - i = 8 + (8 - 1 - i) from by omega, Nat.pow_add, ← Nat.div_div_eq_div_mul])
  have h3 := rvp_mod x 8 8 (Nat.le_refl _)
  rw [show (8 : Nat) + 8 = 16 from rfl] at h1 h2
  rw [h1, h2, show 256 = 2 ^ 8 from rfl, h3]
end Go.Proofs.YtiiaffkhnahofaaDoor
