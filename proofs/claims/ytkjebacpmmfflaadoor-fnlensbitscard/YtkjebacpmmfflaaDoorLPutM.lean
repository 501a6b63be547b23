/-
  Lengths as bits: four each, and three behind a nought that tell how many follow. Numbers alone.
-/
import Derived.Test.YtkjebacpmmfflaaDoorIParts
namespace Go.Proofs.YtkjebacpmmfflaaDoor
open Go.RowKit
set_option linter.unusedVariables false

/-- How many noughts a row begins with. -/
def nou : List Int → Nat
  | [] => 0
  | z :: t => if z = 0 then nou t + 1 else 0
theorem nou_le (l : List Int) : nou l ≤ l.length := by
  induction l with
  | nil => simp [nou]
  | cons z t ih => simp only [nou, List.length_cons]; split <;> omega
theorem nou_zero (l : List Int) (k : Nat) (h : k < nou l) : l.getD k 0 = 0 := by
  induction l generalizing k with
  | nil => simp [nou] at h
  | cons z t ih =>
    simp only [nou] at h
    split at h
    · rename_i hz
      cases k with
      | zero => simpa using hz
      | succ k => simpa using ih k (by omega)
    · omega
theorem nou_stop (l : List Int) (h : nou l < l.length) : l.getD (nou l) 0 ≠ 0 := by
  induction l with
  | nil => simp [nou] at h
  | cons z t ih =>
    by_cases hz : z = 0
    · have e : nou (z :: t) = nou t + 1 := by simp [nou, hz]
      rw [e] at h ⊢
      simpa using ih (by simpa using h)
    · have e : nou (z :: t) = 0 := by simp [nou, hz]
      rw [e]
      simpa using hz
/-- How many noughts are told behind the one at i. -/
def run (zs : List Int) (i : Nat) : Nat := min (nou (zs.drop (i + 1))) 7
/-- Bits and number, from the i-th length on. -/
def lp (zs : List Int) : Nat → Nat → Nat → Nat → Nat × Nat
  | 0, _, n, V => (n, V)
  | f + 1, i, n, V => if i < zs.length then (if zs.getD i 0 = 0 then lp zs f (i + 1 + run zs i) (n + 7) (V + run zs i * 2 ^ (n + 4)) else lp zs f (i + 1) (n + 4) (V + (zs.getD i 0).toNat * 2 ^ n)) else (n, V)
def lpF (zs : List Int) : Nat × Nat := lp zs zs.length 0 0 0
theorem lp_end (zs : List Int) (f i n V : Nat) (h : ¬ i < zs.length) : lp zs f i n V = (n, V) := by
  cases f with
  | zero => rfl
  | succ f => simp [lp, h]
theorem lp_zero (zs : List Int) (f i n V : Nat) (h : i < zs.length) (hz : zs.getD i 0 = 0) : lp zs (f + 1) i n V = lp zs f (i + 1 + run zs i) (n + 7) (V + run zs i * 2 ^ (n + 4)) := by
  simp only [lp]; rw [if_pos h, if_pos hz]
theorem lp_pos (zs : List Int) (f i n V : Nat) (h : i < zs.length) (hz : ¬ zs.getD i 0 = 0) : lp zs (f + 1) i n V = lp zs f (i + 1) (n + 4) (V + (zs.getD i 0).toNat * 2 ^ n) := by
  simp only [lp]; rw [if_pos h, if_neg hz]
theorem lp_le (zs : List Int) (f i n V : Nat) : (lp zs f i n V).1 ≤ n + 7 * f := by
  induction f generalizing i n V with
  | zero => simp [lp]
  | succ f ih =>
    simp only [lp]
    split
    · split
      · have := ih (i + 1 + run zs i) (n + 7) (V + run zs i * 2 ^ (n + 4)); omega
      · have := ih (i + 1) (n + 4) (V + (zs.getD i 0).toNat * 2 ^ n); omega
    · simp
theorem run_le (zs : List Int) (i : Nat) (h : i < zs.length) : run zs i ≤ 7 ∧ i + 1 + run zs i ≤ zs.length := by
  have := nou_le (zs.drop (i + 1))
  rw [List.length_drop] at this
  unfold run
  omega
theorem drop_getD (zs : List Int) (i j : Nat) : (zs.drop i).getD j 0 = zs.getD (i + j) 0 := by simp [List.getD_eq_getElem?_getD]
theorem run_in (zs : List Int) (i j : Nat) (hj : j < run zs i) : j < 7 ∧ i + j + 1 < zs.length ∧ zs.getD (i + j + 1) 0 = 0 := by
  have h1 : j < nou (zs.drop (i + 1)) := by unfold run at hj; omega
  have h2 := nou_le (zs.drop (i + 1))
  rw [List.length_drop] at h2
  have h3 := nou_zero _ j h1
  rw [drop_getD] at h3
  refine ⟨by unfold run at hj; omega, by omega, ?_⟩
  rw [← h3]; congr 1; omega
theorem run_out (zs : List Int) (i : Nat) (hi : i < zs.length) (h7 : run zs i < 7) (hl : i + run zs i + 1 < zs.length) : zs.getD (i + run zs i + 1) 0 ≠ 0 := by
  have h1 : run zs i = nou (zs.drop (i + 1)) := by unfold run at *; omega
  have h2 := nou_stop (zs.drop (i + 1)) (by rw [List.length_drop, ← h1]; omega)
  rw [← h1, drop_getD] at h2
  intro h
  apply h2
  rw [← h]; congr 1; omega
end Go.Proofs.YtkjebacpmmfflaaDoor
