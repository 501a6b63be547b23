/-
  Maps as lists of places: which are right.
-/
import Derived.Test.YtnelpioadpdphaaPlP
namespace Go.Proofs.Ytnelpioadpdphaa
open Go.RowKit
set_option linter.unusedVariables false

def nwh (p : Int × Int) : Bool := p.1 == 0 && p.2 == 0
def rgt (p : Int × Int) : Bool := decide (2 ≤ p.1 ∧ p.1 ≤ 23 ∧ 0 ≤ p.2 ∧ p.2 ≤ 15)
/-- One of the first k is p. -/
def tkn (ps : List (Int × Int)) (p : Int × Int) : Nat → Bool
  | 0 => false
  | k + 1 => tkn ps p k || (ps.getD k dp == p)
def stpP (ps : List (Int × Int)) (i : Nat) : Bool := nwh (ps.getD i dp) || (rgt (ps.getD i dp) && !tkn ps (ps.getD i dp) i)
def okT (ps : List (Int × Int)) : Nat → Bool
  | 0 => true
  | k + 1 => okT ps k && stpP ps k
/-- Is it a right map? -/
def mapB (ps : List (Int × Int)) : Bool := decide (1 ≤ ps.length ∧ ps.length ≤ 16) && okT ps ps.length

theorem okT_le (ps : List (Int × Int)) (n k : Nat) (h : okT ps n = true) (hk : k ≤ n) : okT ps k = true := by
  induction n with
  | zero => obtain rfl : k = 0 := by omega
            exact h
  | succ n ih =>
    simp only [okT, Bool.and_eq_true] at h
    rcases Nat.lt_or_ge k (n + 1) with hk' | hk'
    · exact ih h.1 (by omega)
    · obtain rfl : k = n + 1 := by omega
      simp only [okT, Bool.and_eq_true]; exact h
theorem okT_no (ps : List (Int × Int)) (n k : Nat) (h : stpP ps k = false) (hk : k < n) : okT ps n = false := by
  cases hh : okT ps n
  · rfl
  · have := okT_le ps n (k + 1) hh (by omega)
    simp only [okT, h, Bool.and_false] at this
    cases this
theorem mapB_no (ps : List (Int × Int)) (k : Nat) (h : stpP ps k = false) (hk : k < ps.length) : mapB ps = false := by
  unfold mapB
  rw [okT_no ps _ k h hk, Bool.and_false]
theorem mapB_short (ps : List (Int × Int)) (h : ¬ (1 ≤ ps.length ∧ ps.length ≤ 16)) : mapB ps = false := by
  unfold mapB
  rw [decide_eq_false h, Bool.false_and]
theorem mapB_yes (ps : List (Int × Int)) (h : 1 ≤ ps.length ∧ ps.length ≤ 16) (h2 : okT ps ps.length = true) : mapB ps = true := by
  unfold mapB
  rw [decide_eq_true h, h2]; rfl
theorem mapB_len (ps : List (Int × Int)) (h : mapB ps = true) : 1 ≤ ps.length ∧ ps.length ≤ 16 := by
  unfold mapB at h
  simp only [Bool.and_eq_true, decide_eq_true_eq] at h
  exact h.1
theorem mapB_okT (ps : List (Int × Int)) (h : mapB ps = true) : okT ps ps.length = true := by
  unfold mapB at h
  simp only [Bool.and_eq_true, decide_eq_true_eq] at h
  exact h.2
theorem tkn_iff (ps : List (Int × Int)) (p : Int × Int) (k : Nat) : tkn ps p k = true ↔ ∃ i, i < k ∧ ps.getD i dp = p := by
  induction k with
  | zero => simp [tkn]
  | succ k ih =>
    simp only [tkn, Bool.or_eq_true, ih, beq_iff_eq]
    constructor
    · rintro (⟨i, hi, h⟩ | h)
      · exact ⟨i, by omega, h⟩
      · exact ⟨k, by omega, h⟩
    · rintro ⟨i, hi, h⟩
      rcases Nat.lt_or_ge i k with h' | h'
      · exact .inl ⟨i, h', h⟩
      · obtain rfl : i = k := by omega
        exact .inr h
theorem tkn_mono (ps : List (Int × Int)) (p : Int × Int) {k n : Nat} (h : tkn ps p k = true) (hk : k ≤ n) : tkn ps p n = true := by
  obtain ⟨i, hi, e⟩ := (tkn_iff ps p k).1 h
  exact (tkn_iff ps p n).2 ⟨i, by omega, e⟩
theorem below_dP {B : Nat} {a b : World} (h : Below B a b) (n : Nat) : Below B a (b.drewN n) := ⟨h.os, h.tape, h.output, h.size, h.block⟩
end Go.Proofs.Ytnelpioadpdphaa
