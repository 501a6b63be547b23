/-
  The longest piece, in numbers: the model's best distance and the program's best place are one.
-/
import Derived.Below
namespace Go.Proofs.Ytgppjlbocppjlaa
open Go.RowKit
set_option linter.unusedVariables false

/-- How many letters from a on are those from p on, at most f. -/
def alkF (ys : List Int) (p a : Nat) : Nat → Nat
  | 0 => 0
  | f + 1 => if ys.getD p 0 = ys.getD a 0 then alkF ys (p + 1) (a + 1) f + 1 else 0
def alk (ys : List Int) (p a : Nat) : Nat := alkF ys p a (ys.length - a)
theorem alkF_le (ys : List Int) : ∀ f p a, alkF ys p a f ≤ f
  | 0, p, a => Nat.le_refl _
  | f + 1, p, a => by
    have h := alkF_le ys f (p + 1) (a + 1)
    simp only [alkF]
    split <;> omega
theorem alkF_eq (ys : List Int) : ∀ f p a j, j < alkF ys p a f → ys.getD (p + j) 0 = ys.getD (a + j) 0
  | 0, p, a, j, h => by simp [alkF] at h
  | f + 1, p, a, j, h => by
    simp only [alkF] at h
    split at h
    · rename_i h1
      cases j with
      | zero => exact h1
      | succ j =>
        have := alkF_eq ys f (p + 1) (a + 1) j (by omega)
        rw [show p + (j + 1) = p + 1 + j by omega, show a + (j + 1) = a + 1 + j by omega]
        exact this
    · omega
theorem alkF_end (ys : List Int) : ∀ f p a, alkF ys p a f < f → ys.getD (p + alkF ys p a f) 0 ≠ ys.getD (a + alkF ys p a f) 0
  | 0, p, a, h => by omega
  | f + 1, p, a, h => by
    simp only [alkF] at h ⊢
    split at h
    · rename_i h1
      rw [if_pos h1]
      have := alkF_end ys f (p + 1) (a + 1) (by omega)
      rw [show p + (alkF ys (p + 1) (a + 1) f + 1) = p + 1 + alkF ys (p + 1) (a + 1) f by omega, show a + (alkF ys (p + 1) (a + 1) f + 1) = a + 1 + alkF ys (p + 1) (a + 1) f by omega]
      exact this
    · rename_i h1
      rw [if_neg h1]
      exact h1
theorem alk_le (ys : List Int) (p a : Nat) : alk ys p a ≤ ys.length - a := alkF_le ys _ p a
/-- A number that goes on while letters are alike, and stops, is it. -/
theorem alk_is (ys : List Int) (p a n : Nat) (h1 : a + n ≤ ys.length) (h2 : ∀ j, j < n → ys.getD (p + j) 0 = ys.getD (a + j) 0) (h3 : a + n < ys.length → ys.getD (p + n) 0 ≠ ys.getD (a + n) 0) : alk ys p a = n := by
  rcases Nat.lt_trichotomy (alk ys p a) n with h | h | h
  · exact absurd (h2 _ h) (alkF_end ys _ p a (by show alk ys p a < _; omega))
  · exact h
  · have h4 := alk_le ys p a
    exact absurd (alkF_eq ys _ p a n h) (h3 (by omega))
theorem alk_three (ys : List Int) (p a : Nat) (h : a + 3 ≤ ys.length) : 3 ≤ alk ys p a ↔ (ys.getD p 0 = ys.getD a 0 ∧ ys.getD (p + 1) 0 = ys.getD (a + 1) 0 ∧ ys.getD (p + 2) 0 = ys.getD (a + 2) 0) := by
  constructor
  · intro h1
    exact ⟨alkF_eq ys _ p a 0 (by show 0 < alk ys p a; omega), alkF_eq ys _ p a 1 (by show 1 < alk ys p a; omega), alkF_eq ys _ p a 2 (by show 2 < alk ys p a; omega)⟩
  · rintro ⟨h1, h2, h3⟩
    rcases Nat.lt_or_ge (alk ys p a) 3 with h4 | h4
    · exfalso
      have h5 := alkF_end ys _ p a (show alk ys p a < ys.length - a by omega)
      have h6 : alk ys p a = 0 ∨ alk ys p a = 1 ∨ alk ys p a = 2 := by omega
      change ys.getD (p + alk ys p a) 0 ≠ ys.getD (a + alk ys p a) 0 at h5
      rcases h6 with h6 | h6 | h6 <;> rw [h6] at h5
      · exact h5 h1
      · exact h5 h2
      · exact h5 h3
    · exact h4
/-- The model's best one of the distances up to k; the program's best one of the first k places. -/
def lzD (ys : List Int) (a : Nat) : Nat → Nat × Nat
  | 0 => (0, 0)
  | k + 1 => if (lzD ys a k).1 < alk ys (a - (k + 1)) a then (alk ys (a - (k + 1)) a, k + 1) else lzD ys a k
def lzP (ys : List Int) (a : Nat) : Nat → Nat × Nat
  | 0 => (0, 0)
  | k + 1 => if 3 ≤ alk ys k a ∧ (lzP ys a k).1 ≤ alk ys k a then (alk ys k a, a - k) else lzP ys a k
theorem lzD_spec (ys : List Int) (a : Nat) : ∀ k, (∀ d, 1 ≤ d → d ≤ k → alk ys (a - d) a ≤ (lzD ys a k).1) ∧ (lzD ys a k = (0, 0) ∨ ∃ d, 1 ≤ d ∧ d ≤ k ∧ lzD ys a k = (alk ys (a - d) a, d) ∧ ∀ e, 1 ≤ e → e < d → alk ys (a - e) a < alk ys (a - d) a)
  | 0 => ⟨fun d h1 h2 => by omega, .inl rfl⟩
  | k + 1 => by
    obtain ⟨h1, h2⟩ := lzD_spec ys a k
    simp only [lzD]
    split
    · rename_i h
      refine ⟨fun d d1 d2 => ?_, .inr ⟨k + 1, by omega, Nat.le_refl _, rfl, fun e e1 e2 => Nat.lt_of_le_of_lt (h1 e e1 (by omega)) h⟩⟩
      rcases Nat.lt_or_ge d (k + 1) with h3 | h3
      · exact Nat.le_trans (h1 d d1 (by omega)) (Nat.le_of_lt h)
      · rw [show d = k + 1 by omega]
        exact Nat.le_refl _
    · rename_i h
      refine ⟨fun d d1 d2 => ?_, ?_⟩
      · rcases Nat.lt_or_ge d (k + 1) with h3 | h3
        · exact h1 d d1 (by omega)
        · rw [show d = k + 1 by omega]
          omega
      · rcases h2 with h2 | ⟨d, d1, d2, d3, d4⟩
        · exact .inl h2
        · exact .inr ⟨d, d1, by omega, d3, d4⟩
theorem lzP_spec (ys : List Int) (a : Nat) : ∀ k, (∀ p, p < k → 3 ≤ alk ys p a → alk ys p a ≤ (lzP ys a k).1) ∧ ((lzP ys a k = (0, 0) ∧ ∀ p, p < k → alk ys p a < 3) ∨ ∃ p, p < k ∧ lzP ys a k = (alk ys p a, a - p) ∧ 3 ≤ alk ys p a ∧ ∀ q, p < q → q < k → alk ys q a < alk ys p a)
  | 0 => ⟨fun d h1 => by omega, .inl ⟨rfl, fun p hp => by omega⟩⟩
  | k + 1 => by
    obtain ⟨h1, h2⟩ := lzP_spec ys a k
    simp only [lzP]
    split
    · rename_i h
      refine ⟨fun p p1 p2 => ?_, .inr ⟨k, by omega, rfl, h.1, fun q q1 q2 => by omega⟩⟩
      rcases Nat.lt_or_ge p k with h3 | h3
      · exact Nat.le_trans (h1 p h3 p2) h.2
      · rw [show p = k by omega]
        exact Nat.le_refl _
    · rename_i h
      refine ⟨fun p p1 p2 => ?_, ?_⟩
      · rcases Nat.lt_or_ge p k with h3 | h3
        · exact h1 p h3 p2
        · rw [show p = k by omega] at p2 ⊢
          rcases Nat.lt_or_ge (alk ys k a) (lzP ys a k).1 with h4 | h4
          · omega
          · exact absurd ⟨p2, h4⟩ h
      · rcases h2 with ⟨h2, h3⟩ | ⟨p, p1, p2, p3, p4⟩
        · refine .inl ⟨h2, fun p hp => ?_⟩
          rcases Nat.lt_or_ge p k with h5 | h5
          · exact h3 p h5
          · rw [show p = k by omega]
            rcases Nat.lt_or_ge (alk ys k a) 3 with h6 | h6
            · exact h6
            · exact absurd ⟨h6, by rw [h2]; omega⟩ h
        · refine .inr ⟨p, by omega, p2, p3, fun q q1 q2 => ?_⟩
          rcases Nat.lt_or_ge q k with h5 | h5
          · exact p4 q q1 h5
          · rw [show q = k by omega]
            rcases Nat.lt_or_ge (alk ys k a) (alk ys p a) with h6 | h6
            · exact h6
            · exact absurd ⟨by omega, by rw [p2]; exact h6⟩ h
/-- What Longest answers. -/
def lzA (ys : List Int) (a : Nat) : Nat × Nat := if (lzD ys a a).1 < 3 then (0, 0) else lzD ys a a
theorem lzP_lzA (ys : List Int) (a : Nat) : lzP ys a a = lzA ys a := by
  obtain ⟨d1, d2⟩ := lzD_spec ys a a
  obtain ⟨p1, p2⟩ := lzP_spec ys a a
  unfold lzA
  split
  · rename_i h
    rcases p2 with ⟨p2, _⟩ | ⟨p, q1, q2, q3, q4⟩
    · exact p2
    · have := d1 (a - p) (by omega) (by omega)
      rw [show a - (a - p) = p by omega] at this
      omega
  · rename_i h
    rcases d2 with d2 | ⟨d, e1, e2, e3, e4⟩
    · rw [d2] at h
      simp at h
    · have h3 : 3 ≤ alk ys (a - d) a := by rw [e3] at h; simp only at h; omega
      have hp := p1 (a - d) (by omega) h3
      rcases p2 with ⟨p2, p3⟩ | ⟨p, q1, q2, q3, q4⟩
      · have := p3 (a - d) (by omega)
        omega
      · rw [q2] at hp
        simp only at hp
        have h5 := d1 (a - p) (by omega) (by omega)
        rw [show a - (a - p) = p by omega, e3] at h5
        simp only at h5
        have h6 : p = a - d := by
          rcases Nat.lt_trichotomy p (a - d) with h7 | h7 | h7
          · have := q4 (a - d) h7 (by omega)
            omega
          · exact h7
          · have := e4 (a - p) (by omega) (by omega)
            rw [show a - (a - p) = p by omega] at this
            omega
        rw [q2, e3, h6, show a - (a - d) = d by omega]
end Go.Proofs.Ytgppjlbocppjlaa
