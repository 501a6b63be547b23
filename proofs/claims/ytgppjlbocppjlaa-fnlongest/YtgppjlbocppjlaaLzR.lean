/-
  The places that are offered, in numbers.
-/
import Derived.Test.YtgppjlbocppjlaaLzQ
namespace Go.Proofs.Ytgppjlbocppjlaa
open Go.RowKit
set_option linter.unusedVariables false

def ofrs (ys : List Int) (q : Nat) (l : List Int) : Nat × Nat := l.foldl (fun b p => ofr ys q p.toNat b) (0, 0)
theorem ofrs_snoc (ys : List Int) (q : Nat) (l : List Int) (p : Nat) : ofrs ys q (l ++ [(p : Int)]) = ofr ys q p (ofrs ys q l) := by
  simp [ofrs]
theorem lzP_short (ys : List Int) (q : Nat) (h : ¬ q + 3 ≤ ys.length) : ∀ k, lzP ys q k = (0, 0)
  | 0 => rfl
  | k + 1 => by
    have := alk_le ys k q
    rw [lzP, if_neg (by omega)]
    exact lzP_short ys q h k
theorem ofrs_lzP (ys : List Int) (q : Nat) (h : q + 3 ≤ ys.length) : ∀ k, k ≤ q → ofrs ys q (lpl ys k (tri ys q)) = lzP ys q k
  | 0, _ => rfl
  | k + 1, hk => by
    have ih := ofrs_lzP ys q h k (by omega)
    have h3 := alk_three ys k q h
    have ht : tri ys q = tri ys k ↔ 3 ≤ alk ys k q := by
      rw [h3]
      simp only [tri, Prod.mk.injEq]
      constructor
      · rintro ⟨a, b, c⟩; exact ⟨a.symm, b.symm, c.symm⟩
      · rintro ⟨a, b, c⟩; exact ⟨a.symm, b.symm, c.symm⟩
    simp only [lpl, lzP]
    by_cases hc : tri ys q = tri ys k
    · rw [if_pos ⟨by omega, hc⟩, ofrs_snoc, ih]
      unfold ofr
      have h4 := ht.1 hc
      by_cases hd : (lzP ys q k).1 ≤ alk ys k q
      · rw [if_pos hd, if_pos ⟨h4, hd⟩]
      · rw [if_neg hd, if_neg (fun h => hd h.2)]
    · rw [if_neg (fun h => hc h.2), if_neg (fun h => hc (ht.2 h.1)), ih]
theorem lpl_mem (ys : List Int) (k : Nat) (q : Int × Int × Int) : ∀ z ∈ lpl ys k q, 0 ≤ z ∧ z < k := by
  induction k with
  | zero => simp [lpl]
  | succ k ih =>
    intro z hz
    simp only [lpl] at hz
    split at hz
    · rcases List.mem_append.1 hz with hz | hz
      · have := ih z hz; omega
      · simp at hz; omega
    · have := ih z hz; omega
theorem lpl_app (ys : List Int) (q : Nat) (Q : Int × Int × Int) : ∀ d, ∃ r, lpl ys (q + d) Q = lpl ys q Q ++ r ∧ ∀ z ∈ r, (q : Int) ≤ z
  | 0 => ⟨[], by simp, by simp⟩
  | d + 1 => by
    obtain ⟨r, h1, h2⟩ := lpl_app ys q Q d
    rw [← Nat.add_assoc]
    simp only [lpl]
    split
    · refine ⟨r ++ [((q + d : Nat) : Int)], by rw [h1, List.append_assoc], fun z hz => ?_⟩
      rcases List.mem_append.1 hz with hz | hz
      · exact h2 z hz
      · simp at hz; omega
    · exact ⟨r, h1, h2⟩
/-- The list that is gone through: those ahead of q, then q or more. -/
theorem lpl_parts (ys : List Int) (q : Nat) (hq : q + 3 ≤ ys.length) : ∃ l r : List Int, lpl ys ys.length (tri ys q) = l ++ r ∧ 1 ≤ r.length ∧ (∀ z ∈ l, 0 ≤ z ∧ z < q) ∧ (∀ z ∈ r, (q : Int) ≤ z) ∧ ofrs ys q l = lzP ys q q := by
  obtain ⟨r, h1, h2⟩ := lpl_app ys (q + 1) (tri ys q) (ys.length - (q + 1))
  rw [show q + 1 + (ys.length - (q + 1)) = ys.length by omega] at h1
  have h3 : lpl ys (q + 1) (tri ys q) = lpl ys q (tri ys q) ++ [(q : Int)] := by simp only [lpl]; rw [if_pos ⟨hq, trivial⟩]
  refine ⟨lpl ys q (tri ys q), (q : Int) :: r, by rw [h1, h3, List.append_assoc]; rfl, by simp, lpl_mem ys q _, fun z hz => ?_, ofrs_lzP ys q hq q (Nat.le_refl _)⟩
  · rcases List.mem_cons.1 hz with hz | hz
    · omega
    · have := h2 z hz; omega
end Go.Proofs.Ytgppjlbocppjlaa
