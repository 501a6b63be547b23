/-
  What is found in a text, in lists.
-/
import Derived.Test.YtbkmdgceobilkaaLzM
namespace Go.Proofs.Ytbkmdgceobilkaa
open Go.RowKit
set_option linter.unusedVariables false

/-- The longest piece at a place; none behind the end. -/
def lz (ys : List Int) (q : Nat) : Nat × Nat := if q < ys.length then lzA ys q else (0, 0)
/-- The letters from f up to q. -/
def cutL (ys : List Int) (f q : Nat) : List Int := (ys.drop f).take (q - f)
theorem cutL_nil (ys : List Int) (q : Nat) : cutL ys q q = [] := by simp [cutL]
theorem cutL_snoc (ys : List Int) (f q : Nat) (hf : f ≤ q) (hq : q < ys.length) : cutL ys f q ++ [ys.getD q 0] = cutL ys f (q + 1) := by
  unfold cutL
  rw [show q + 1 - f = (q - f) + 1 by omega, List.take_succ_eq_append_getElem (by simp; omega)]
  congr 1
  simp only [List.getElem_drop]
  rw [List.getD_eq_getElem?_getD, List.getElem?_eq_getElem hq]
  simp [show f + (q - f) = q by omega]
theorem cutL_len (ys : List Int) (f q : Nat) (hf : f ≤ q) (hq : q ≤ ys.length) : (cutL ys f q).length = q - f := by
  unfold cutL
  rw [List.length_take, List.length_drop]
  omega
theorem cutL_mem {ys : List Int} {f q : Nat} {z : Int} (h : z ∈ cutL ys f q) : z ∈ ys := List.mem_of_mem_drop (List.mem_of_mem_take h)
/-- At q the piece is taken. -/
def takes (ys : List Int) (q : Nat) : Prop := 0 < (lz ys q).1 ∧ (lz ys (q + 1)).1 ≤ (lz ys q).1
theorem lz_le (ys : List Int) (q : Nat) : q + (lz ys q).1 ≤ max q ys.length ∧ (lz ys q).2 ≤ q := by
  unfold lz
  split
  · unfold lzA
    have h1 := lzD_spec ys q q
    split
    · simp; omega
    · rcases h1.2 with h | ⟨d, d1, d2, h, _⟩
      · rw [h]; simp; omega
      · have := alk_le ys (q - d) q
        rw [h]
        simp only
        omega
  · simp; omega
/-- All that is found: what is taken, and the letters that are left. -/
def fin (ys : List Int) (f : Nat) (cs : List (List Int × Int × Int)) : List (List Int × Int × Int) := if f < ys.length then cs ++ [(cutL ys f ys.length, 0, 0)] else cs
/-- The same by steps that are counted. -/
def go (ys : List Int) : Nat → Nat → Nat → List (List Int × Int × Int) → Nat × List (List Int × Int × Int)
  | 0, f, q, cs => (f, cs)
  | n + 1, f, q, cs => if q < ys.length then (if 0 < (lz ys q).1 ∧ (lz ys (q + 1)).1 ≤ (lz ys q).1 then go ys n (q + (lz ys q).1) (q + (lz ys q).1) (cs ++ [(cutL ys f q, ((lz ys q).1 : Int), ((lz ys q).2 : Int))]) else go ys n f (q + 1) cs) else (f, cs)
/-- What Find tells of a text. -/
def found (ys : List Int) : List (List Int × Int × Int) := fin ys (go ys ys.length 0 0 []).1 (go ys ys.length 0 0 []).2
/-- Where the search is: letters wait from f on, it looks at q, cs is found. -/
structure St (ys : List Int) (f q : Nat) (cs : List (List Int × Int × Int)) : Prop where
  fq : f ≤ q
  ql : q ≤ ys.length
  cl : cs.length ≤ q
  parts : ∀ c ∈ cs, c.1.length ≤ ys.length ∧ (∃ n d : Nat, c.2 = ((n : Int), (d : Int)) ∧ n ≤ ys.length ∧ d ≤ ys.length)
  run : ∃ m, ys.length ≤ m + q ∧ go ys m f q cs = go ys ys.length 0 0 []
theorem St.start (ys : List Int) : St ys 0 0 [] := ⟨Nat.le_refl _, Nat.zero_le _, Nat.le_refl _, by simp, ys.length, by omega, rfl⟩
theorem St.wait {ys : List Int} {f q : Nat} {cs : List (List Int × Int × Int)} (h : St ys f q cs) (hq : q < ys.length) (ht : ¬ takes ys q) : St ys f (q + 1) cs := by
  have h1 := h.fq
  have h2 := h.cl
  refine ⟨by omega, hq, by omega, h.parts, ?_⟩
  obtain ⟨m, hm, hg⟩ := h.run
  obtain ⟨k, rfl⟩ : ∃ k, m = k + 1 := ⟨m - 1, by omega⟩
  refine ⟨k, by omega, ?_⟩
  rw [← hg]
  simp only [go]
  rw [if_pos hq, if_neg (show ¬ (0 < (lz ys q).1 ∧ (lz ys (q + 1)).1 ≤ (lz ys q).1) from ht)]
theorem St.take {ys : List Int} {f q : Nat} {cs : List (List Int × Int × Int)} (h : St ys f q cs) (hq : q < ys.length) (ht : takes ys q) : St ys (q + (lz ys q).1) (q + (lz ys q).1) (cs ++ [(cutL ys f q, ((lz ys q).1 : Int), ((lz ys q).2 : Int))]) := by
  have h1 := h.fq
  have h2 := h.cl
  have h3 := lz_le ys q
  have h4 := ht.1
  refine ⟨Nat.le_refl _, by omega, by rw [List.length_append]; simp; omega, ?_, ?_⟩
  · intro c hc
    rcases List.mem_append.1 hc with hc | hc
    · exact h.parts c hc
    · simp only [List.mem_singleton] at hc
      subst hc
      have h5 := cutL_len ys f q h1 h.ql
      exact ⟨by show (cutL ys f q).length ≤ _; omega, _, _, rfl, by omega, by omega⟩
  · obtain ⟨m, hm, hg⟩ := h.run
    obtain ⟨k, rfl⟩ : ∃ k, m = k + 1 := ⟨m - 1, by omega⟩
    refine ⟨k, by omega, ?_⟩
    rw [← hg]
    simp only [go]
    rw [if_pos hq, if_pos (show 0 < (lz ys q).1 ∧ (lz ys (q + 1)).1 ≤ (lz ys q).1 from ht)]
theorem St.done {ys : List Int} {f q : Nat} {cs : List (List Int × Int × Int)} (h : St ys f q cs) (hq : ¬ q < ys.length) : found ys = fin ys f cs := by
  obtain ⟨m, hm, hg⟩ := h.run
  have e : go ys m f q cs = (f, cs) := by
    cases m with
    | zero => rfl
    | succ m => simp only [go]; rw [if_neg hq]
  rw [e] at hg
  unfold found
  rw [← hg]
theorem lz_at {ys : List Int} {q : Nat} (h : q < ys.length) : lz ys q = lzA ys q := if_pos h
theorem lz_end {ys : List Int} {q : Nat} (h : ¬ q < ys.length) : lz ys q = (0, 0) := if_neg h
end Go.Proofs.Ytbkmdgceobilkaa
