/-
  Codes of one length follow each other: which symbol a reader by counts finds.
-/
import Derived.Test.YtkjebacpmmfflaaDoorCodes1
import Derived.Test.YtkjebacpmmfflaaDoorHGet1M
import Derived.Test.YtkjebacpmmfflaaDoorPcV
import Derived.Deep.AppendLies
namespace Go.Proofs.YtkjebacpmmfflaaDoor
open Go.RowKit
set_option linter.unusedVariables false

/-- The next code of L bits. -/
def cv (zs l : List Int) (L : Nat) : Nat := (crun zs l).1 * 2 ^ (L - (crun zs l).2.1)
theorem cv_double (zs l : List Int) (L : Nat) (h : (crun zs l).2.1 ≤ L) : cv zs l (L + 1) = cv zs l L * 2 := by
  unfold cv
  rw [show L + 1 - (crun zs l).2.1 = (L - (crun zs l).2.1) + 1 from by omega, Nat.pow_succ, Nat.mul_assoc]
theorem cv_snoc (zs l : List Int) (s : Int) (L : Nat) (h : zN zs s = L) : cv zs (l ++ [s]) L = cv zs l L + 1 ∧ (crun zs (l ++ [s])).2.2 = (crun zs l).2.2.set s.toNat (cv zs l L : Nat) := by
  unfold cv
  rw [crun_snoc]
  simp only [cst, h]
  simp
theorem cv_bound (zs l : List Int) (L : Nat) (h : asc zs l) (hl : (crun zs l).2.1 ≤ L) (hL : L ≤ 12) (hn : l.length ≤ 2000) : cv zs l L ≤ 8192000 := by
  have h1 := (cr_step _ _ L l.length hl (cr_full zs l h)).1
  have h2 : 2 ^ L ≤ 2 ^ 12 := Nat.pow_le_pow_right (by omega) hL
  have h3 : l.length * 2 ^ L ≤ 2000 * 2 ^ 12 := Nat.mul_le_mul hn h2
  unfold cv
  exact Nat.le_trans h1 (Nat.le_trans h3 (by decide))
theorem cv_nil (zs : List Int) : cv zs [] 0 = 0 := by simp [cv, crun_nil]

/-- All that the walk asks, at length M and the symbols below k. -/
structure At (zs : List Int) (M k c : Nat) (out : List Int) : Prop where
  c : cv zs (sbL zs (M - 1) ++ atL zs M k) M = c
  out : (crun zs (sbL zs (M - 1) ++ atL zs M k)).2.2 = out
theorem at_bound {zs : List Int} {M k c : Nat} {out : List Int} (h : At zs M k c out) (hM : 1 ≤ M) (hM2 : M ≤ 12) (hn : zs.length ≤ 80) (hk : k ≤ zs.length) : c ≤ 8192000 ∧ out.length = zs.length := by
  obtain ⟨l, rfl⟩ : ∃ l, M = l + 1 := ⟨M - 1, by omega⟩
  have hs := sbL_len zs l
  have ha := atL_len zs (l + 1) k
  have hm : l * zs.length ≤ 11 * 80 := Nat.mul_le_mul (by omega) hn
  refine ⟨?_, by rw [← h.out]; exact crun_len zs _⟩
  rw [← h.c]
  refine cv_bound zs _ _ (asc_part zs l k) (cr_ln zs _ _ (fun a ha => ?_)) hM2 (by rw [List.length_append]; simp; omega)
  rcases List.mem_append.1 ha with h1 | h1
  · have := zN_sb zs l a h1; omega
  · have := zN_at zs (l + 1) k a h1; omega
theorem at_yes {zs : List Int} {M k c : Nat} {out : List Int} (h : At zs M k c out) (hz : zs.getD k 0 = (M : Int)) : At zs M (k + 1) (c + 1) (out.set k ((c : Nat) : Int)) := by
  have e : sbL zs (M - 1) ++ atL zs M (k + 1) = (sbL zs (M - 1) ++ atL zs M k) ++ [(k : Int)] := by rw [atL_yes zs M k hz, List.append_assoc]
  have hzn : zN zs (k : Int) = M := by unfold zN; rw [Int.toNat_natCast, hz]; simp
  obtain ⟨s1, s2⟩ := cv_snoc zs (sbL zs (M - 1) ++ atL zs M k) (k : Int) M hzn
  refine ⟨by rw [e, s1, h.c], ?_⟩
  rw [e, s2, h.c, h.out]
  simp
theorem at_no {zs : List Int} {M k c : Nat} {out : List Int} (h : At zs M k c out) (hz : ¬ zs.getD k 0 = (M : Int)) : At zs M (k + 1) c out := by
  refine ⟨?_, ?_⟩
  · rw [atL_no zs M k hz]; exact h.c
  · rw [atL_no zs M k hz]; exact h.out
theorem at_first (zs : List Int) : cv zs (sbL zs 0) 0 = 0 ∧ (crun zs (sbL zs 0)).2.2 = List.replicate zs.length 0 := ⟨cv_nil zs, rfl⟩
theorem at_start {zs : List Int} {M c : Nat} {out : List Int} (hM : 1 ≤ M) (hc : cv zs (sbL zs (M - 1)) (M - 1) = c) (ho : (crun zs (sbL zs (M - 1))).2.2 = out) : At zs M 0 (c * 2) out := by
  obtain ⟨l, rfl⟩ : ∃ l, M = l + 1 := ⟨M - 1, by omega⟩
  simp only [Nat.add_sub_cancel] at hc ho
  refine ⟨?_, ?_⟩
  · rw [atL_zero, List.append_nil, Nat.add_sub_cancel, cv_double zs _ l (cr_ln zs _ _ (zN_sb zs l)), hc]
  · rw [atL_zero, List.append_nil, Nat.add_sub_cancel]; exact ho
theorem at_end {zs : List Int} {M c : Nat} {out : List Int} (hM : 1 ≤ M) (h : At zs M zs.length c out) : cv zs (sbL zs M) M = c ∧ (crun zs (sbL zs M)).2.2 = out := by
  obtain ⟨l, rfl⟩ : ∃ l, M = l + 1 := ⟨M - 1, by omega⟩
  have e : sbL zs (l + 1) = sbL zs (l + 1 - 1) ++ atL zs (l + 1) zs.length := rfl
  rw [e]
  exact ⟨h.c, h.out⟩
theorem OVI.stay {S : Nat → Prop} {w w' : World} {B : Nat} {v : Value} {zs : List Int} (h : OVI w B v zs) (ho : Only S w w') (hs : ∀ k, B ≤ k → ¬ S k) : OVI w' B v zs := by
  refine ⟨⟨h.1.1, ?_⟩, h.2⟩
  rcases h.1.2 with h' | ⟨g, cap, cur, h', hg, hh, r⟩
  · exact .inl h'
  · exact .inr ⟨g, cap, cur, h', hg, (ho.block g (Array.getElem?_eq_some_iff.1 hh).1 (hs g hg)).trans hh, r⟩

theorem OVI.weak {w : World} {B B' : Nat} {v : Value} {zs : List Int} (h : OVI w B v zs) (hB : B' ≤ B) : OVI w B' v zs := by
  refine ⟨⟨h.1.1, ?_⟩, h.2⟩
  rcases h.1.2 with h' | ⟨g, cap, cur, h', hg, r⟩
  · exact .inl h'
  · exact .inr ⟨g, cap, cur, h', by omega, r⟩

/-- From bit p on comes symbol i, k bits long. -/
def One (ls cs : List Int) (n v p i k : Nat) : Prop := 1 ≤ k ∧ k ≤ 12 ∧ p + k ≤ n ∧ i < ls.length ∧ Hit ls cs v p k i ∧ (∀ j, j < i → ¬ Hit ls cs v p k j) ∧ NoHit ls cs v p (k - 1)
/-- From bit p up to bit e come the symbols. -/
inductive Reads (ls cs : List Int) (n v p : Nat) : List Int → Nat → Prop
  | nil : Reads ls cs n v p [] p
  | snoc {q : List Int} {e i k : Nat} : Reads ls cs n v p q e → One ls cs n v e i k → Reads ls cs n v p (q ++ [(i : Int)]) (e + k)
end Go.Proofs.YtkjebacpmmfflaaDoor
namespace Go.Proofs.YtkjebacpmmfflaaDoor
set_option linter.unusedVariables false

theorem One.no {ls cs : List Int} {n v p i k : Nat} (h : One ls cs n v p i k) (hn : NoHit ls cs v p (min 12 (n - p))) : False := by
  obtain ⟨h1, h2, h3, h4, h5, _⟩ := h
  exact hn k i h1 (by omega) h4 h5
theorem One.unique {ls cs : List Int} {n v p i k i' k' : Nat} (h : One ls cs n v p i k) (h' : One ls cs n v p i' k') : i = i' ∧ k = k' := by
  obtain ⟨h1, h2, h3, h4, h5, h6, h7⟩ := h
  obtain ⟨g1, g2, g3, g4, g5, g6, g7⟩ := h'
  have hk : k = k' := by
    rcases Nat.lt_trichotomy k k' with hh | hh | hh
    · exact absurd h5 (g7 k i h1 (by omega) h4)
    · exact hh
    · exact absurd g5 (h7 k' i' g1 (by omega) g4)
  subst hk
  refine ⟨?_, rfl⟩
  rcases Nat.lt_trichotomy i i' with hh | hh | hh
  · exact absurd h5 (g6 i hh)
  · exact hh
  · exact absurd g5 (h6 i' hh)
theorem Reads.unique {ls cs : List Int} {n v p : Nat} {q : List Int} {E : Nat} (h : Reads ls cs n v p q E) : ∀ {q' : List Int} {E' : Nat}, Reads ls cs n v p q' E' → q.length = q'.length → q = q' ∧ E = E' := by
  induction h with
  | nil =>
    intro q' E' h' hl
    cases h' with
    | nil => exact ⟨rfl, rfl⟩
    | snoc h1 h2 => simp at hl
  | @snoc q e i k h1 h2 ih =>
    intro q' E' h' hl
    cases h' with
    | nil => simp at hl
    | @snoc q2 e2 i2 k2 g1 g2 =>
      obtain ⟨rfl, rfl⟩ := ih g1 (by simpa using hl)
      obtain ⟨rfl, rfl⟩ := h2.unique g2
      exact ⟨rfl, rfl⟩
/-- What is read goes on from any of its beginnings. -/
theorem Reads.cut {ls cs : List Int} {n v p : Nat} {q : List Int} {E : Nat} (h : Reads ls cs n v p q E) : ∀ m, m < q.length → ∃ e i k, Reads ls cs n v p (q.take m) e ∧ One ls cs n v e i k := by
  induction h with
  | nil => intro m hm; simp at hm
  | @snoc q e i k h1 h2 ih =>
    intro m hm
    by_cases hh : m < q.length
    · obtain ⟨e', i', k', a, b⟩ := ih m hh
      exact ⟨e', i', k', by rw [List.take_append_of_le_length (by omega)]; exact a, b⟩
    · have : m = q.length := by simp at hm; omega
      subst this
      exact ⟨e, i, k, by simpa using h1, h2⟩
theorem Reads.stuck {ls cs : List Int} {n v p : Nat} {q : List Int} {E : Nat} (h : Reads ls cs n v p q E) {q' : List Int} {E' : Nat} (h' : Reads ls cs n v p q' E') (hl : q'.length < q.length) (hn : NoHit ls cs v E' (min 12 (n - E'))) : False := by
  obtain ⟨e, i, k, a, b⟩ := h.cut q'.length hl
  obtain ⟨-, rfl⟩ := a.unique h' (by simp; omega)
  exact b.no hn
theorem Reads.le {ls cs : List Int} {n v p : Nat} {q : List Int} {E : Nat} (h : Reads ls cs n v p q E) (hp : p ≤ n) : E ≤ n := by
  induction h with
  | nil => exact hp
  | snoc h1 h2 ih => exact h2.2.2.1
end Go.Proofs.YtkjebacpmmfflaaDoor
namespace Go.Proofs.YtkjebacpmmfflaaDoor
set_option linter.unusedVariables false

theorem atL_split (zs : List Int) (L k n : Nat) (h : k ≤ n) : ∃ r, atL zs L n = atL zs L k ++ r ∧ ∀ t ∈ r, (k : Int) ≤ t := by
  induction n with
  | zero => obtain rfl : k = 0 := by omega
            exact ⟨[], by simp, by simp⟩
  | succ n ih =>
    by_cases hk : k ≤ n
    · obtain ⟨r, h1, h2⟩ := ih hk
      by_cases hz : zs.getD n 0 = (L : Int)
      · refine ⟨r ++ [(n : Int)], by rw [atL_yes zs L n hz, h1, List.append_assoc], fun t ht => ?_⟩
        rcases List.mem_append.1 ht with h | h
        · exact h2 t h
        · simp at h; omega
      · exact ⟨r, by rw [atL_no zs L n hz]; exact h1, h2⟩
    · obtain rfl : k = n + 1 := by omega
      exact ⟨[], by simp, by simp⟩
theorem atL_mono (zs : List Int) (L k n : Nat) (h : k ≤ n) : (atL zs L k).length ≤ (atL zs L n).length := by
  obtain ⟨r, h1, _⟩ := atL_split zs L k n h
  rw [h1, List.length_append]
  omega
theorem sbL_split (zs : List Int) (l m : Nat) (h : l ≤ m) : ∃ r, sbL zs m = sbL zs l ++ r ∧ ∀ t ∈ r, ∃ s : Nat, t = s ∧ (l : Int) < zs.getD s 0 := by
  induction m with
  | zero => obtain rfl : l = 0 := by omega
            exact ⟨[], by simp, by simp⟩
  | succ m ih =>
    by_cases hk : l ≤ m
    · obtain ⟨r, h1, h2⟩ := ih hk
      refine ⟨r ++ atL zs (m + 1) zs.length, by simp only [sbL]; rw [h1, List.append_assoc], fun t ht => ?_⟩
      rcases List.mem_append.1 ht with h | h
      · exact h2 t h
      · obtain ⟨s, g1, g2, g3⟩ := atL_mem _ _ _ t h
        exact ⟨s, g1, by omega⟩
    · obtain rfl : l = m + 1 := by omega
      exact ⟨[], by simp, by simp⟩
theorem cst_keep (zs : List Int) (s : Nat) (l : List Int) : ∀ st : Nat × Nat × List Int, (∀ t ∈ l, t.toNat ≠ s) → (l.foldl (cst zs) st).2.2.getD s 0 = st.2.2.getD s 0 := by
  induction l with
  | nil => intro st _; rfl
  | cons t l ih =>
    intro st h
    rw [List.foldl_cons, ih _ (fun x hx => h x (by simp [hx]))]
    have := h t (by simp)
    simp only [cst, List.getD_eq_getElem?_getD, List.getElem?_set_ne this]
theorem crun_keep (zs l r : List Int) (s : Nat) (h : ∀ t ∈ r, t.toNat ≠ s) : (crun zs (l ++ r)).2.2.getD s 0 = (crun zs l).2.2.getD s 0 := by
  unfold crun
  rw [List.foldl_append]
  exact cst_keep zs s r _ h
/-- The first code of M bits. -/
def fcd (zs : List Int) (M : Nat) : Nat := cv zs (sbL zs (M - 1)) M
theorem cv_run (zs : List Int) (M k : Nat) : cv zs (sbL zs (M - 1) ++ atL zs M k) M = fcd zs M + (atL zs M k).length := by
  induction k with
  | zero => simp [atL_zero, fcd]
  | succ k ih =>
    by_cases hz : zs.getD k 0 = (M : Int)
    · have hzn : zN zs (k : Int) = M := by unfold zN; rw [Int.toNat_natCast, hz]; simp
      rw [atL_yes zs M k hz, ← List.append_assoc, (cv_snoc zs _ (k : Int) M hzn).1, ih]
      simp
      omega
    · rw [atL_no zs M k hz]; exact ih
theorem code_at (zs : List Int) (M s : Nat) (h1 : 1 ≤ M) (h2 : M ≤ 12) (hs : s < zs.length) (hz : zs.getD s 0 = (M : Int)) : (crun zs (sbL zs 12)).2.2.getD s 0 = ((fcd zs M + (atL zs M s).length : Nat) : Int) := by
  obtain ⟨r, e1, m1⟩ := sbL_split zs M 12 h2
  obtain ⟨r2, e2, m2⟩ := atL_split zs M (s + 1) zs.length hs
  have e3 : sbL zs M = sbL zs (M - 1) ++ atL zs M zs.length := by
    obtain ⟨l, rfl⟩ : ∃ l, M = l + 1 := ⟨M - 1, by omega⟩
    rfl
  have e4 : sbL zs 12 = ((sbL zs (M - 1) ++ atL zs M s) ++ [(s : Int)]) ++ (r2 ++ r) := by
    rw [e1, e3, e2, atL_yes zs M s hz]
    simp
  have hzn : zN zs (s : Int) = M := by unfold zN; rw [Int.toNat_natCast, hz]; simp
  rw [e4, crun_keep, (cv_snoc zs _ (s : Int) M hzn).2, cv_run]
  · rw [Int.toNat_natCast, List.getD_eq_getElem?_getD, List.getElem?_set_self (by rw [crun_len]; exact hs)]
    rfl
  · intro t ht
    rcases List.mem_append.1 ht with h | h
    · have := m2 t h; omega
    · obtain ⟨y, rfl, hy⟩ := m1 t h
      rw [Int.toNat_natCast]
      rintro rfl
      omega
theorem at_rank (zs : List Int) (M : Nat) : ∀ n j, j < (atL zs M n).length → ∃ s : Nat, (atL zs M n).getD j 0 = s ∧ s < n ∧ zs.getD s 0 = (M : Int) ∧ (atL zs M s).length = j := by
  intro n
  induction n with
  | zero => intro j hj; simp [atL_zero] at hj
  | succ n ih =>
    intro j hj
    by_cases hz : zs.getD n 0 = (M : Int)
    · rw [atL_yes zs M n hz] at hj ⊢
      by_cases hjn : j < (atL zs M n).length
      · obtain ⟨s, g1, g2, g3, g4⟩ := ih j hjn
        refine ⟨s, ?_, by omega, g3, g4⟩
        rw [List.getD_eq_getElem?_getD, List.getElem?_append_left hjn, ← List.getD_eq_getElem?_getD]
        exact g1
      · have hje : j = (atL zs M n).length := by simp at hj; omega
        refine ⟨n, ?_, by omega, hz, hje.symm⟩
        rw [hje]
        simp [List.getD_eq_getElem?_getD]
    · rw [atL_no zs M n hz] at hj ⊢
      obtain ⟨s, g1, g2, g3, g4⟩ := ih j hj
      exact ⟨s, g1, by omega, g3, g4⟩
/-- What the reader has behind k bits without a symbol. -/
structure Sy (ls : List Int) (v p k : Nat) (c f a : Nat) : Prop where
  hc : c = cd v p k
  hf : f = cv ls (sbL ls k) k
  ha : a = (sbL ls k).length
  le : f ≤ c
  no : NoHit ls (crun ls (sbL ls 12)).2.2 v p k
theorem sy_zero (ls : List Int) (v p : Nat) : Sy ls v p 0 0 0 0 := ⟨rfl, (cv_nil ls).symm, rfl, Nat.le_refl _, fun j i h1 h2 => by omega⟩
theorem fcd_succ (ls : List Int) (k : Nat) : fcd ls (k + 1) = 2 * cv ls (sbL ls k) k := by
  unfold fcd
  rw [Nat.add_sub_cancel, cv_double ls _ k (cr_ln ls _ _ (zN_sb ls k)), Nat.mul_comm]
theorem cv_full (ls : List Int) (k : Nat) : cv ls (sbL ls (k + 1)) (k + 1) = fcd ls (k + 1) + (atL ls (k + 1) ls.length).length := cv_run ls (k + 1) ls.length
theorem sy_next {ls : List Int} {v p k c f a b : Nat} (h : Sy ls v p k c f a) (hk : k < 12) (hb : b = v / 2 ^ (p + k) % 2) (hn : ¬ 2 * c + b - 2 * f < (atL ls (k + 1) ls.length).length) :
    Sy ls v p (k + 1) (2 * c + b) (2 * f + (atL ls (k + 1) ls.length).length) (a + (atL ls (k + 1) ls.length).length) := by
  have hc : 2 * c + b = cd v p (k + 1) := by simp only [cd]; rw [hb, h.hc]
  have hf : 2 * f + (atL ls (k + 1) ls.length).length = cv ls (sbL ls (k + 1)) (k + 1) := by rw [cv_full, fcd_succ, ← h.hf]
  have hle := h.le
  refine ⟨hc, hf, by rw [h.ha]; simp only [sbL, List.length_append], by omega, fun j i h1 h2 h3 hh => ?_⟩
  by_cases hj : j = k + 1
  · subst hj
    obtain ⟨g1, g2⟩ := hh
    have g3 := code_at ls (k + 1) i h1 (by omega) h3 g1
    rw [g3] at g2
    have g4 := atL_yes ls (k + 1) i g1
    have g5 := atL_mono ls (k + 1) (i + 1) ls.length h3
    rw [g4, List.length_append] at g5
    simp only [List.length_singleton] at g5
    have g6 := fcd_succ ls k
    rw [← h.hf] at g6
    omega
  · exact h.no j i h1 (by omega) h3 hh
theorem sy_hit {ls : List Int} {n v p k c f a b : Nat} (h : Sy ls v p k c f a) (hk : k < 12) (hp : p + k < n) (hb : b = v / 2 ^ (p + k) % 2) (hn : 2 * c + b - 2 * f < (atL ls (k + 1) ls.length).length) :
    ∃ s : Nat, (sbL ls 12).getD (a + (2 * c + b - 2 * f)) 0 = s ∧ s < ls.length ∧ a + (2 * c + b - 2 * f) < (sbL ls 12).length ∧ One ls (crun ls (sbL ls 12)).2.2 n v p s (k + 1) := by
  have hc : 2 * c + b = cd v p (k + 1) := by simp only [cd]; rw [hb, h.hc]
  have hle := h.le
  have g6 := fcd_succ ls k
  rw [← h.hf] at g6
  obtain ⟨s, g1, g2, g3, g4⟩ := at_rank ls (k + 1) ls.length _ hn
  obtain ⟨r, e1, _⟩ := sbL_split ls (k + 1) 12 hk
  have e2 : sbL ls 12 = sbL ls k ++ (atL ls (k + 1) ls.length ++ r) := by rw [e1]; simp only [sbL]; rw [List.append_assoc]
  have hca := code_at ls (k + 1) s (by omega) (by omega) g2 g3
  refine ⟨s, ?_, g2, ?_, by omega, by omega, by omega, g2, ⟨g3, ?_⟩, ?_, h.no⟩
  · rw [e2, h.ha, List.getD_eq_getElem?_getD, List.getElem?_append_right (by omega), Nat.add_sub_cancel_left, List.getElem?_append_left hn, ← List.getD_eq_getElem?_getD]
    exact g1
  · rw [e2, h.ha]
    simp only [List.length_append]
    omega
  · rw [hca, ← hc]
    omega
  · rintro j hj ⟨q1, q2⟩
    have q3 := code_at ls (k + 1) j (by omega) (by omega) (by omega) q1
    rw [q3] at q2
    have q4 := atL_yes ls (k + 1) j q1
    have q5 := atL_mono ls (k + 1) (j + 1) s hj
    rw [q4, List.length_append] at q5
    simp only [List.length_singleton] at q5
    omega
theorem sy_bound {ls : List Int} {v p k c f a : Nat} (h : Sy ls v p k c f a) (hk : k ≤ 12) (hl : ls.length ≤ 80) : c ≤ 4096 ∧ f ≤ 4096 ∧ a ≤ 960 := by
  have h1 := cd_lt v p k
  have h2 : 2 ^ k ≤ 2 ^ 12 := Nat.pow_le_pow_right (by omega) hk
  have h3 := sbL_len ls k
  have h4 : k * ls.length ≤ 12 * 80 := Nat.mul_le_mul hk hl
  have h5 := h.hc; have h6 := h.le; have h7 := h.ha
  omega
end Go.Proofs.YtkjebacpmmfflaaDoor
