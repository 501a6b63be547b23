/-
  From each place each symbol that has a share is come to: numbers.
-/
import Derived.Test.YtmhpgkfaihcmeaaFg1
namespace Go.Proofs.Ytmhpgkfaihcmeaa
open Go.RowKit
set_option linter.unusedVariables false

theorem fl_count (zs : List Int) : ∀ (i j : Nat), j < zs.length → (fl i zs).count (((i + j : Nat)) : Int) = (zs.getD j 0).toNat := by
  induction zs with
  | nil => intro i j h; simp at h
  | cons y zs ih =>
    intro i j h
    rw [fl, List.count_append, List.count_replicate]
    cases j with
    | zero =>
      have h0 : (fl (i + 1) zs).count (((i + 0 : Nat)) : Int) = 0 := by
        rw [List.count_eq_zero]
        intro hm
        obtain ⟨j, _, e, _⟩ := fl_mem zs (i + 1) _ hm
        omega
      rw [h0]
      simp
    | succ j =>
      have hne : ((i : Int) == ((i + (j + 1) : Nat) : Int)) = false := by simp; omega
      have h1 := ih (i + 1) j (by simpa using h)
      rw [show i + 1 + j = i + (j + 1) from by omega] at h1
      rw [hne, h1]
      simp
theorem perm3 : ((List.range 64).map (fun p => 3 * p % 64)).Perm (List.range 64) := by decide +kernel
theorem sp_perm {zs : List Int} (hn : normB zs = true) : (pl (fl 0 zs) (plc 64)).Perm (fl 0 zs) := by
  have hnn : (∀ z ∈ zs, 0 ≤ z) ∧ zs.sum = 64 := by
    have h := hn
    simp only [normB, decide_eq_true_eq] at h
    exact ⟨fun z hz => (h.2.2.1 z hz).1, h.2.2.2⟩
  have hl : (fl 0 zs).length = 64 := by have := fl_len zs 0 hnn.1; omega
  have e1 : pl (fl 0 zs) (plc 64) = ((List.range 64).map (fun p => 3 * p % 64)).map (fun i => (fl 0 zs).getD i 0) := by
    apply List.ext_getElem
    · simp [pl_len]
    · intro p h1 h2
      have hp : p < 64 := by rw [pl_len] at h1; exact h1
      have := pl_get (fl 0 zs) 64 (Nat.le_refl _) p hp
      rw [if_pos (by omega), List.getD_eq_getElem?_getD, List.getElem?_eq_getElem h1] at this
      simpa using this
  have e2 : fl 0 zs = (List.range 64).map (fun i => (fl 0 zs).getD i 0) := by
    apply List.ext_getElem
    · simp [hl]
    · intro p h1 h2
      simp [List.getElem?_eq_getElem h1]
  rw [e1]
  exact (perm3.map _).trans (by rw [← e2])
theorem nx_cnt (SP zs : List Int) (hS : ∀ i, i < SP.length → ∃ s : Nat, SP.getD i 0 = (s : Int)) (s : Nat) (hs : s < zs.length) : ∀ i, i ≤ SP.length → (nx SP zs i).getD s 0 = zs.getD s 0 + ((SP.take i).count (s : Int) : Nat) := by
  intro i
  induction i with
  | zero => intro _; simp [nx]
  | succ i ih =>
    intro hi
    obtain ⟨t, ht⟩ := hS i (by omega)
    have hti : SP[i] = (t : Int) := by
      rw [List.getD_eq_getElem?_getD, List.getElem?_eq_getElem (by omega)] at ht
      simpa using ht
    rw [nx, ht, Int.toNat_natCast, List.take_succ_eq_append_getElem (by omega), List.count_append, hti]
    have hl := nx_len SP zs i
    by_cases hst : t = s
    · subst hst
      rw [List.getD_eq_getElem?_getD, List.getElem?_set_self (by omega)]
      simp only [Option.getD_some]
      rw [ih (by omega)]
      simp
      omega
    · rw [List.getD_eq_getElem?_getD, List.getElem?_set_ne hst, ← List.getD_eq_getElem?_getD, ih (by omega)]
      have : ¬ ((t : Int) = (s : Int)) := by omega
      simp [this]
theorem nth_of_count (l : List Int) (s : Int) : ∀ m, m < l.count s → ∃ q, ∃ hq : q < l.length, l[q] = s ∧ (l.take q).count s = m := by
  induction l with
  | nil => intro m h; simp at h
  | cons x l ih =>
    intro m h
    by_cases hx : x = s
    · subst hx
      cases m with
      | zero => exact ⟨0, by simp, by simp, by simp⟩
      | succ m =>
        rw [List.count_cons_self] at h
        obtain ⟨q, hq, h1, h2⟩ := ih m (by omega)
        exact ⟨q + 1, by simpa using hq, by simpa using h1, by rw [List.take_succ_cons, List.count_cons_self, h2]⟩
    · rw [List.count_cons_of_ne (fun e => hx e)] at h
      obtain ⟨q, hq, h1, h2⟩ := ih m h
      exact ⟨q + 1, by simpa using hq, by simpa using h1, by rw [List.take_succ_cons, List.count_cons_of_ne (fun e => hx e), h2]⟩
theorem split_at : ∀ p, p < 64 → ∀ c, c < 65 → 1 ≤ c → ∃ k, k < 7 ∧ (c ≤ (p + 64) / 2 ^ k ∧ (p + 64) / 2 ^ k < 2 * c ∧ (p + 64) / 2 ^ k * 2 ^ wd ((p + 64) / 2 ^ k) ≤ p + 64 ∧ p + 64 < ((p + 64) / 2 ^ k + 1) * 2 ^ wd ((p + 64) / 2 ^ k)) := by decide +kernel

/-- The cell q has the symbol s, and the place p is come to from it. -/
def hit (T : List Int) (s : Int) (p q : Nat) : Prop := T.getD (q * 3) 0 = s ∧ cZ T q ≤ p ∧ p < cZ T q + 2 ^ cB T q
instance (T : List Int) (s : Int) (p q : Nat) : Decidable (hit T s p q) := by unfold hit; infer_instance
theorem cX_cnt {zs : List Int} (hn : normB zs = true) (q s : Nat) (hq : q < 64) (hs : (pl (fl 0 zs) (plc 64)).getD q 0 = (s : Int)) (hsl : s < zs.length) : (cX (pl (fl 0 zs) (plc 64)) zs q : Int) = zs.getD s 0 + (((pl (fl 0 zs) (plc 64)).take q).count (s : Int) : Nat) := by
  have hl : (pl (fl 0 zs) (plc 64)).length = 64 := pl_len _ _
  have := nx_cnt (pl (fl 0 zs) (plc 64)) zs (fun i hi => by obtain ⟨s, h, _⟩ := sp_sym hn i (by omega); exact ⟨s, h⟩) s hsl q (by omega)
  have h0 := (nx_bnd (pl (fl 0 zs) (plc 64)) zs q s).1
  have hz := normB_get hn s hsl
  unfold cX
  rw [hs, Int.toNat_natCast]
  omega
theorem cell_atG (SP zs : List Int) (n q : Nat) (hq : q < n) : (tb SP zs n).getD (q * 3) 0 = SP.getD q 0 ∧ cB (tb SP zs n) q = wd (cX SP zs q) ∧ cZ (tb SP zs n) q = cX SP zs q * 2 ^ wd (cX SP zs q) - 64 := by
  have h0 := tb_get SP zs q 0 (by omega) n hq
  have h1 := tb_get SP zs q 1 (by omega) n hq
  have h2 := tb_get SP zs q 2 (by omega) n hq
  generalize tb SP zs n = T at *
  generalize cX SP zs q = X at *
  generalize SP.getD q 0 = u at *
  rw [Nat.add_zero] at h0
  refine ⟨by rw [h0]; rfl, ?_, ?_⟩
  · unfold cB
    rw [h1]
    simp
  · unfold cZ
    rw [h2]
    show (((X * 2 ^ wd X : Nat) : Int) - 64).toNat = _
    omega
theorem cell_at {zs : List Int} (q : Nat) (hq : q < 64) : (tb (pl (fl 0 zs) (plc 64)) zs 64).getD (q * 3) 0 = (pl (fl 0 zs) (plc 64)).getD q 0 ∧ cB (tb (pl (fl 0 zs) (plc 64)) zs 64) q = wd (cX (pl (fl 0 zs) (plc 64)) zs q) ∧ cZ (tb (pl (fl 0 zs) (plc 64)) zs 64) q = cX (pl (fl 0 zs) (plc 64)) zs q * 2 ^ wd (cX (pl (fl 0 zs) (plc 64)) zs q) - 64 := cell_atG _ zs 64 q hq
theorem ex_hit {zs : List Int} (hn : normB zs = true) (s p : Nat) (hs : s < zs.length) (hp : p < 64) (hc : zs.getD s 0 ≠ 0) : ∃ q, q < 64 ∧ hit (tb (pl (fl 0 zs) (plc 64)) zs 64) (s : Int) p q := by
  have hz := normB_get hn s hs
  obtain ⟨c, hcc⟩ := Int.eq_ofNat_of_zero_le hz.1
  obtain ⟨k, _, h1, h2, h3, h4⟩ := split_at p hp c (by omega) (by omega)
  generalize (p + 64) / 2 ^ k = X at *
  have hcount : (pl (fl 0 zs) (plc 64)).count (s : Int) = c := by
    rw [(sp_perm hn).count_eq]
    have := fl_count zs 0 s hs
    rw [Nat.zero_add, hcc] at this
    simpa using this
  obtain ⟨q, hq, hq1, hq2⟩ := nth_of_count (pl (fl 0 zs) (plc 64)) (s : Int) (X - c) (by omega)
  have hq64 : q < 64 := by rw [pl_len] at hq; exact hq
  have hqs : (pl (fl 0 zs) (plc 64)).getD q 0 = (s : Int) := by rw [List.getD_eq_getElem?_getD, List.getElem?_eq_getElem hq, hq1]; rfl
  have hX := cX_cnt hn q s hq64 hqs hs
  rw [hq2, hcc] at hX
  have hX' : cX (pl (fl 0 zs) (plc 64)) zs q = X := by omega
  obtain ⟨c1, c2, c3⟩ := cell_at (zs := zs) q hq64
  refine ⟨q, hq64, by rw [c1]; exact hqs, ?_, ?_⟩
  · rw [c3, hX']; omega
  · rw [c3, c2, hX']
    rw [Nat.add_mul, Nat.one_mul] at h4
    omega
/-- The first cell by which p is come to with s. -/
def First (T : List Int) (s : Int) (p q : Nat) : Prop := q < 64 ∧ hit T s p q ∧ ∀ j, j < q → ¬ hit T s p j
def fq (T : List Int) (s : Int) (p : Nat) : Nat := ((List.range 64).find? (fun q => decide (hit T s p q))).getD 0
theorem fq_first {T : List Int} {s : Int} {p : Nat} (h : ∃ q, q < 64 ∧ hit T s p q) : First T s p (fq T s p) := by
  obtain ⟨q, hq, hh⟩ := h
  unfold fq
  cases hf : (List.range 64).find? (fun q => decide (hit T s p q)) with
  | none =>
    rw [List.find?_eq_none] at hf
    exact absurd hh (by simpa using hf q (by simpa using hq))
  | some r =>
    obtain ⟨h1, i, hi, h2, h3⟩ := List.find?_eq_some_iff_getElem.1 hf
    simp only [List.length_range] at hi
    simp only [List.getElem_range] at h2 h3
    subst h2
    refine ⟨hi, by simpa using h1, fun j hj => ?_⟩
    have := h3 j hj
    simpa using this
theorem no_hit {zs : List Int} (hn : normB zs = true) (s : Int) (p : Nat) (hc : ∀ k : Nat, s = k → zs.getD k 0 = 0) : ∀ q, q < 64 → ¬ hit (tb (pl (fl 0 zs) (plc 64)) zs 64) s p q := by
  intro q hq h
  obtain ⟨c1, _, _⟩ := cell_at (zs := zs) q hq
  obtain ⟨t, ht, htl, htp, _⟩ := sp_sym hn q hq
  have := h.1
  rw [c1, ht] at this
  have := hc t this.symm
  omega

/-- Place, bits and number when the last k symbols of a text are put. -/
def fpS (T ts : List Int) : Nat → Nat × Nat × Nat
  | 0 => (0, 0, 0)
  | k + 1 => (fq T (ts.getD (ts.length - 1 - k) 0) (fpS T ts k).1, (fpS T ts k).2.1 + cB T (fq T (ts.getD (ts.length - 1 - k) 0) (fpS T ts k).1), (fpS T ts k).2.2 + ((fpS T ts k).1 - cZ T (fq T (ts.getD (ts.length - 1 - k) 0) (fpS T ts k).1)) * 2 ^ (fpS T ts k).2.1)
end Go.Proofs.Ytmhpgkfaihcmeaa
