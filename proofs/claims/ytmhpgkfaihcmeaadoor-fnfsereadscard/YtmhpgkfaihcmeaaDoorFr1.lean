/-
  A text comes back from its bits by a table, and bits that are read as a text are just its: numbers.
-/
import Derived.Test.YtmhpgkfaihcmeaaDoorSp3
import Derived.Test.YtmhpgkfaihcmeaaDoorFt1
namespace Go.Proofs.YtmhpgkfaihcmeaaDoor
open Go.RowKit
set_option linter.unusedVariables false

theorem bits_mid (V a b : Nat) : V / 2 ^ a % 2 ^ b = V % 2 ^ (a + b) / 2 ^ a := by
  rw [Nat.pow_add, Nat.mod_mul_right_div_self]
theorem mod_low (V a b : Nat) : V % 2 ^ (a + b) % 2 ^ a = V % 2 ^ a := by
  rw [Nat.pow_add, Nat.mod_mul_right_mod]

section
variable {T ls ts : List Int}
/-- What one step puts. -/
theorem fpS_step (hT : Tab T ls) (hts : ∀ k, k < ts.length → 0 ≤ ts.getD k 0 ∧ ts.getD k 0 < ls.length) (hs : shd ls ts) (k : Nat) (hk : k < ts.length) :
    ∃ q b z : Nat, (fpS T ts (k + 1)).1 = q ∧ q < 64 ∧ cB T q = b ∧ cZ T q = z ∧ z ≤ (fpS T ts k).1 ∧ (fpS T ts k).1 - z < 2 ^ b ∧ T.getD (q * 3) 0 = ts.getD (ts.length - 1 - k) 0 ∧
      (fpS T ts (k + 1)).2.1 = (fpS T ts k).2.1 + b ∧ (fpS T ts (k + 1)).2.2 = (fpS T ts k).2.2 + ((fpS T ts k).1 - z) * 2 ^ (fpS T ts k).2.1 := by
  have hF := fpS_first hT hts k hk (fun j hj => hs _ (by omega))
  have hh := hF.2.1
  unfold hit at hh
  refine ⟨(fpS T ts (k + 1)).1, cB T (fpS T ts (k + 1)).1, cZ T (fpS T ts (k + 1)).1, rfl, hF.1, rfl, rfl, hh.2.1, by omega, hh.1, rfl, rfl⟩
theorem fpS_low (hT : Tab T ls) (hts : ∀ k, k < ts.length → 0 ≤ ts.getD k 0 ∧ ts.getD k 0 < ls.length) (hs : shd ls ts) : ∀ i, i ≤ ts.length → fV T ts % 2 ^ (fpS T ts (ts.length - i)).2.1 = (fpS T ts (ts.length - i)).2.2 := by
  intro i
  induction i with
  | zero =>
    intro _
    obtain ⟨_, _, h3⟩ := fpS_ok hT hts ts.length (Nat.le_refl _) (fun j hj => hs _ (by omega))
    rw [Nat.sub_zero]
    unfold fV
    rw [Nat.add_mul_mod_self_right, Nat.mod_eq_of_lt h3]
  | succ i ih =>
    intro hi
    obtain ⟨q, b, z, _, _, _, _, _, hx, _, hN, hV⟩ := fpS_step hT hts hs (ts.length - (i + 1)) (by omega)
    obtain ⟨_, _, h3⟩ := fpS_ok hT hts (ts.length - (i + 1)) (by omega) (fun j hj => hs _ (by omega))
    have h := ih (by omega)
    rw [show ts.length - i = ts.length - (i + 1) + 1 from by omega, hN, hV] at h
    rw [← mod_low _ _ b, h, Nat.add_mul_mod_self_right, Nat.mod_eq_of_lt h3]
/-- Reading what was put. -/
theorem sg_put (hT : Tab T ls) (hts : ∀ k, k < ts.length → 0 ≤ ts.getD k 0 ∧ ts.getD k 0 < ls.length) (hs : shd ls ts) : ∀ i, i ≤ ts.length → sg T (fV T ts) (fpS T ts ts.length).2.1 i = some ((fpS T ts (ts.length - i)).1, (fpS T ts (ts.length - i)).2.1) ∧ so T (fV T ts) (fpS T ts ts.length).2.1 i = ts.take i := by
  intro i
  induction i with
  | zero =>
    intro _
    obtain ⟨h1, _, h3⟩ := fpS_ok hT hts ts.length (Nat.le_refl _) (fun j hj => hs _ (by omega))
    refine ⟨?_, by simp [so]⟩
    rw [sg, Nat.sub_zero]
    unfold fV
    rw [Nat.add_mul_div_right _ _ (Nat.pow_pos (by omega)), Nat.div_eq_of_lt h3, Nat.zero_add, Nat.mod_eq_of_lt h1]
  | succ i ih =>
    intro hi
    obtain ⟨g1, g2⟩ := ih (by omega)
    obtain ⟨q, b, z, hq, hq64, hb, hz, hzp, hx, hsy, hN, hV⟩ := fpS_step hT hts hs (ts.length - (i + 1)) (by omega)
    obtain ⟨_, _, h3⟩ := fpS_ok hT hts (ts.length - (i + 1)) (by omega) (fun j hj => hs _ (by omega))
    have hlow := fpS_low hT hts hs i (by omega)
    rw [show ts.length - i = ts.length - (i + 1) + 1 from by omega] at g1 hlow
    rw [hq, hN] at g1
    rw [hN, hV] at hlow
    have hge : ¬ (fpS T ts (ts.length - (i + 1))).2.1 + b < cB T q := by rw [hb]; omega
    have s1 := sg_step g1 hge
    have s2 := so_step g1
    rw [hb, hz, Nat.add_sub_cancel, bits_mid, hlow, Nat.add_mul_div_right _ _ (Nat.pow_pos (by omega)), Nat.div_eq_of_lt h3, Nat.zero_add] at s1
    refine ⟨?_, ?_⟩
    · rw [s1]
      congr 2
      omega
    · rw [s2, g2, hsy, show ts.length - 1 - (ts.length - (i + 1)) = i from by omega, List.take_succ_eq_append_getElem (by omega), List.getD_eq_getElem?_getD, List.getElem?_eq_getElem (by omega)]
      rfl
/-- A text that is put is read again. -/
theorem fse_back (hT : Tab T ls) (hts : ∀ k, k < ts.length → 0 ≤ ts.getD k 0 ∧ ts.getD k 0 < ls.length) (hs : shd ls ts) : fgB T (fV T ts) (fN T ts) ts.length = true ∧ so T (fV T ts) (fN T ts - 6) ts.length = ts := by
  have hN : fN T ts - 6 = (fpS T ts ts.length).2.1 := by unfold fN; omega
  obtain ⟨h1, h2⟩ := sg_put hT hts hs ts.length (Nat.le_refl _)
  rw [Nat.sub_self] at h1
  refine ⟨?_, ?_⟩
  · unfold fgB
    rw [hN, h1, decide_eq_true_eq]
    refine ⟨by unfold fN; omega, ?_⟩
    rfl
  · rw [hN, h2, List.take_length]
end

/-- Places and ends that are met in reading. -/
theorem sg_all {T : List Int} {v E n : Nat} {r : Nat × Nat} (h : sg T v E n = some r) : ∀ i, i ≤ n → ∃ st en, sg T v E i = some (st, en) := by
  intro i hi
  cases hq : sg T v E i with
  | none => rw [sg_none hq n hi] at h; simp at h
  | some q => exact ⟨q.1, q.2, rfl⟩
theorem so_get {T : List Int} {v E : Nat} : ∀ n i, i < n → ∀ st en, sg T v E i = some (st, en) → (so T v E n).getD i 0 = T.getD (st * 3) 0 := by
  intro n
  induction n with
  | zero => intro i h; omega
  | succ n ih =>
    intro i hi st en hs
    rw [so]
    have hl := so_len T v E n
    by_cases e : i < n
    · rw [List.getD_eq_getElem?_getD, List.getElem?_append_left (by omega), ← List.getD_eq_getElem?_getD]
      exact ih i e st en hs
    · obtain rfl : i = n := by omega
      rw [List.getD_eq_getElem?_getD, List.getElem?_append_right (by omega), hl, Nat.sub_self, hs]
      rfl
/-- Just one cell is hit, and each cell's symbol has a share. -/
structure TabU (T ls : List Int) : Prop extends Tab T ls where
  uni : ∀ s p q r : Nat, s < ls.length → p < 64 → q < 64 → r < 64 → hit T (s : Int) p q → hit T (s : Int) p r → q = r
  has : ∀ p, p < 64 → ∃ s : Nat, T.getD (p * 3) 0 = (s : Int) ∧ s < ls.length ∧ ls.getD s 0 ≠ 0
theorem tabU_tb {ls : List Int} (hn : normB ls = true) : TabU (tb (pl (fl 0 ls) (plc 64)) ls 64) ls :=
  { tab_tb hn with
    uni := fun s p q r h1 h2 h3 h4 h5 h6 => hit_unique hn s p q r h1 h2 h3 h4 h5 h6
    has := fun p hp => by
      obtain ⟨s, h1, h2, h3, _⟩ := sp_sym hn p hp
      obtain ⟨c1, _, _⟩ := cell_at (zs := ls) p hp
      exact ⟨s, by rw [c1]; exact h1, h2, by omega⟩ }
section
variable {T ls : List Int} {v N n : Nat}
/-- Putting what was read. -/
theorem fpS_read (hT : TabU T ls) (E : Nat) (h : sg T v E n = some (0, 0)) : ∀ k, k ≤ n → ∀ st en, sg T v E (n - k) = some (st, en) → fpS T (so T v E n) k = (st, en, v % 2 ^ en) := by
  intro k
  induction k with
  | zero =>
    intro _ st en hs
    rw [Nat.sub_zero, h] at hs
    simp only [Option.some.injEq, Prod.mk.injEq] at hs
    obtain ⟨rfl, rfl⟩ := hs
    simp [fpS, Nat.mod_one]
  | succ k ih =>
    intro hk st en hs
    obtain ⟨st2, en2, hs2⟩ := sg_all h (n - k) (by omega)
    have hi := ih (by omega) st2 en2 hs2
    obtain ⟨r1, r2⟩ := sg_rng hT.gd v E _ st en hs
    obtain ⟨r3, r4⟩ := sg_rng hT.gd v E _ st2 en2 hs2
    have hstep := hs2
    rw [show n - k = n - (k + 1) + 1 from by omega] at hstep
    have hge : ¬ en < cB T st := by
      intro hl
      rw [sg_stop hs hl] at hstep
      simp at hstep
    rw [sg_step hs hge] at hstep
    simp only [Option.some.injEq, Prod.mk.injEq] at hstep
    obtain ⟨k1, k2⟩ := hstep
    obtain ⟨s, hs1, hs3, hs4⟩ := hT.has st r1
    have hsym : (so T v E n).getD ((so T v E n).length - 1 - k) 0 = (s : Int) := by
      rw [so_len, show n - 1 - k = n - (k + 1) from by omega, so_get n (n - (k + 1)) (by omega) st en hs, hs1]
    have hlt : v / 2 ^ (en - cB T st) % 2 ^ cB T st < 2 ^ cB T st := Nat.mod_lt _ (Nat.pow_pos (by omega))
    have hhit : hit T (s : Int) st2 st := ⟨hs1, by omega, by omega⟩
    have hF := fq_first ⟨st, r1, hhit⟩
    have hq : fq T (s : Int) st2 = st := hT.uni s st2 _ st hs3 r3 hF.1 r1 hF.2.1 hhit
    rw [fpS, hsym, hi]
    simp only
    rw [hq]
    refine Prod.ext rfl (Prod.ext ?_ ?_)
    · show en2 + cB T st = en
      omega
    · show v % 2 ^ en2 + (st2 - cZ T st) * 2 ^ en2 = v % 2 ^ en
      have e1 : st2 - cZ T st = v / 2 ^ en2 % 2 ^ cB T st := by rw [← k2]; omega
      rw [e1, show en = en2 + cB T st from by omega, bits_mid]
      have := Nat.div_add_mod (v % 2 ^ (en2 + cB T st)) (2 ^ en2)
      rw [mod_low] at this
      rw [Nat.mul_comm] at this
      omega
/-- Bits that are read as a text are just its. -/
theorem fse_forth (hT : TabU T ls) (hv : v < 2 ^ N) (h : fgB T v N n = true) : fN T (so T v (N - 6) n) = N ∧ fV T (so T v (N - 6) n) = v ∧ shd ls (so T v (N - 6) n) ∧ (∀ k, k < (so T v (N - 6) n).length → 0 ≤ (so T v (N - 6) n).getD k 0 ∧ (so T v (N - 6) n).getD k 0 < ls.length) := by
  unfold fgB at h
  rw [decide_eq_true_eq] at h
  obtain ⟨h6, h⟩ := h
  have hl := so_len T v (N - 6) n
  have h0 : sg T v (N - 6) (n - n) = some (v / 2 ^ (N - 6) % 64, N - 6) := by rw [Nat.sub_self]; rfl
  have hr := fpS_read hT (N - 6) h n (Nat.le_refl _) _ _ h0
  have hall : ∀ k, k < n → ∃ s : Nat, (so T v (N - 6) n).getD k 0 = (s : Int) ∧ s < ls.length ∧ ls.getD s 0 ≠ 0 := by
    intro k hk
    obtain ⟨st, en, hs⟩ := sg_all h k (by omega)
    obtain ⟨s, e1, e2, e3⟩ := hT.has st (sg_rng hT.gd v (N - 6) k st en hs).1
    exact ⟨s, by rw [so_get n k hk st en hs, e1], e2, e3⟩
  refine ⟨?_, ?_, ?_, ?_⟩
  · unfold fN
    rw [hl, hr]
    show N - 6 + 6 = N
    omega
  · unfold fV
    rw [hl, hr]
    show v % 2 ^ (N - 6) + v / 2 ^ (N - 6) % 64 * 2 ^ (N - 6) = v
    have e : v / 2 ^ (N - 6) < 64 := by
      rw [Nat.div_lt_iff_lt_mul (Nat.pow_pos (by omega)), show 64 = 2 ^ 6 from rfl, ← Nat.pow_add, show 6 + (N - 6) = N from by omega]
      exact hv
    rw [Nat.mod_eq_of_lt e]
    have := Nat.div_add_mod v (2 ^ (N - 6))
    rw [Nat.mul_comm] at this
    omega
  · intro k hk
    obtain ⟨s, e1, e2, e3⟩ := hall k (by omega)
    rw [e1, Int.toNat_natCast]
    exact e3
  · intro k hk
    obtain ⟨s, e1, e2, e3⟩ := hall k (by omega)
    rw [e1]
    omega
end
end Go.Proofs.YtmhpgkfaihcmeaaDoor
