/-
  Each symbol that has a share is come to in just one way: numbers.
-/
import Derived.Test.YtmhpgkfaihcmeaaDoorTb2
import Derived.Test.YtmhpgkfaihcmeaaDoorTb5
import Derived.Test.YtmhpgkfaihcmeaaDoorWidth
namespace Go.Proofs.YtmhpgkfaihcmeaaDoor
open Go.RowKit
set_option linter.unusedVariables false

/-- What x a place's cell has. -/
def cX (SP zs : List Int) (p : Nat) : Nat := ((nx SP zs p).getD (SP.getD p 0).toNat 0).toNat
theorem tb_step (SP zs : List Int) (n p j : Nat) (hp : p < n) (hj : j < 3) : (tb SP zs (n + 1)).getD (p * 3 + j) 0 = (tb SP zs n).getD (p * 3 + j) 0 := by
  rw [tb, List.getD_eq_getElem?_getD, List.getElem?_append_left (by rw [tb_len]; omega), ← List.getD_eq_getElem?_getD]
theorem tb_new (SP zs : List Int) (n j : Nat) : (tb SP zs (n + 1)).getD (n * 3 + j) 0 = [SP.getD n 0, (wd (cX SP zs n) : Nat), (cX SP zs n * 2 ^ wd (cX SP zs n) : Nat) - 64].getD j 0 := by
  rw [tb, List.getD_eq_getElem?_getD, List.getElem?_append_right (by rw [tb_len]; omega), tb_len, Nat.add_sub_cancel_left, ← List.getD_eq_getElem?_getD]
  rfl
theorem tb_get (SP zs : List Int) (p j : Nat) (hj : j < 3) : ∀ n, p < n → (tb SP zs n).getD (p * 3 + j) 0 = [SP.getD p 0, (wd (cX SP zs p) : Nat), (cX SP zs p * 2 ^ wd (cX SP zs p) : Nat) - 64].getD j 0 := by
  intro n
  induction n with
  | zero => intro h; omega
  | succ n ih =>
    intro h
    by_cases he : p < n
    · rw [tb_step SP zs n p j he hj, ih he]
    · obtain rfl : p = n := by omega
      exact tb_new SP zs p j

/-- A table of 64 cells: each has a symbol, a width and a base, and leads to places alone. -/
structure Gd (T : List Int) (L : Nat) : Prop where
  len : T.length = 192
  cell : ∀ p, p < 64 → ∃ s b z : Nat, T.getD (p * 3) 0 = s ∧ T.getD (p * 3 + 1) 0 = b ∧ T.getD (p * 3 + 2) 0 = z ∧ s < L ∧ b ≤ 6 ∧ z + 2 ^ b ≤ 64

theorem wd_top {x : Nat} (h1 : 1 ≤ x) (h2 : x ≤ 127) : (x + 1) * 2 ^ wd x ≤ 128 := by
  unfold wd
  have hu := Nat.lt_log2_self (n := x)
  have h6 : Nat.log2 x < 7 := (Nat.log2_lt (by omega)).2 (by omega)
  have e2 : 2 ^ (Nat.log2 x + 1) * 2 ^ (6 - Nat.log2 x) = 128 := by rw [← Nat.pow_add, show Nat.log2 x + 1 + (6 - Nat.log2 x) = 7 from by omega]
  rw [← e2]
  exact Nat.mul_le_mul_right _ hu
theorem gd_tb {zs : List Int} (hn : normB zs = true) : Gd (tb (pl (fl 0 zs) (plc 64)) zs 64) zs.length := by
  refine ⟨tb_len _ _ _, fun p hp => ?_⟩
  obtain ⟨s, hs, hsl, hzp, hz64⟩ := sp_sym hn p hp
  have hbn := nx_bnd (pl (fl 0 zs) (plc 64)) zs p s
  have hX1 : 1 ≤ cX (pl (fl 0 zs) (plc 64)) zs p := by unfold cX; rw [hs, Int.toNat_natCast]; omega
  have hX2 : cX (pl (fl 0 zs) (plc 64)) zs p ≤ 127 := by unfold cX; rw [hs, Int.toNat_natCast]; omega
  have h0 := tb_get (pl (fl 0 zs) (plc 64)) zs p 0 (by omega) 64 hp
  have h1 := tb_get (pl (fl 0 zs) (plc 64)) zs p 1 (by omega) 64 hp
  have h2 := tb_get (pl (fl 0 zs) (plc 64)) zs p 2 (by omega) 64 hp
  have hw := wd_rng hX1 hX2
  have ht := wd_top hX1 hX2
  generalize cX (pl (fl 0 zs) (plc 64)) zs p = X at *
  rw [Nat.add_mul, Nat.one_mul] at ht
  exact ⟨s, wd X, X * 2 ^ wd X - 64, by rw [Nat.add_zero] at h0; rw [h0]; simpa using hs, by rw [h1]; rfl, by rw [h2]; show ((X * 2 ^ wd X : Nat) : Int) - 64 = _; omega, hsl, hw.1, by omega⟩

def cB (T : List Int) (p : Nat) : Nat := (T.getD (p * 3 + 1) 0).toNat
def cZ (T : List Int) (p : Nat) : Nat := (T.getD (p * 3 + 2) 0).toNat
/-- Place and end behind i symbols; none where bits are missing. -/
def sg (T : List Int) (v E : Nat) : Nat → Option (Nat × Nat)
  | 0 => some (v / 2 ^ E % 64, E)
  | i + 1 => match sg T v E i with
    | none => none
    | some (st, en) => if en < cB T st then none else some (cZ T st + v / 2 ^ (en - cB T st) % 2 ^ cB T st, en - cB T st)
def so (T : List Int) (v E : Nat) : Nat → List Int
  | 0 => []
  | i + 1 => so T v E i ++ [match sg T v E i with | some (st, _) => T.getD (st * 3) 0 | none => 0]
theorem so_len (T : List Int) (v E i : Nat) : (so T v E i).length = i := by
  induction i with
  | zero => rfl
  | succ i ih => rw [so, List.length_append, ih]; rfl
theorem sg_none {T : List Int} {v E k : Nat} (h : sg T v E k = none) : ∀ n, k ≤ n → sg T v E n = none := by
  intro n
  induction n with
  | zero => intro hk; obtain rfl : k = 0 := by omega
            exact h
  | succ n ih =>
    intro hk
    by_cases e : k = n + 1
    · subst e; exact h
    · rw [sg, ih (by omega)]
theorem sg_rng {T : List Int} {L : Nat} (hT : Gd T L) (v E : Nat) : ∀ i st en, sg T v E i = some (st, en) → st < 64 ∧ en ≤ E := by
  intro i
  induction i with
  | zero =>
    intro st en h
    simp only [sg, Option.some.injEq, Prod.mk.injEq] at h
    omega
  | succ i ih =>
    intro st en h
    rw [sg] at h
    cases hq : sg T v E i with
    | none => rw [hq] at h; simp at h
    | some q =>
      obtain ⟨s0, e0⟩ := q
      rw [hq] at h
      simp only at h
      obtain ⟨h1, h2⟩ := ih s0 e0 hq
      by_cases hl : e0 < cB T s0
      · rw [if_pos hl] at h; simp at h
      · rw [if_neg hl] at h
        simp only [Option.some.injEq, Prod.mk.injEq] at h
        obtain ⟨s, b, z, k1, k2, k3, k4, k5, k6⟩ := hT.cell s0 h1
        have hb : cB T s0 = b := by unfold cB; rw [k2, Int.toNat_natCast]
        have hz : cZ T s0 = z := by unfold cZ; rw [k3, Int.toNat_natCast]
        rw [hb, hz] at h
        have : v / 2 ^ (e0 - b) % 2 ^ b < 2 ^ b := Nat.mod_lt _ (Nat.pow_pos (by omega))
        omega
theorem sg_step {T : List Int} {v E i st en : Nat} (h : sg T v E i = some (st, en)) (hl : ¬ en < cB T st) : sg T v E (i + 1) = some (cZ T st + v / 2 ^ (en - cB T st) % 2 ^ cB T st, en - cB T st) := by
  rw [sg, h]
  simp only
  rw [if_neg hl]
theorem sg_stop {T : List Int} {v E i st en : Nat} (h : sg T v E i = some (st, en)) (hl : en < cB T st) : sg T v E (i + 1) = none := by
  rw [sg, h]
  simp only
  rw [if_pos hl]
theorem so_step {T : List Int} {v E i st en : Nat} (h : sg T v E i = some (st, en)) : so T v E (i + 1) = so T v E i ++ [T.getD (st * 3) 0] := by
  rw [so, h]
theorem so_rng {T : List Int} {L : Nat} (hT : Gd T L) (hL : L ≤ 80) (v E : Nat) : ∀ i, ∀ z ∈ so T v E i, 0 ≤ z ∧ z ≤ 80 := by
  intro i
  induction i with
  | zero => intro z hz; simp [so] at hz
  | succ i ih =>
    intro z hz
    rw [so] at hz
    simp only [List.mem_append, List.mem_cons, List.not_mem_nil, or_false] at hz
    rcases hz with hz | rfl
    · exact ih z hz
    · cases hq : sg T v E i with
      | none => simp
      | some q =>
        obtain ⟨s0, e0⟩ := q
        obtain ⟨s, b, z, k1, _, _, k4, _⟩ := hT.cell s0 (sg_rng hT v E i s0 e0 hq).1
        simp only
        rw [k1]
        omega
/-- Whether N bits are read as n symbols. -/
def fgB (T : List Int) (v N n : Nat) : Bool := decide (6 ≤ N ∧ sg T v (N - 6) n = some (0, 0))
end Go.Proofs.YtmhpgkfaihcmeaaDoor
namespace Go.Proofs.YtmhpgkfaihcmeaaDoor
open Go.RowKit
set_option linter.unusedVariables false

theorem fl_count (zs : List Int) : ∀ (i j : Nat), j < zs.length → (fl i zs).count (((i + j : Nat)) : Int) = (zs.getD j 0).toNat := by
  induction zs with
  | nil => intro i j h; simp at h
  | cons y zs ih =>
    intro i j h
    rw [fl, List.count_append, List.count_replicate]
    cases j with
    | zero =>
      have h0 : (fl (i + 1) zs).count (((i + 0 : Nat)) : Int) = 0 := by
        rw [List.count_eq_zero]
        intro hm
        obtain ⟨j, _, e, _⟩ := fl_mem zs (i + 1) _ hm
        omega
      rw [h0]
      simp
    | succ j =>
      have hne : ((i : Int) == ((i + (j + 1) : Nat) : Int)) = false := by simp; omega
      have h1 := ih (i + 1) j (by simpa using h)
      rw [show i + 1 + j = i + (j + 1) from by omega] at h1
      rw [hne, h1]
      simp
theorem perm3 : ((List.range 64).map (fun p => 3 * p % 64)).Perm (List.range 64) := by decide +kernel
theorem sp_perm {zs : List Int} (hn : normB zs = true) : (pl (fl 0 zs) (plc 64)).Perm (fl 0 zs) := by
  have hnn : (∀ z ∈ zs, 0 ≤ z) ∧ zs.sum = 64 := by
    have h := hn
    simp only [normB, decide_eq_true_eq] at h
    exact ⟨fun z hz => (h.2.2.1 z hz).1, h.2.2.2⟩
  have hl : (fl 0 zs).length = 64 := by have := fl_len zs 0 hnn.1; omega
  have e1 : pl (fl 0 zs) (plc 64) = ((List.range 64).map (fun p => 3 * p % 64)).map (fun i => (fl 0 zs).getD i 0) := by
    apply List.ext_getElem
    · simp [pl_len]
    · intro p h1 h2
      have hp : p < 64 := by rw [pl_len] at h1; exact h1
      have := pl_get (fl 0 zs) 64 (Nat.le_refl _) p hp
      rw [if_pos (by omega), List.getD_eq_getElem?_getD, List.getElem?_eq_getElem h1] at this
      simpa using this
  have e2 : fl 0 zs = (List.range 64).map (fun i => (fl 0 zs).getD i 0) := by
    apply List.ext_getElem
    · simp [hl]
    · intro p h1 h2
      simp [List.getElem?_eq_getElem h1]
  rw [e1]
  exact (perm3.map _).trans (by rw [← e2])
theorem nx_cnt (SP zs : List Int) (hS : ∀ i, i < SP.length → ∃ s : Nat, SP.getD i 0 = (s : Int)) (s : Nat) (hs : s < zs.length) : ∀ i, i ≤ SP.length → (nx SP zs i).getD s 0 = zs.getD s 0 + ((SP.take i).count (s : Int) : Nat) := by
  intro i
  induction i with
  | zero => intro _; simp [nx]
  | succ i ih =>
    intro hi
    obtain ⟨t, ht⟩ := hS i (by omega)
    have hti : SP[i] = (t : Int) := by
      rw [List.getD_eq_getElem?_getD, List.getElem?_eq_getElem (by omega)] at ht
      simpa using ht
    rw [nx, ht, Int.toNat_natCast, List.take_succ_eq_append_getElem (by omega), List.count_append, hti]
    have hl := nx_len SP zs i
    by_cases hst : t = s
    · subst hst
      rw [List.getD_eq_getElem?_getD, List.getElem?_set_self (by omega)]
      simp only [Option.getD_some]
      rw [ih (by omega)]
      simp
      omega
    · rw [List.getD_eq_getElem?_getD, List.getElem?_set_ne hst, ← List.getD_eq_getElem?_getD, ih (by omega)]
      have : ¬ ((t : Int) = (s : Int)) := by omega
      simp [this]
theorem nth_of_count (l : List Int) (s : Int) : ∀ m, m < l.count s → ∃ q, ∃ hq : q < l.length, l[q] = s ∧ (l.take q).count s = m := by
  induction l with
  | nil => intro m h; simp at h
  | cons x l ih =>
    intro m h
    by_cases hx : x = s
    · subst hx
      cases m with
      | zero => exact ⟨0, by simp, by simp, by simp⟩
      | succ m =>
        rw [List.count_cons_self] at h
        obtain ⟨q, hq, h1, h2⟩ := ih m (by omega)
        exact ⟨q + 1, by simpa using hq, by simpa using h1, by rw [List.take_succ_cons, List.count_cons_self, h2]⟩
    · rw [List.count_cons_of_ne (fun e => hx e)] at h
      obtain ⟨q, hq, h1, h2⟩ := ih m h
      exact ⟨q + 1, by simpa using hq, by simpa using h1, by rw [List.take_succ_cons, List.count_cons_of_ne (fun e => hx e), h2]⟩
theorem split_at : ∀ p, p < 64 → ∀ c, c < 65 → 1 ≤ c → ∃ k, k < 7 ∧ (c ≤ (p + 64) / 2 ^ k ∧ (p + 64) / 2 ^ k < 2 * c ∧ (p + 64) / 2 ^ k * 2 ^ wd ((p + 64) / 2 ^ k) ≤ p + 64 ∧ p + 64 < ((p + 64) / 2 ^ k + 1) * 2 ^ wd ((p + 64) / 2 ^ k)) := by decide +kernel

/-- The cell q has the symbol s, and the place p is come to from it. -/
def hit (T : List Int) (s : Int) (p q : Nat) : Prop := T.getD (q * 3) 0 = s ∧ cZ T q ≤ p ∧ p < cZ T q + 2 ^ cB T q
instance (T : List Int) (s : Int) (p q : Nat) : Decidable (hit T s p q) := by unfold hit; infer_instance
theorem cX_cnt {zs : List Int} (hn : normB zs = true) (q s : Nat) (hq : q < 64) (hs : (pl (fl 0 zs) (plc 64)).getD q 0 = (s : Int)) (hsl : s < zs.length) : (cX (pl (fl 0 zs) (plc 64)) zs q : Int) = zs.getD s 0 + (((pl (fl 0 zs) (plc 64)).take q).count (s : Int) : Nat) := by
  have hl : (pl (fl 0 zs) (plc 64)).length = 64 := pl_len _ _
  have := nx_cnt (pl (fl 0 zs) (plc 64)) zs (fun i hi => by obtain ⟨s, h, _⟩ := sp_sym hn i (by omega); exact ⟨s, h⟩) s hsl q (by omega)
  have h0 := (nx_bnd (pl (fl 0 zs) (plc 64)) zs q s).1
  have hz := normB_get hn s hsl
  unfold cX
  rw [hs, Int.toNat_natCast]
  omega
theorem cell_atG (SP zs : List Int) (n q : Nat) (hq : q < n) : (tb SP zs n).getD (q * 3) 0 = SP.getD q 0 ∧ cB (tb SP zs n) q = wd (cX SP zs q) ∧ cZ (tb SP zs n) q = cX SP zs q * 2 ^ wd (cX SP zs q) - 64 := by
  have h0 := tb_get SP zs q 0 (by omega) n hq
  have h1 := tb_get SP zs q 1 (by omega) n hq
  have h2 := tb_get SP zs q 2 (by omega) n hq
  generalize tb SP zs n = T at *
  generalize cX SP zs q = X at *
  generalize SP.getD q 0 = u at *
  rw [Nat.add_zero] at h0
  refine ⟨by rw [h0]; rfl, ?_, ?_⟩
  · unfold cB
    rw [h1]
    simp
  · unfold cZ
    rw [h2]
    show (((X * 2 ^ wd X : Nat) : Int) - 64).toNat = _
    omega
theorem cell_at {zs : List Int} (q : Nat) (hq : q < 64) : (tb (pl (fl 0 zs) (plc 64)) zs 64).getD (q * 3) 0 = (pl (fl 0 zs) (plc 64)).getD q 0 ∧ cB (tb (pl (fl 0 zs) (plc 64)) zs 64) q = wd (cX (pl (fl 0 zs) (plc 64)) zs q) ∧ cZ (tb (pl (fl 0 zs) (plc 64)) zs 64) q = cX (pl (fl 0 zs) (plc 64)) zs q * 2 ^ wd (cX (pl (fl 0 zs) (plc 64)) zs q) - 64 := cell_atG _ zs 64 q hq
theorem ex_hit {zs : List Int} (hn : normB zs = true) (s p : Nat) (hs : s < zs.length) (hp : p < 64) (hc : zs.getD s 0 ≠ 0) : ∃ q, q < 64 ∧ hit (tb (pl (fl 0 zs) (plc 64)) zs 64) (s : Int) p q := by
  have hz := normB_get hn s hs
  obtain ⟨c, hcc⟩ := Int.eq_ofNat_of_zero_le hz.1
  obtain ⟨k, _, h1, h2, h3, h4⟩ := split_at p hp c (by omega) (by omega)
  generalize (p + 64) / 2 ^ k = X at *
  have hcount : (pl (fl 0 zs) (plc 64)).count (s : Int) = c := by
    rw [(sp_perm hn).count_eq]
    have := fl_count zs 0 s hs
    rw [Nat.zero_add, hcc] at this
    simpa using this
  obtain ⟨q, hq, hq1, hq2⟩ := nth_of_count (pl (fl 0 zs) (plc 64)) (s : Int) (X - c) (by omega)
  have hq64 : q < 64 := by rw [pl_len] at hq; exact hq
  have hqs : (pl (fl 0 zs) (plc 64)).getD q 0 = (s : Int) := by rw [List.getD_eq_getElem?_getD, List.getElem?_eq_getElem hq, hq1]; rfl
  have hX := cX_cnt hn q s hq64 hqs hs
  rw [hq2, hcc] at hX
  have hX' : cX (pl (fl 0 zs) (plc 64)) zs q = X := by omega
  obtain ⟨c1, c2, c3⟩ := cell_at (zs := zs) q hq64
  refine ⟨q, hq64, by rw [c1]; exact hqs, ?_, ?_⟩
  · rw [c3, hX']; omega
  · rw [c3, c2, hX']
    rw [Nat.add_mul, Nat.one_mul] at h4
    omega
/-- The first cell by which p is come to with s. -/
def First (T : List Int) (s : Int) (p q : Nat) : Prop := q < 64 ∧ hit T s p q ∧ ∀ j, j < q → ¬ hit T s p j
def fq (T : List Int) (s : Int) (p : Nat) : Nat := ((List.range 64).find? (fun q => decide (hit T s p q))).getD 0
theorem fq_first {T : List Int} {s : Int} {p : Nat} (h : ∃ q, q < 64 ∧ hit T s p q) : First T s p (fq T s p) := by
  obtain ⟨q, hq, hh⟩ := h
  unfold fq
  cases hf : (List.range 64).find? (fun q => decide (hit T s p q)) with
  | none =>
    rw [List.find?_eq_none] at hf
    exact absurd hh (by simpa using hf q (by simpa using hq))
  | some r =>
    obtain ⟨h1, i, hi, h2, h3⟩ := List.find?_eq_some_iff_getElem.1 hf
    simp only [List.length_range] at hi
    simp only [List.getElem_range] at h2 h3
    subst h2
    refine ⟨hi, by simpa using h1, fun j hj => ?_⟩
    have := h3 j hj
    simpa using this
theorem no_hit {zs : List Int} (hn : normB zs = true) (s : Int) (p : Nat) (hc : ∀ k : Nat, s = k → zs.getD k 0 = 0) : ∀ q, q < 64 → ¬ hit (tb (pl (fl 0 zs) (plc 64)) zs 64) s p q := by
  intro q hq h
  obtain ⟨c1, _, _⟩ := cell_at (zs := zs) q hq
  obtain ⟨t, ht, htl, htp, _⟩ := sp_sym hn q hq
  have := h.1
  rw [c1, ht] at this
  have := hc t this.symm
  omega

/-- Place, bits and number when the last k symbols of a text are put. -/
def fpS (T ts : List Int) : Nat → Nat × Nat × Nat
  | 0 => (0, 0, 0)
  | k + 1 => (fq T (ts.getD (ts.length - 1 - k) 0) (fpS T ts k).1, (fpS T ts k).2.1 + cB T (fq T (ts.getD (ts.length - 1 - k) 0) (fpS T ts k).1), (fpS T ts k).2.2 + ((fpS T ts k).1 - cZ T (fq T (ts.getD (ts.length - 1 - k) 0) (fpS T ts k).1)) * 2 ^ (fpS T ts k).2.1)
end Go.Proofs.YtmhpgkfaihcmeaaDoor
namespace Go.Proofs.YtmhpgkfaihcmeaaDoor
open Go.RowKit
set_option linter.unusedVariables false

theorem below_dP {B : Nat} {a b : World} (h : Below B a b) (n : Nat) : Below B a (b.drewN n) := ⟨h.os, h.tape, h.output, h.size, h.block⟩
theorem pow6 (b : Nat) (h : b ≤ 6) : wrap64 (2 ^ b) = ((2 ^ b : Nat) : Int) ∧ 2 ^ b ≤ 64 ∧ 1 ≤ 2 ^ b := by
  have h1 : 2 ^ b ≤ 2 ^ 6 := Nat.pow_le_pow_right (by omega) h
  have h2 : 0 < 2 ^ b := Nat.pow_pos (by omega)
  have e : ((2 : Int) ^ b) = ((2 ^ b : Nat) : Int) := by simp
  refine ⟨?_, h1, h2⟩
  rw [e]
  exact IntWalk.wrap64_in _ (by omega)

set_option maxHeartbeats 2000000 in
theorem has_any (sy : Int) (b z p : Nat) (w : World) (hb : b ≤ 6) (hz : z ≤ 64) (hp : p ≤ 64) :
    Calls Tryd.prog 55 #[.agg #[.int .i64 sy, .int .i64 b, .int .i64 z], .int .i64 p] w fun e w' => e = .returned (.bool (decide (z ≤ p ∧ p < z + 2 ^ b))) ∧ Below w.heap.size w w' := by
  have hw : Below w.heap.size w (w.alloc (Obj.cells #[Value.int IntKind.i64 sy, Value.int IntKind.i64 b, Value.int IntKind.i64 z] 81)) := (Below.refl _ _).alloc (Nat.le_refl _) _
  obtain ⟨e1, e2, e3⟩ := pow6 b hb
  have HP : Hid (wrap64 (2 ^ b) = ((2 ^ b : Nat) : Int) ∧ 2 ^ b ≤ 64) := ⟨e1, e2⟩
  have hpw : (0 : Int) ≤ wrap64 (2 ^ b) ∧ wrap64 (2 ^ b) ≤ 64 := by omega
  obtain ⟨hp0, hp1⟩ := hpw
  have HW : Hid (Below w.heap.size w (w.alloc (Obj.cells #[Value.int IntKind.i64 sy, Value.int IntKind.i64 b, Value.int IntKind.i64 z] 81)) ∧ True) := ⟨hw, trivial⟩
  clear hw
  by_cases h1 : z ≤ p
  · by_cases h2 : p < z + 2 ^ b
    · have HD : Hid (decide (z ≤ p ∧ p < z + 2 ^ b) = true ∧ True) := ⟨by simp; omega, trivial⟩
      have h1i : (z : Int) ≤ (p : Int) := by omega
      have h2i : (p : Int) < (z : Int) + wrap64 (2 ^ b) := by rw [e1]; omega
      clear e1 e2 e3 h1 h2
      go_enter Tryd.func55, Tryd.ntmps55
      go_wp2_with fail
      go_quiet (fail)
      go_wp2
      go_ret
      exact ⟨by rw [HD.out.1]; rfl, below_dP HW.out.1 _⟩
    · have HD : Hid (decide (z ≤ p ∧ p < z + 2 ^ b) = false ∧ True) := ⟨by simp; omega, trivial⟩
      have h1i : (z : Int) ≤ (p : Int) := by omega
      have h2i : ¬ (p : Int) < (z : Int) + wrap64 (2 ^ b) := by rw [e1]; omega
      have h2j : decide ((p : Int) < (z : Int) + wrap64 (2 ^ b)) = false := decide_eq_false h2i
      clear e1 e2 e3 h1 h2
      go_enter Tryd.func55, Tryd.ntmps55
      go_wp2_with fail
      go_quiet (fail)
      go_wp2
      go_ret
      exact ⟨by rw [HD.out.1]; rfl, below_dP HW.out.1 _⟩
  · have HD : Hid (decide (z ≤ p ∧ p < z + 2 ^ b) = false ∧ True) := ⟨by simp; omega, trivial⟩
    have h1j : decide (z ≤ p) = false := decide_eq_false (by omega)
    clear e1 e2 e3 h1
    go_enter Tryd.func55, Tryd.ntmps55
    go_wp2_with fail
    go_quiet (fail)
    go_wp2
    go_ret
    exact ⟨by rw [HD.out.1]; rfl, below_dP HW.out.1 _⟩

end Go.Proofs.YtmhpgkfaihcmeaaDoor
namespace Go.Proofs.YtmhpgkfaihcmeaaDoor
open Go.RowKit
set_option linter.unusedVariables false

theorem powP (b : Nat) (h : b ≤ 6) : ∃ Pw : Nat, Pw = 2 ^ b ∧ wrap64 (2 ^ b) = (Pw : Int) ∧ Pw ≤ 64 ∧ (0 : Int) ≤ wrap64 (2 ^ b) ∧ wrap64 (2 ^ b) ≤ 64 := by
  obtain ⟨h1, h2, h3⟩ := pow6 b h
  exact ⟨2 ^ b, rfl, h1, h2, by omega, by omega⟩
theorem in_cell {z p Pw : Nat} {u : Int} (hu : u = (Pw : Int)) (h : p < z + Pw) : (p : Int) < (z : Int) + u := by omega
theorem out_cell {z p Pw : Nat} {u : Int} (hu : u = (Pw : Int)) (h : ¬ p < z + Pw) : ¬ (p : Int) < (z : Int) + u := by omega

set_option maxRecDepth 20000 in
set_option maxHeartbeats 4000000 in
theorem l3from_any (a : Option Addr) (c : Nat) (T : List Int) (L : Nat) (s : Int) (p q : Nat) (w : World) (ha : Ins w a T) (hT : Gd T L) (hF : First T s p q) (hp : p < 64) :
    Calls Tryd.prog 62 #[.slice a 64 c, .int .i64 s, .int .i64 p] w fun e w' => e = .returned (.tuple #[.int .i64 (q : Nat), .int .i64 (cB T q : Nat)]) ∧ Below w.heap.size w w' := by
  have HA : Hid (Ins w a T) := ha
  have HT : Hid (Gd T L) := hT
  have HF : Hid (First T s p q) := hF
  have hq64 := hF.1
  clear ha hT hF
  go_enter Tryd.func62, Tryd.ntmps62
  go_wp2
  go_loopw [8] (fun i wr => ∃ k : Nat, k ≤ q ∧ i = .int .i64 k ∧ Below w.heap.size w wr) (fun i _ => 64 - (intOf i).toNat)
  case atStart => exact ⟨0, Nat.zero_le _, rfl, Below.refl _ _⟩
  case round =>
    obtain ⟨k, hk, rfl, hbel⟩ := hrel
    have HBL : Hid (Below w.heap.size w wr ∧ w.heap.size ≤ wr.heap.size) := ⟨hbel, hbel.size⟩
    obtain ⟨sy, b, z, e1, e2, e3, hsy, hb6, hz64⟩ := HT.out.cell k (by omega)
    obtain ⟨gT, oT, rfl, hgT, hcT⟩ := (HA.out.below hbel (Nat.le_refl _)).len_pos (k * 3) (by rw [HT.out.len]; omega)
    have t0 := hcT (k * 3) (by rw [HT.out.len]; omega)
    have t1 := hcT (k * 3 + 1) (by rw [HT.out.len]; omega)
    have t2 := hcT (k * 3 + 2) (by rw [HT.out.len]; omega)
    rw [e1] at t0
    rw [e2, ← Nat.add_assoc] at t1
    rw [e3, ← Nat.add_assoc] at t2
    have HCB : Hid (cB T k = b ∧ cZ T k = z ∧ T.getD (k * 3) 0 = (sy : Int)) := ⟨by unfold cB; rw [e2, Int.toNat_natCast], by unfold cZ; rw [e3, Int.toNat_natCast], e1⟩
    have hz63 : (z : Int) ≤ 64 := Int.ofNat_le.2 (Nat.le_trans (Nat.le_add_right z (2 ^ b)) hz64)
    have hk63 : (k : Int) < 64 := by omega
    obtain ⟨Pw, hPw, ew, ep1, hp0, hp1⟩ := powP b hb6
    rw [← hPw] at hz64
    have HEW : Hid (wrap64 (2 ^ b) = (Pw : Int) ∧ Pw = 2 ^ b) := ⟨ew, hPw⟩
    have HBA : Hid (Below w.heap.size w (wr.alloc (Obj.cells #[Value.int .i64 sy, Value.int .i64 b, Value.int .i64 z] 81)) ∧ True) := ⟨hbel.alloc HBL.out.2 _, trivial⟩
    clear hcT e1 e2 e3 ew ep1 hPw hz64 hbel
    by_cases hkq : k = q
    · subst hkq
      have hh := HF.out.2.1
      unfold hit at hh
      rw [HCB.out.1, HCB.out.2.1, HCB.out.2.2, ← HEW.out.2] at hh
      obtain ⟨g1, g2, g3⟩ := hh
      subst g1
      have h0 : ((sy : Int) == (sy : Int)) = true := by simp
      have h1i : (z : Int) ≤ (p : Int) := by omega
      have h2i : (p : Int) < (z : Int) + wrap64 (2 ^ b) := in_cell HEW.out.1 g3
      clear g2 g3
      go_wp2_with fail
      go_quiet (fail)
      go_wp2
      go_quiet (fail)
      go_wp2
      go_ret2
      refine ⟨?_, below_dP (below_dP HBA.out.1 _) _⟩
      rw [HCB.out.1]
      rfl
    · have hnh := HF.out.2.2 k (by omega)
      unfold hit at hnh
      rw [HCB.out.1, HCB.out.2.1, HCB.out.2.2, ← HEW.out.2] at hnh
      by_cases g1 : (sy : Int) = s
      · subst g1
        have h0 : ((sy : Int) == (sy : Int)) = true := by simp
        by_cases g2 : z ≤ p
        · have h1i : (z : Int) ≤ (p : Int) := by omega
          have h2i : ¬ (p : Int) < (z : Int) + wrap64 (2 ^ b) := out_cell HEW.out.1 (fun h => hnh ⟨rfl, g2, h⟩)
          have h2j : decide ((p : Int) < (z : Int) + wrap64 (2 ^ b)) = false := decide_eq_false h2i
          clear hnh g2
          go_wp2_with fail
          go_quiet (fail)
          go_wp2
          go_roundw
          case rel => exact ⟨k + 1, by omega, by go_num, below_dP HBA.out.1 _⟩
          case measure => simp [intOf]; omega
        · have h1j : decide (z ≤ p) = false := decide_eq_false (by omega)
          clear hnh g2
          go_wp2_with fail
          go_quiet (fail)
          go_wp2
          go_roundw
          case rel => exact ⟨k + 1, by omega, by go_num, below_dP HBA.out.1 _⟩
          case measure => simp [intOf]; omega
      · have h0 : ((sy : Int) == s) = false := by simpa using g1
        clear hnh g1
        go_wp2_with fail
        go_quiet (fail)
        go_wp2
        go_roundw
        case rel => exact ⟨k + 1, by omega, by go_num, below_dP HBA.out.1 _⟩
        case measure => simp [intOf]; omega

end Go.Proofs.YtmhpgkfaihcmeaaDoor
namespace Go.Proofs.YtmhpgkfaihcmeaaDoor
open Go.RowKit
set_option linter.unusedVariables false

set_option maxRecDepth 20000 in
set_option maxHeartbeats 4000000 in
/-- placeFor: the first cell that is hit, or the error. -/
theorem placeFor_any (g : Nat) (T : List Int) (L : Nat) (s : Int) (p : Nat) (w : World) (hg : w.heap[g]? = some (.cells (cel T) 83 (0, 0))) (hT : Gd T L) (hp : p < 64) (hS : Sent w 2) :
    Calls Tryd.prog 40 #[.pointer (some ⟨g, 0, none⟩), .int .i64 s, .int .i64 p] w fun e w' => Below w.heap.size w w' ∧
      ((∃ q, First T s p q ∧ e = .returned (.tuple #[.int .i64 (q : Nat), .nilIface])) ∨ ((∀ q, q < 64 → ¬ hit T s p q) ∧ ∃ T' y, e = .returned (.tuple #[.int .i64 0, .iface T' y]))) := by
  have HG : Hid (w.heap[g]? = some (.cells (cel T) 83 (0, 0)) ∧ g < w.heap.size) := ⟨hg, (Array.getElem?_eq_some_iff.1 hg).1⟩
  have HT : Hid (Gd T L) := hT
  obtain ⟨T', y, hc⟩ := hS
  have HC : Hid (w.cell? ⟨2, 0, none⟩ = some (.iface T' y) ∧ 2 < w.heap.size) := ⟨hc, World.block_lt_of_cell? _ _ hc⟩
  clear hg hT hc
  go_enter Tryd.func40, Tryd.ntmps40
  go_wp2
  go_loopw [12] (fun i wr => ∃ k : Nat, k ≤ 64 ∧ i = .int .i64 k ∧ Below w.heap.size w wr ∧ ∀ j, j < k → ¬ hit T s p j) (fun i _ => 64 - (intOf i).toNat)
  case atStart => exact ⟨0, Nat.zero_le _, rfl, Below.refl _ _, fun j hj => by omega⟩
  case round =>
    obtain ⟨k, hk, rfl, hbel, hno⟩ := hrel
    have HBL : Hid (Below w.heap.size w wr ∧ w.heap.size ≤ wr.heap.size ∧ ∀ j, j < k → ¬ hit T s p j) := ⟨hbel, hbel.size, hno⟩
    clear hno
    by_cases hlt : k < 64
    · obtain ⟨sy, b, z, e1, e2, e3, hsy, hb6, hz64⟩ := HT.out.cell k (by omega)
      have hTb : wr.heap[g]? = some (.cells (cel T) 83 (0, 0)) := (hbel.block g HG.out.2).trans HG.out.1
      have t0 := arr_cell (tb := T) hTb (k * 3) (by rw [HT.out.len]; omega)
      have t1 := arr_cell (tb := T) hTb (k * 3 + 1) (by rw [HT.out.len]; omega)
      have t2 := arr_cell (tb := T) hTb (k * 3 + 2) (by rw [HT.out.len]; omega)
      have lg : g < wr.heap.size := by have := HG.out.2; have := HBL.out.2.1; omega
      rw [e1] at t0
      rw [e2] at t1
      rw [e3] at t2
      have HCB : Hid (cB T k = b ∧ cZ T k = z ∧ T.getD (k * 3) 0 = (sy : Int)) := ⟨by unfold cB; rw [e2, Int.toNat_natCast], by unfold cZ; rw [e3, Int.toNat_natCast], e1⟩
      have hz63 : z ≤ 64 := Nat.le_trans (Nat.le_add_right z (2 ^ b)) hz64
      have HBA : Hid (Below w.heap.size w (wr.alloc (Obj.cells #[Value.int .i64 sy, Value.int .i64 b, Value.int .i64 z] 81)) ∧ True) := ⟨hbel.alloc HBL.out.2.1 _, trivial⟩
      clear hTb e1 e2 e3 hz64 hbel
      by_cases g1 : (sy : Int) = s
      · subst g1
        have h0 : ((sy : Int) == (sy : Int)) = true := by simp
        have HH := has_any (sy : Int) b z p (wr.alloc (Obj.cells #[Value.int .i64 sy, Value.int .i64 b, Value.int .i64 z] 81)).drew hb6 hz63 (by omega)
        cases hd : decide (z ≤ p ∧ p < z + 2 ^ b) with
        | true =>
          have HF : Hid (First T (sy : Int) p k) := ⟨hlt, by
            unfold hit
            rw [HCB.out.1, HCB.out.2.1, HCB.out.2.2]
            exact ⟨rfl, of_decide_eq_true hd⟩, HBL.out.2.2⟩
          rw [hd] at HH
          clear hd
          go_wp2_with fail
          go_region
          all_goals
            go_wp2_with fail
            refine HH.mono ?_
            clear HH
            rintro e w8 ⟨rfl, hb8⟩
            have HB8 : Hid (Below w.heap.size w w8 ∧ True) := ⟨HBA.out.1.drew.trans (hb8.mono HBA.out.1.size), trivial⟩
            clear hb8
            go_wp2
            go_ret2
            exact ⟨HB8.out.1, .inl ⟨k, HF.out, rfl⟩⟩
        | false =>
          have HN : Hid (∀ j, j < k + 1 → ¬ hit T (sy : Int) p j) := by
            intro j hj
            by_cases e : j = k
            · subst e
              unfold hit
              rw [HCB.out.1, HCB.out.2.1]
              exact fun h => absurd h.2 (of_decide_eq_false hd)
            · exact HBL.out.2.2 j (by omega)
          rw [hd] at HH
          clear hd
          go_wp2_with fail
          go_region
          all_goals
            go_wp2_with fail
            refine HH.mono ?_
            clear HH
            rintro e w8 ⟨rfl, hb8⟩
            have HB8 : Hid (Below w.heap.size w w8 ∧ True) := ⟨HBA.out.1.drew.trans (hb8.mono HBA.out.1.size), trivial⟩
            clear hb8
            go_wp2
            go_roundw
            case rel => exact ⟨k + 1, by omega, by go_num, HB8.out.1, HN.out⟩
            case measure => simp [intOf]; omega
      · have h0 : ((sy : Int) == s) = false := by simpa using g1
        have HN : Hid (∀ j, j < k + 1 → ¬ hit T s p j) := by
          intro j hj
          by_cases e : j = k
          · subst e
            unfold hit
            rw [HCB.out.2.2]
            exact fun h => g1 h.1
          · exact HBL.out.2.2 j (by omega)
        clear g1
        go_wp2_with fail
        go_region
        all_goals
          go_wp2
          go_roundw
          case rel => exact ⟨k + 1, by omega, by go_num, HBA.out.1.drew, HN.out⟩
          case measure => simp [intOf]; omega
    · have HKN : Hid (k = 64 ∧ True) := ⟨by omega, trivial⟩
      have hce := keep hbel HC.out.2 HC.out.1
      clear hbel
      go_wp2_with fail
      go_quiet (fail)
      go_wp2
      go_ret2
      exact ⟨below_dP HBL.out.1 _, .inr ⟨fun q hq => HBL.out.2.2 q (by have := HKN.out.1; omega), T', y, rfl⟩⟩
end Go.Proofs.YtmhpgkfaihcmeaaDoor
namespace Go.Proofs.YtmhpgkfaihcmeaaDoor
open Go.RowKit
set_option linter.unusedVariables false

theorem apart_x : ∀ X, X < 128 → ∀ Y, Y < 128 → (1 ≤ X ∧ X < Y ∧ Y < 2 * X → (X + 1) * 2 ^ wd X ≤ Y * 2 ^ wd Y ∨ (Y + 1) * 2 ^ wd Y ≤ X * 2 ^ wd X) := by decide +kernel
theorem count_lt (l : List Int) (s : Int) (q r : Nat) (hq : q < r) (hr : r ≤ l.length) (hs : l.getD q 0 = s) : (l.take q).count s < (l.take r).count s := by
  have h1 : (l.take (q + 1)).count s = (l.take q).count s + 1 := by
    rw [List.take_succ_eq_append_getElem (by omega), List.count_append]
    rw [List.getD_eq_getElem?_getD, List.getElem?_eq_getElem (by omega)] at hs
    simp at hs
    rw [hs]
    simp
  have h2 : (l.take (q + 1)).count s ≤ (l.take r).count s := by
    have e : l.take (q + 1) = (l.take r).take (q + 1) := by rw [List.take_take, Nat.min_eq_left (by omega)]
    rw [e]
    exact (List.take_sublist _ _).count_le _
  omega
theorem sp_count {zs : List Int} (hn : normB zs = true) (s : Nat) (hs : s < zs.length) : ((pl (fl 0 zs) (plc 64)).count (s : Int) : Int) = zs.getD s 0 := by
  have hz := normB_get hn s hs
  rw [(sp_perm hn).count_eq]
  have := fl_count zs 0 s hs
  rw [Nat.zero_add] at this
  omega
theorem hit_unique {zs : List Int} (hn : normB zs = true) (s p q r : Nat) (hs : s < zs.length) (hp : p < 64) (hq : q < 64) (hr : r < 64) (h1 : hit (tb (pl (fl 0 zs) (plc 64)) zs 64) (s : Int) p q) (h2 : hit (tb (pl (fl 0 zs) (plc 64)) zs 64) (s : Int) p r) : q = r := by
  obtain ⟨a1, a2, a3⟩ := cell_at (zs := zs) q hq
  obtain ⟨b1, b2, b3⟩ := cell_at (zs := zs) r hr
  unfold hit at h1 h2
  rw [a1, a2, a3] at h1
  rw [b1, b2, b3] at h2
  have hX := cX_cnt hn q s hq h1.1 hs
  have hY := cX_cnt hn r s hr h2.1 hs
  have hc := sp_count hn s hs
  have hz := normB_get hn s hs
  have hl : (pl (fl 0 zs) (plc 64)).length = 64 := pl_len _ _
  have cq := count_lt (pl (fl 0 zs) (plc 64)) (s : Int) q 64 hq (by omega) h1.1
  have cr := count_lt (pl (fl 0 zs) (plc 64)) (s : Int) r 64 hr (by omega) h2.1
  have ht : (pl (fl 0 zs) (plc 64)).take 64 = pl (fl 0 zs) (plc 64) := List.take_of_length_le (by omega)
  rw [ht] at cq cr
  have key : ∀ X Y : Nat, X < Y → 1 ≤ X → Y < 128 → Y < 2 * X → X * 2 ^ wd X - 64 ≤ p → p < X * 2 ^ wd X - 64 + 2 ^ wd X → Y * 2 ^ wd Y - 64 ≤ p → p < Y * 2 ^ wd Y - 64 + 2 ^ wd Y → False := by
    intro X Y hXY h1 h128 h2x k1 k2 k3 k4
    have w1 := wd_rng (x := X) h1 (by omega)
    have w2 := wd_rng (x := Y) (by omega) (by omega)
    have := apart_x X (by omega) Y h128 ⟨h1, hXY, h2x⟩
    rw [Nat.add_mul, Nat.one_mul, Nat.add_mul, Nat.one_mul] at this
    generalize X * 2 ^ wd X = A at *
    generalize Y * 2 ^ wd Y = B at *
    generalize 2 ^ wd X = C at *
    generalize 2 ^ wd Y = D at *
    omega
  generalize cX (pl (fl 0 zs) (plc 64)) zs q = X at *
  generalize cX (pl (fl 0 zs) (plc 64)) zs r = Y at *
  have hXY : X = Y := by
    rcases Nat.lt_trichotomy X Y with h | h | h
    · exact (key X Y h (by omega) (by omega) (by omega) h1.2.1 h1.2.2 h2.2.1 h2.2.2).elim
    · exact h
    · exact (key Y X h (by omega) (by omega) (by omega) h2.2.1 h2.2.2 h1.2.1 h1.2.2).elim
  rcases Nat.lt_trichotomy q r with h | h | h
  · have := count_lt (pl (fl 0 zs) (plc 64)) (s : Int) q r h (by omega) h1.1
    omega
  · exact h
  · have := count_lt (pl (fl 0 zs) (plc 64)) (s : Int) r q h (by omega) h2.1
    omega
/-- How many of the first i cells are hit. -/
def hcn (T : List Int) (s : Int) (p : Nat) : Nat → Nat
  | 0 => 0
  | i + 1 => hcn T s p i + if hit T s p i then 1 else 0
theorem hcn_zero {T : List Int} {s : Int} {p : Nat} : ∀ i, (∀ q, q < i → ¬ hit T s p q) → hcn T s p i = 0 := by
  intro i
  induction i with
  | zero => intro _; rfl
  | succ i ih => intro h; rw [hcn, ih (fun q hq => h q (by omega)), if_neg (h i (by omega))]
theorem hcn_one {T : List Int} {s : Int} {p r : Nat} (hr : hit T s p r) : ∀ i, r < i → (∀ q, q < i → hit T s p q → q = r) → hcn T s p i = 1 := by
  intro i
  induction i with
  | zero => intro h; omega
  | succ i ih =>
    intro h hu
    rw [hcn]
    by_cases e : r < i
    · rw [ih e (fun q hq => hu q (by omega)), if_neg (fun hh => by have := hu i (by omega) hh; omega)]
    · obtain rfl : r = i := by omega
      rw [if_pos hr, hcn_zero r (fun q hq hh => by have := hu q (by omega) hh; omega)]
theorem hcn_le {T : List Int} {s : Int} {p : Nat} : ∀ i, hcn T s p i ≤ i := by
  intro i
  induction i with
  | zero => exact Nat.le_refl _
  | succ i ih => rw [hcn]; split <;> omega
/-- What the law asks of a table and its places. -/
structure Way (T SP ls : List Int) : Prop where
  gd : Gd T ls.length
  sl : SP.length = 64
  one : ∀ y p : Nat, y < ls.length → p < 64 → 0 < ls.getD y 0 → hcn T (y : Int) p 64 = 1
  none : ∀ y p : Nat, y < ls.length → p < 64 → ls.getD y 0 = 0 → hcn T (y : Int) p 64 = 0
  nn : ∀ y : Nat, y < ls.length → 0 ≤ ls.getD y 0 ∧ ls.getD y 0 ≤ 64
  cnt : ∀ y : Nat, y < ls.length → (SP.count (y : Int) : Int) = ls.getD y 0
theorem way_tb {ls : List Int} (hn : normB ls = true) : Way (tb (pl (fl 0 ls) (plc 64)) ls 64) (pl (fl 0 ls) (plc 64)) ls := by
  refine ⟨gd_tb hn, pl_len _ _, fun y p hy hp h => ?_, fun y p hy hp h => ?_, fun y hy => normB_get hn y hy, fun y hy => sp_count hn y hy⟩
  · obtain ⟨r, hr, hh⟩ := ex_hit hn y p hy hp (by omega)
    exact hcn_one hh 64 hr (fun q hq hqq => hit_unique hn y p q r hy hp hq hr hqq hh)
  · exact hcn_zero 64 (fun q hq => no_hit hn (y : Int) p (fun k hk => by
      have : y = k := by omega
      subst this
      exact h) q hq)
end Go.Proofs.YtmhpgkfaihcmeaaDoor
