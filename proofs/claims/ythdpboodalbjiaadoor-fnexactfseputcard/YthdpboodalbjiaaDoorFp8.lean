/-
  FsePut, both sides.
-/
import Derived.Test.YthdpboodalbjiaaDoorTb3
import Derived.Test.YthdpboodalbjiaaDoorTb2
import Derived.Test.YthdpboodalbjiaaDoorTb4
import Derived.Test.YthdpboodalbjiaaDoorWidth
import Derived.Test.YthdpboodalbjiaaDoorWri
import Derived.Test.YthdpboodalbjiaaDoorInR
import Derived.Test.YthdpboodalbjiaaDoorWCells
import Derived.Deep.RegionHeld3
import Derived.Test.YthdpboodalbjiaaDoorTb5
import Derived.Test.YthdpboodalbjiaaDoorPut3
import Derived.Test.YthdpboodalbjiaaDoorITxtI
import Derived.Test.YthdpboodalbjiaaDoorITxt
namespace Go.Proofs.YthdpboodalbjiaaDoor
open Go.RowKit
set_option linter.unusedVariables false

/-- What x a place's cell has. -/
def cX (SP zs : List Int) (p : Nat) : Nat := ((nx SP zs p).getD (SP.getD p 0).toNat 0).toNat
theorem tb_step (SP zs : List Int) (n p j : Nat) (hp : p < n) (hj : j < 3) : (tb SP zs (n + 1)).getD (p * 3 + j) 0 = (tb SP zs n).getD (p * 3 + j) 0 := by
  rw [tb, List.getD_eq_getElem?_getD, List.getElem?_append_left (by rw [tb_len]; omega), ← List.getD_eq_getElem?_getD]
theorem tb_new (SP zs : List Int) (n j : Nat) : (tb SP zs (n + 1)).getD (n * 3 + j) 0 = [SP.getD n 0, (wd (cX SP zs n) : Nat), (cX SP zs n * 2 ^ wd (cX SP zs n) : Nat) - 64].getD j 0 := by
  rw [tb, List.getD_eq_getElem?_getD, List.getElem?_append_right (by rw [tb_len]; omega), tb_len, Nat.add_sub_cancel_left, ← List.getD_eq_getElem?_getD]
  rfl
theorem tb_get (SP zs : List Int) (p j : Nat) (hj : j < 3) : ∀ n, p < n → (tb SP zs n).getD (p * 3 + j) 0 = [SP.getD p 0, (wd (cX SP zs p) : Nat), (cX SP zs p * 2 ^ wd (cX SP zs p) : Nat) - 64].getD j 0 := by
  intro n
  induction n with
  | zero => intro h; omega
  | succ n ih =>
    intro h
    by_cases he : p < n
    · rw [tb_step SP zs n p j he hj, ih he]
    · obtain rfl : p = n := by omega
      exact tb_new SP zs p j

/-- A table of 64 cells: each has a symbol, a width and a base, and leads to places alone. -/
structure Gd (T : List Int) (L : Nat) : Prop where
  len : T.length = 192
  cell : ∀ p, p < 64 → ∃ s b z : Nat, T.getD (p * 3) 0 = s ∧ T.getD (p * 3 + 1) 0 = b ∧ T.getD (p * 3 + 2) 0 = z ∧ s < L ∧ b ≤ 6 ∧ z + 2 ^ b ≤ 64

theorem wd_top {x : Nat} (h1 : 1 ≤ x) (h2 : x ≤ 127) : (x + 1) * 2 ^ wd x ≤ 128 := by
  unfold wd
  have hu := Nat.lt_log2_self (n := x)
  have h6 : Nat.log2 x < 7 := (Nat.log2_lt (by omega)).2 (by omega)
  have e2 : 2 ^ (Nat.log2 x + 1) * 2 ^ (6 - Nat.log2 x) = 128 := by rw [← Nat.pow_add, show Nat.log2 x + 1 + (6 - Nat.log2 x) = 7 from by omega]
  rw [← e2]
  exact Nat.mul_le_mul_right _ hu
theorem gd_tb {zs : List Int} (hn : normB zs = true) : Gd (tb (pl (fl 0 zs) (plc 64)) zs 64) zs.length := by
  refine ⟨tb_len _ _ _, fun p hp => ?_⟩
  obtain ⟨s, hs, hsl, hzp, hz64⟩ := sp_sym hn p hp
  have hbn := nx_bnd (pl (fl 0 zs) (plc 64)) zs p s
  have hX1 : 1 ≤ cX (pl (fl 0 zs) (plc 64)) zs p := by unfold cX; rw [hs, Int.toNat_natCast]; omega
  have hX2 : cX (pl (fl 0 zs) (plc 64)) zs p ≤ 127 := by unfold cX; rw [hs, Int.toNat_natCast]; omega
  have h0 := tb_get (pl (fl 0 zs) (plc 64)) zs p 0 (by omega) 64 hp
  have h1 := tb_get (pl (fl 0 zs) (plc 64)) zs p 1 (by omega) 64 hp
  have h2 := tb_get (pl (fl 0 zs) (plc 64)) zs p 2 (by omega) 64 hp
  have hw := wd_rng hX1 hX2
  have ht := wd_top hX1 hX2
  generalize cX (pl (fl 0 zs) (plc 64)) zs p = X at *
  rw [Nat.add_mul, Nat.one_mul] at ht
  exact ⟨s, wd X, X * 2 ^ wd X - 64, by rw [Nat.add_zero] at h0; rw [h0]; simpa using hs, by rw [h1]; rfl, by rw [h2]; show ((X * 2 ^ wd X : Nat) : Int) - 64 = _; omega, hsl, hw.1, by omega⟩

def cB (T : List Int) (p : Nat) : Nat := (T.getD (p * 3 + 1) 0).toNat
def cZ (T : List Int) (p : Nat) : Nat := (T.getD (p * 3 + 2) 0).toNat
/-- Place and end behind i symbols; none where bits are missing. -/
def sg (T : List Int) (v E : Nat) : Nat → Option (Nat × Nat)
  | 0 => some (v / 2 ^ E % 64, E)
  | i + 1 => match sg T v E i with
    | none => none
    | some (st, en) => if en < cB T st then none else some (cZ T st + v / 2 ^ (en - cB T st) % 2 ^ cB T st, en - cB T st)
def so (T : List Int) (v E : Nat) : Nat → List Int
  | 0 => []
  | i + 1 => so T v E i ++ [match sg T v E i with | some (st, _) => T.getD (st * 3) 0 | none => 0]
theorem so_len (T : List Int) (v E i : Nat) : (so T v E i).length = i := by
  induction i with
  | zero => rfl
  | succ i ih => rw [so, List.length_append, ih]; rfl
theorem sg_none {T : List Int} {v E k : Nat} (h : sg T v E k = none) : ∀ n, k ≤ n → sg T v E n = none := by
  intro n
  induction n with
  | zero => intro hk; obtain rfl : k = 0 := by omega
            exact h
  | succ n ih =>
    intro hk
    by_cases e : k = n + 1
    · subst e; exact h
    · rw [sg, ih (by omega)]
theorem sg_rng {T : List Int} {L : Nat} (hT : Gd T L) (v E : Nat) : ∀ i st en, sg T v E i = some (st, en) → st < 64 ∧ en ≤ E := by
  intro i
  induction i with
  | zero =>
    intro st en h
    simp only [sg, Option.some.injEq, Prod.mk.injEq] at h
    omega
  | succ i ih =>
    intro st en h
    rw [sg] at h
    cases hq : sg T v E i with
    | none => rw [hq] at h; simp at h
    | some q =>
      obtain ⟨s0, e0⟩ := q
      rw [hq] at h
      simp only at h
      obtain ⟨h1, h2⟩ := ih s0 e0 hq
      by_cases hl : e0 < cB T s0
      · rw [if_pos hl] at h; simp at h
      · rw [if_neg hl] at h
        simp only [Option.some.injEq, Prod.mk.injEq] at h
        obtain ⟨s, b, z, k1, k2, k3, k4, k5, k6⟩ := hT.cell s0 h1
        have hb : cB T s0 = b := by unfold cB; rw [k2, Int.toNat_natCast]
        have hz : cZ T s0 = z := by unfold cZ; rw [k3, Int.toNat_natCast]
        rw [hb, hz] at h
        have : v / 2 ^ (e0 - b) % 2 ^ b < 2 ^ b := Nat.mod_lt _ (Nat.pow_pos (by omega))
        omega
theorem sg_step {T : List Int} {v E i st en : Nat} (h : sg T v E i = some (st, en)) (hl : ¬ en < cB T st) : sg T v E (i + 1) = some (cZ T st + v / 2 ^ (en - cB T st) % 2 ^ cB T st, en - cB T st) := by
  rw [sg, h]
  simp only
  rw [if_neg hl]
theorem sg_stop {T : List Int} {v E i st en : Nat} (h : sg T v E i = some (st, en)) (hl : en < cB T st) : sg T v E (i + 1) = none := by
  rw [sg, h]
  simp only
  rw [if_pos hl]
theorem so_step {T : List Int} {v E i st en : Nat} (h : sg T v E i = some (st, en)) : so T v E (i + 1) = so T v E i ++ [T.getD (st * 3) 0] := by
  rw [so, h]
theorem so_rng {T : List Int} {L : Nat} (hT : Gd T L) (hL : L ≤ 80) (v E : Nat) : ∀ i, ∀ z ∈ so T v E i, 0 ≤ z ∧ z ≤ 80 := by
  intro i
  induction i with
  | zero => intro z hz; simp [so] at hz
  | succ i ih =>
    intro z hz
    rw [so] at hz
    simp only [List.mem_append, List.mem_cons, List.not_mem_nil, or_false] at hz
    rcases hz with hz | rfl
    · exact ih z hz
    · cases hq : sg T v E i with
      | none => simp
      | some q =>
        obtain ⟨s0, e0⟩ := q
        obtain ⟨s, b, z, k1, _, _, k4, _⟩ := hT.cell s0 (sg_rng hT v E i s0 e0 hq).1
        simp only
        rw [k1]
        omega
/-- Whether N bits are read as n symbols. -/
def fgB (T : List Int) (v N n : Nat) : Bool := decide (6 ≤ N ∧ sg T v (N - 6) n = some (0, 0))
end Go.Proofs.YthdpboodalbjiaaDoor
namespace Go.Proofs.YthdpboodalbjiaaDoor
open Go.RowKit
set_option linter.unusedVariables false

theorem fl_count (zs : List Int) : ∀ (i j : Nat), j < zs.length → (fl i zs).count (((i + j : Nat)) : Int) = (zs.getD j 0).toNat := by
  induction zs with
  | nil => intro i j h; simp at h
  | cons y zs ih =>
    intro i j h
    rw [fl, List.count_append, List.count_replicate]
    cases j with
    | zero =>
      have h0 : (fl (i + 1) zs).count (((i + 0 : Nat)) : Int) = 0 := by
        rw [List.count_eq_zero]
        intro hm
        obtain ⟨j, _, e, _⟩ := fl_mem zs (i + 1) _ hm
        omega
      rw [h0]
      simp
    | succ j =>
      have hne : ((i : Int) == ((i + (j + 1) : Nat) : Int)) = false := by simp; omega
      have h1 := ih (i + 1) j (by simpa using h)
      rw [show i + 1 + j = i + (j + 1) from by omega] at h1
      rw [hne, h1]
      simp
theorem perm3 : ((List.range 64).map (fun p => 3 * p % 64)).Perm (List.range 64) := by decide +kernel
theorem sp_perm {zs : List Int} (hn : normB zs = true) : (pl (fl 0 zs) (plc 64)).Perm (fl 0 zs) := by
  have hnn : (∀ z ∈ zs, 0 ≤ z) ∧ zs.sum = 64 := by
    have h := hn
    simp only [normB, decide_eq_true_eq] at h
    exact ⟨fun z hz => (h.2.2.1 z hz).1, h.2.2.2⟩
  have hl : (fl 0 zs).length = 64 := by have := fl_len zs 0 hnn.1; omega
  have e1 : pl (fl 0 zs) (plc 64) = ((List.range 64).map (fun p => 3 * p % 64)).map (fun i => (fl 0 zs).getD i 0) := by
    apply List.ext_getElem
    · simp [pl_len]
    · intro p h1 h2
      have hp : p < 64 := by rw [pl_len] at h1; exact h1
      have := pl_get (fl 0 zs) 64 (Nat.le_refl _) p hp
      rw [if_pos (by omega), List.getD_eq_getElem?_getD, List.getElem?_eq_getElem h1] at this
      simpa using this
  have e2 : fl 0 zs = (List.range 64).map (fun i => (fl 0 zs).getD i 0) := by
    apply List.ext_getElem
    · simp [hl]
    · intro p h1 h2
      simp [List.getElem?_eq_getElem h1]
  rw [e1]
  exact (perm3.map _).trans (by rw [← e2])
theorem nx_cnt (SP zs : List Int) (hS : ∀ i, i < SP.length → ∃ s : Nat, SP.getD i 0 = (s : Int)) (s : Nat) (hs : s < zs.length) : ∀ i, i ≤ SP.length → (nx SP zs i).getD s 0 = zs.getD s 0 + ((SP.take i).count (s : Int) : Nat) := by
  intro i
  induction i with
  | zero => intro _; simp [nx]
  | succ i ih =>
    intro hi
    obtain ⟨t, ht⟩ := hS i (by omega)
    have hti : SP[i] = (t : Int) := by
      rw [List.getD_eq_getElem?_getD, List.getElem?_eq_getElem (by omega)] at ht
      simpa using ht
    rw [nx, ht, Int.toNat_natCast, List.take_succ_eq_append_getElem (by omega), List.count_append, hti]
    have hl := nx_len SP zs i
    by_cases hst : t = s
    · subst hst
      rw [List.getD_eq_getElem?_getD, List.getElem?_set_self (by omega)]
      simp only [Option.getD_some]
      rw [ih (by omega)]
      simp
      omega
    · rw [List.getD_eq_getElem?_getD, List.getElem?_set_ne hst, ← List.getD_eq_getElem?_getD, ih (by omega)]
      have : ¬ ((t : Int) = (s : Int)) := by omega
      simp [this]
theorem nth_of_count (l : List Int) (s : Int) : ∀ m, m < l.count s → ∃ q, ∃ hq : q < l.length, l[q] = s ∧ (l.take q).count s = m := by
  induction l with
  | nil => intro m h; simp at h
  | cons x l ih =>
    intro m h
    by_cases hx : x = s
    · subst hx
      cases m with
      | zero => exact ⟨0, by simp, by simp, by simp⟩
      | succ m =>
        rw [List.count_cons_self] at h
        obtain ⟨q, hq, h1, h2⟩ := ih m (by omega)
        exact ⟨q + 1, by simpa using hq, by simpa using h1, by rw [List.take_succ_cons, List.count_cons_self, h2]⟩
    · rw [List.count_cons_of_ne (fun e => hx e)] at h
      obtain ⟨q, hq, h1, h2⟩ := ih m h
      exact ⟨q + 1, by simpa using hq, by simpa using h1, by rw [List.take_succ_cons, List.count_cons_of_ne (fun e => hx e), h2]⟩
theorem split_at : ∀ p, p < 64 → ∀ c, c < 65 → 1 ≤ c → ∃ k, k < 7 ∧ (c ≤ (p + 64) / 2 ^ k ∧ (p + 64) / 2 ^ k < 2 * c ∧ (p + 64) / 2 ^ k * 2 ^ wd ((p + 64) / 2 ^ k) ≤ p + 64 ∧ p + 64 < ((p + 64) / 2 ^ k + 1) * 2 ^ wd ((p + 64) / 2 ^ k)) := by decide +kernel

/-- The cell q has the symbol s, and the place p is come to from it. -/
def hit (T : List Int) (s : Int) (p q : Nat) : Prop := T.getD (q * 3) 0 = s ∧ cZ T q ≤ p ∧ p < cZ T q + 2 ^ cB T q
instance (T : List Int) (s : Int) (p q : Nat) : Decidable (hit T s p q) := by unfold hit; infer_instance
theorem cX_cnt {zs : List Int} (hn : normB zs = true) (q s : Nat) (hq : q < 64) (hs : (pl (fl 0 zs) (plc 64)).getD q 0 = (s : Int)) (hsl : s < zs.length) : (cX (pl (fl 0 zs) (plc 64)) zs q : Int) = zs.getD s 0 + (((pl (fl 0 zs) (plc 64)).take q).count (s : Int) : Nat) := by
  have hl : (pl (fl 0 zs) (plc 64)).length = 64 := pl_len _ _
  have := nx_cnt (pl (fl 0 zs) (plc 64)) zs (fun i hi => by obtain ⟨s, h, _⟩ := sp_sym hn i (by omega); exact ⟨s, h⟩) s hsl q (by omega)
  have h0 := (nx_bnd (pl (fl 0 zs) (plc 64)) zs q s).1
  have hz := normB_get hn s hsl
  unfold cX
  rw [hs, Int.toNat_natCast]
  omega
theorem cell_atG (SP zs : List Int) (n q : Nat) (hq : q < n) : (tb SP zs n).getD (q * 3) 0 = SP.getD q 0 ∧ cB (tb SP zs n) q = wd (cX SP zs q) ∧ cZ (tb SP zs n) q = cX SP zs q * 2 ^ wd (cX SP zs q) - 64 := by
  have h0 := tb_get SP zs q 0 (by omega) n hq
  have h1 := tb_get SP zs q 1 (by omega) n hq
  have h2 := tb_get SP zs q 2 (by omega) n hq
  generalize tb SP zs n = T at *
  generalize cX SP zs q = X at *
  generalize SP.getD q 0 = u at *
  rw [Nat.add_zero] at h0
  refine ⟨by rw [h0]; rfl, ?_, ?_⟩
  · unfold cB
    rw [h1]
    simp
  · unfold cZ
    rw [h2]
    show (((X * 2 ^ wd X : Nat) : Int) - 64).toNat = _
    omega
theorem cell_at {zs : List Int} (q : Nat) (hq : q < 64) : (tb (pl (fl 0 zs) (plc 64)) zs 64).getD (q * 3) 0 = (pl (fl 0 zs) (plc 64)).getD q 0 ∧ cB (tb (pl (fl 0 zs) (plc 64)) zs 64) q = wd (cX (pl (fl 0 zs) (plc 64)) zs q) ∧ cZ (tb (pl (fl 0 zs) (plc 64)) zs 64) q = cX (pl (fl 0 zs) (plc 64)) zs q * 2 ^ wd (cX (pl (fl 0 zs) (plc 64)) zs q) - 64 := cell_atG _ zs 64 q hq
theorem ex_hit {zs : List Int} (hn : normB zs = true) (s p : Nat) (hs : s < zs.length) (hp : p < 64) (hc : zs.getD s 0 ≠ 0) : ∃ q, q < 64 ∧ hit (tb (pl (fl 0 zs) (plc 64)) zs 64) (s : Int) p q := by
  have hz := normB_get hn s hs
  obtain ⟨c, hcc⟩ := Int.eq_ofNat_of_zero_le hz.1
  obtain ⟨k, _, h1, h2, h3, h4⟩ := split_at p hp c (by omega) (by omega)
  generalize (p + 64) / 2 ^ k = X at *
  have hcount : (pl (fl 0 zs) (plc 64)).count (s : Int) = c := by
    rw [(sp_perm hn).count_eq]
    have := fl_count zs 0 s hs
    rw [Nat.zero_add, hcc] at this
    simpa using this
  obtain ⟨q, hq, hq1, hq2⟩ := nth_of_count (pl (fl 0 zs) (plc 64)) (s : Int) (X - c) (by omega)
  have hq64 : q < 64 := by rw [pl_len] at hq; exact hq
  have hqs : (pl (fl 0 zs) (plc 64)).getD q 0 = (s : Int) := by rw [List.getD_eq_getElem?_getD, List.getElem?_eq_getElem hq, hq1]; rfl
  have hX := cX_cnt hn q s hq64 hqs hs
  rw [hq2, hcc] at hX
  have hX' : cX (pl (fl 0 zs) (plc 64)) zs q = X := by omega
  obtain ⟨c1, c2, c3⟩ := cell_at (zs := zs) q hq64
  refine ⟨q, hq64, by rw [c1]; exact hqs, ?_, ?_⟩
  · rw [c3, hX']; omega
  · rw [c3, c2, hX']
    rw [Nat.add_mul, Nat.one_mul] at h4
    omega
/-- The first cell by which p is come to with s. -/
def First (T : List Int) (s : Int) (p q : Nat) : Prop := q < 64 ∧ hit T s p q ∧ ∀ j, j < q → ¬ hit T s p j
def fq (T : List Int) (s : Int) (p : Nat) : Nat := ((List.range 64).find? (fun q => decide (hit T s p q))).getD 0
theorem fq_first {T : List Int} {s : Int} {p : Nat} (h : ∃ q, q < 64 ∧ hit T s p q) : First T s p (fq T s p) := by
  obtain ⟨q, hq, hh⟩ := h
  unfold fq
  cases hf : (List.range 64).find? (fun q => decide (hit T s p q)) with
  | none =>
    rw [List.find?_eq_none] at hf
    exact absurd hh (by simpa using hf q (by simpa using hq))
  | some r =>
    obtain ⟨h1, i, hi, h2, h3⟩ := List.find?_eq_some_iff_getElem.1 hf
    simp only [List.length_range] at hi
    simp only [List.getElem_range] at h2 h3
    subst h2
    refine ⟨hi, by simpa using h1, fun j hj => ?_⟩
    have := h3 j hj
    simpa using this
theorem no_hit {zs : List Int} (hn : normB zs = true) (s : Int) (p : Nat) (hc : ∀ k : Nat, s = k → zs.getD k 0 = 0) : ∀ q, q < 64 → ¬ hit (tb (pl (fl 0 zs) (plc 64)) zs 64) s p q := by
  intro q hq h
  obtain ⟨c1, _, _⟩ := cell_at (zs := zs) q hq
  obtain ⟨t, ht, htl, htp, _⟩ := sp_sym hn q hq
  have := h.1
  rw [c1, ht] at this
  have := hc t this.symm
  omega

/-- Place, bits and number when the last k symbols of a text are put. -/
def fpS (T ts : List Int) : Nat → Nat × Nat × Nat
  | 0 => (0, 0, 0)
  | k + 1 => (fq T (ts.getD (ts.length - 1 - k) 0) (fpS T ts k).1, (fpS T ts k).2.1 + cB T (fq T (ts.getD (ts.length - 1 - k) 0) (fpS T ts k).1), (fpS T ts k).2.2 + ((fpS T ts k).1 - cZ T (fq T (ts.getD (ts.length - 1 - k) 0) (fpS T ts k).1)) * 2 ^ (fpS T ts k).2.1)
end Go.Proofs.YthdpboodalbjiaaDoor
namespace Go.Proofs.YthdpboodalbjiaaDoor
open Go.RowKit
set_option linter.unusedVariables false

theorem below_dP {B : Nat} {a b : World} (h : Below B a b) (n : Nat) : Below B a (b.drewN n) := ⟨h.os, h.tape, h.output, h.size, h.block⟩
theorem pow6 (b : Nat) (h : b ≤ 6) : wrap64 (2 ^ b) = ((2 ^ b : Nat) : Int) ∧ 2 ^ b ≤ 64 ∧ 1 ≤ 2 ^ b := by
  have h1 : 2 ^ b ≤ 2 ^ 6 := Nat.pow_le_pow_right (by omega) h
  have h2 : 0 < 2 ^ b := Nat.pow_pos (by omega)
  have e : ((2 : Int) ^ b) = ((2 ^ b : Nat) : Int) := by simp
  refine ⟨?_, h1, h2⟩
  rw [e]
  exact IntWalk.wrap64_in _ (by omega)

set_option maxHeartbeats 2000000 in
theorem has_any (sy : Int) (b z p : Nat) (w : World) (hb : b ≤ 6) (hz : z ≤ 64) (hp : p ≤ 64) :
    Calls Tryd.prog 59 #[.agg #[.int .i64 sy, .int .i64 b, .int .i64 z], .int .i64 p] w fun e w' => e = .returned (.bool (decide (z ≤ p ∧ p < z + 2 ^ b))) ∧ Below w.heap.size w w' := by
  have hw : Below w.heap.size w (w.alloc (Obj.cells #[Value.int IntKind.i64 sy, Value.int IntKind.i64 b, Value.int IntKind.i64 z] 74)) := (Below.refl _ _).alloc (Nat.le_refl _) _
  obtain ⟨e1, e2, e3⟩ := pow6 b hb
  have HP : Hid (wrap64 (2 ^ b) = ((2 ^ b : Nat) : Int) ∧ 2 ^ b ≤ 64) := ⟨e1, e2⟩
  have hpw : (0 : Int) ≤ wrap64 (2 ^ b) ∧ wrap64 (2 ^ b) ≤ 64 := by omega
  obtain ⟨hp0, hp1⟩ := hpw
  have HW : Hid (Below w.heap.size w (w.alloc (Obj.cells #[Value.int IntKind.i64 sy, Value.int IntKind.i64 b, Value.int IntKind.i64 z] 74)) ∧ True) := ⟨hw, trivial⟩
  clear hw
  by_cases h1 : z ≤ p
  · by_cases h2 : p < z + 2 ^ b
    · have HD : Hid (decide (z ≤ p ∧ p < z + 2 ^ b) = true ∧ True) := ⟨by simp; omega, trivial⟩
      have h1i : (z : Int) ≤ (p : Int) := by omega
      have h2i : (p : Int) < (z : Int) + wrap64 (2 ^ b) := by rw [e1]; omega
      clear e1 e2 e3 h1 h2
      go_enter Tryd.func59, Tryd.ntmps59
      go_wp2_with fail
      go_quiet (fail)
      go_wp2
      go_ret
      exact ⟨by rw [HD.out.1]; rfl, below_dP HW.out.1 _⟩
    · have HD : Hid (decide (z ≤ p ∧ p < z + 2 ^ b) = false ∧ True) := ⟨by simp; omega, trivial⟩
      have h1i : (z : Int) ≤ (p : Int) := by omega
      have h2i : ¬ (p : Int) < (z : Int) + wrap64 (2 ^ b) := by rw [e1]; omega
      have h2j : decide ((p : Int) < (z : Int) + wrap64 (2 ^ b)) = false := decide_eq_false h2i
      clear e1 e2 e3 h1 h2
      go_enter Tryd.func59, Tryd.ntmps59
      go_wp2_with fail
      go_quiet (fail)
      go_wp2
      go_ret
      exact ⟨by rw [HD.out.1]; rfl, below_dP HW.out.1 _⟩
  · have HD : Hid (decide (z ≤ p ∧ p < z + 2 ^ b) = false ∧ True) := ⟨by simp; omega, trivial⟩
    have h1j : decide (z ≤ p) = false := decide_eq_false (by omega)
    clear e1 e2 e3 h1
    go_enter Tryd.func59, Tryd.ntmps59
    go_wp2_with fail
    go_quiet (fail)
    go_wp2
    go_ret
    exact ⟨by rw [HD.out.1]; rfl, below_dP HW.out.1 _⟩

end Go.Proofs.YthdpboodalbjiaaDoor
namespace Go.Proofs.YthdpboodalbjiaaDoor
open Go.RowKit
set_option linter.unusedVariables false

theorem powP (b : Nat) (h : b ≤ 6) : ∃ Pw : Nat, Pw = 2 ^ b ∧ wrap64 (2 ^ b) = (Pw : Int) ∧ Pw ≤ 64 ∧ (0 : Int) ≤ wrap64 (2 ^ b) ∧ wrap64 (2 ^ b) ≤ 64 := by
  obtain ⟨h1, h2, h3⟩ := pow6 b h
  exact ⟨2 ^ b, rfl, h1, h2, by omega, by omega⟩
theorem in_cell {z p Pw : Nat} {u : Int} (hu : u = (Pw : Int)) (h : p < z + Pw) : (p : Int) < (z : Int) + u := by omega
theorem out_cell {z p Pw : Nat} {u : Int} (hu : u = (Pw : Int)) (h : ¬ p < z + Pw) : ¬ (p : Int) < (z : Int) + u := by omega

set_option maxRecDepth 20000 in
set_option maxHeartbeats 4000000 in
theorem l3from_any (a : Option Addr) (c : Nat) (T : List Int) (L : Nat) (s : Int) (p q : Nat) (w : World) (ha : Ins w a T) (hT : Gd T L) (hF : First T s p q) (hp : p < 64) :
    Calls Tryd.prog 47 #[.slice a 64 c, .int .i64 s, .int .i64 p] w fun e w' => e = .returned (.tuple #[.int .i64 (q : Nat), .int .i64 (cB T q : Nat)]) ∧ Below w.heap.size w w' := by
  have HA : Hid (Ins w a T) := ha
  have HT : Hid (Gd T L) := hT
  have HF : Hid (First T s p q) := hF
  have hq64 := hF.1
  clear ha hT hF
  go_enter Tryd.func47, Tryd.ntmps47
  go_wp2
  go_loopw [8] (fun i wr => ∃ k : Nat, k ≤ q ∧ i = .int .i64 k ∧ Below w.heap.size w wr) (fun i _ => 64 - (intOf i).toNat)
  case atStart => exact ⟨0, Nat.zero_le _, rfl, Below.refl _ _⟩
  case round =>
    obtain ⟨k, hk, rfl, hbel⟩ := hrel
    have HBL : Hid (Below w.heap.size w wr ∧ w.heap.size ≤ wr.heap.size) := ⟨hbel, hbel.size⟩
    obtain ⟨sy, b, z, e1, e2, e3, hsy, hb6, hz64⟩ := HT.out.cell k (by omega)
    obtain ⟨gT, oT, rfl, hgT, hcT⟩ := (HA.out.below hbel (Nat.le_refl _)).len_pos (k * 3) (by rw [HT.out.len]; omega)
    have t0 := hcT (k * 3) (by rw [HT.out.len]; omega)
    have t1 := hcT (k * 3 + 1) (by rw [HT.out.len]; omega)
    have t2 := hcT (k * 3 + 2) (by rw [HT.out.len]; omega)
    rw [e1] at t0
    rw [e2, ← Nat.add_assoc] at t1
    rw [e3, ← Nat.add_assoc] at t2
    have HCB : Hid (cB T k = b ∧ cZ T k = z ∧ T.getD (k * 3) 0 = (sy : Int)) := ⟨by unfold cB; rw [e2, Int.toNat_natCast], by unfold cZ; rw [e3, Int.toNat_natCast], e1⟩
    have hz63 : (z : Int) ≤ 64 := Int.ofNat_le.2 (Nat.le_trans (Nat.le_add_right z (2 ^ b)) hz64)
    have hk63 : (k : Int) < 64 := by omega
    obtain ⟨Pw, hPw, ew, ep1, hp0, hp1⟩ := powP b hb6
    rw [← hPw] at hz64
    have HEW : Hid (wrap64 (2 ^ b) = (Pw : Int) ∧ Pw = 2 ^ b) := ⟨ew, hPw⟩
    have HBA : Hid (Below w.heap.size w (wr.alloc (Obj.cells #[Value.int .i64 sy, Value.int .i64 b, Value.int .i64 z] 74)) ∧ True) := ⟨hbel.alloc HBL.out.2 _, trivial⟩
    clear hcT e1 e2 e3 ew ep1 hPw hz64 hbel
    by_cases hkq : k = q
    · subst hkq
      have hh := HF.out.2.1
      unfold hit at hh
      rw [HCB.out.1, HCB.out.2.1, HCB.out.2.2, ← HEW.out.2] at hh
      obtain ⟨g1, g2, g3⟩ := hh
      subst g1
      have h0 : ((sy : Int) == (sy : Int)) = true := by simp
      have h1i : (z : Int) ≤ (p : Int) := by omega
      have h2i : (p : Int) < (z : Int) + wrap64 (2 ^ b) := in_cell HEW.out.1 g3
      clear g2 g3
      go_wp2_with fail
      go_quiet (fail)
      go_wp2
      go_quiet (fail)
      go_wp2
      go_ret2
      refine ⟨?_, below_dP (below_dP HBA.out.1 _) _⟩
      rw [HCB.out.1]
      rfl
    · have hnh := HF.out.2.2 k (by omega)
      unfold hit at hnh
      rw [HCB.out.1, HCB.out.2.1, HCB.out.2.2, ← HEW.out.2] at hnh
      by_cases g1 : (sy : Int) = s
      · subst g1
        have h0 : ((sy : Int) == (sy : Int)) = true := by simp
        by_cases g2 : z ≤ p
        · have h1i : (z : Int) ≤ (p : Int) := by omega
          have h2i : ¬ (p : Int) < (z : Int) + wrap64 (2 ^ b) := out_cell HEW.out.1 (fun h => hnh ⟨rfl, g2, h⟩)
          have h2j : decide ((p : Int) < (z : Int) + wrap64 (2 ^ b)) = false := decide_eq_false h2i
          clear hnh g2
          go_wp2_with fail
          go_quiet (fail)
          go_wp2
          go_roundw
          case rel => exact ⟨k + 1, by omega, by go_num, below_dP HBA.out.1 _⟩
          case measure => simp [intOf]; omega
        · have h1j : decide (z ≤ p) = false := decide_eq_false (by omega)
          clear hnh g2
          go_wp2_with fail
          go_quiet (fail)
          go_wp2
          go_roundw
          case rel => exact ⟨k + 1, by omega, by go_num, below_dP HBA.out.1 _⟩
          case measure => simp [intOf]; omega
      · have h0 : ((sy : Int) == s) = false := by simpa using g1
        clear hnh g1
        go_wp2_with fail
        go_quiet (fail)
        go_wp2
        go_roundw
        case rel => exact ⟨k + 1, by omega, by go_num, below_dP HBA.out.1 _⟩
        case measure => simp [intOf]; omega

end Go.Proofs.YthdpboodalbjiaaDoor
namespace Go.Proofs.YthdpboodalbjiaaDoor
open Go.RowKit
set_option linter.unusedVariables false

set_option maxRecDepth 20000 in
set_option maxHeartbeats 4000000 in
/-- placeFor: the first cell that is hit, or the error. -/
theorem placeFor_any (g : Nat) (T : List Int) (L : Nat) (s : Int) (p : Nat) (w : World) (hg : w.heap[g]? = some (.cells (cel T) 79 (0, 0))) (hT : Gd T L) (hp : p < 64) (hS : Sent w 2) :
    Calls Tryd.prog 49 #[.pointer (some ⟨g, 0, none⟩), .int .i64 s, .int .i64 p] w fun e w' => Below w.heap.size w w' ∧
      ((∃ q, First T s p q ∧ e = .returned (.tuple #[.int .i64 (q : Nat), .nilIface])) ∨ ((∀ q, q < 64 → ¬ hit T s p q) ∧ ∃ T' y, e = .returned (.tuple #[.int .i64 0, .iface T' y]))) := by
  have HG : Hid (w.heap[g]? = some (.cells (cel T) 79 (0, 0)) ∧ g < w.heap.size) := ⟨hg, (Array.getElem?_eq_some_iff.1 hg).1⟩
  have HT : Hid (Gd T L) := hT
  obtain ⟨T', y, hc⟩ := hS
  have HC : Hid (w.cell? ⟨2, 0, none⟩ = some (.iface T' y) ∧ 2 < w.heap.size) := ⟨hc, World.block_lt_of_cell? _ _ hc⟩
  clear hg hT hc
  go_enter Tryd.func49, Tryd.ntmps49
  go_wp2
  go_loopw [12] (fun i wr => ∃ k : Nat, k ≤ 64 ∧ i = .int .i64 k ∧ Below w.heap.size w wr ∧ ∀ j, j < k → ¬ hit T s p j) (fun i _ => 64 - (intOf i).toNat)
  case atStart => exact ⟨0, Nat.zero_le _, rfl, Below.refl _ _, fun j hj => by omega⟩
  case round =>
    obtain ⟨k, hk, rfl, hbel, hno⟩ := hrel
    have HBL : Hid (Below w.heap.size w wr ∧ w.heap.size ≤ wr.heap.size ∧ ∀ j, j < k → ¬ hit T s p j) := ⟨hbel, hbel.size, hno⟩
    clear hno
    by_cases hlt : k < 64
    · obtain ⟨sy, b, z, e1, e2, e3, hsy, hb6, hz64⟩ := HT.out.cell k (by omega)
      have hTb : wr.heap[g]? = some (.cells (cel T) 79 (0, 0)) := (hbel.block g HG.out.2).trans HG.out.1
      have t0 := arr_cell (tb := T) hTb (k * 3) (by rw [HT.out.len]; omega)
      have t1 := arr_cell (tb := T) hTb (k * 3 + 1) (by rw [HT.out.len]; omega)
      have t2 := arr_cell (tb := T) hTb (k * 3 + 2) (by rw [HT.out.len]; omega)
      have lg : g < wr.heap.size := by have := HG.out.2; have := HBL.out.2.1; omega
      rw [e1] at t0
      rw [e2] at t1
      rw [e3] at t2
      have HCB : Hid (cB T k = b ∧ cZ T k = z ∧ T.getD (k * 3) 0 = (sy : Int)) := ⟨by unfold cB; rw [e2, Int.toNat_natCast], by unfold cZ; rw [e3, Int.toNat_natCast], e1⟩
      have hz63 : z ≤ 64 := Nat.le_trans (Nat.le_add_right z (2 ^ b)) hz64
      have HBA : Hid (Below w.heap.size w (wr.alloc (Obj.cells #[Value.int .i64 sy, Value.int .i64 b, Value.int .i64 z] 74)) ∧ True) := ⟨hbel.alloc HBL.out.2.1 _, trivial⟩
      clear hTb e1 e2 e3 hz64 hbel
      by_cases g1 : (sy : Int) = s
      · subst g1
        have h0 : ((sy : Int) == (sy : Int)) = true := by simp
        have HH := has_any (sy : Int) b z p (wr.alloc (Obj.cells #[Value.int .i64 sy, Value.int .i64 b, Value.int .i64 z] 74)).drew hb6 hz63 (by omega)
        cases hd : decide (z ≤ p ∧ p < z + 2 ^ b) with
        | true =>
          have HF : Hid (First T (sy : Int) p k) := ⟨hlt, by
            unfold hit
            rw [HCB.out.1, HCB.out.2.1, HCB.out.2.2]
            exact ⟨rfl, of_decide_eq_true hd⟩, HBL.out.2.2⟩
          rw [hd] at HH
          clear hd
          go_wp2_with fail
          go_region
          all_goals
            go_wp2_with fail
            refine HH.mono ?_
            clear HH
            rintro e w8 ⟨rfl, hb8⟩
            have HB8 : Hid (Below w.heap.size w w8 ∧ True) := ⟨HBA.out.1.drew.trans (hb8.mono HBA.out.1.size), trivial⟩
            clear hb8
            go_wp2
            go_ret2
            exact ⟨HB8.out.1, .inl ⟨k, HF.out, rfl⟩⟩
        | false =>
          have HN : Hid (∀ j, j < k + 1 → ¬ hit T (sy : Int) p j) := by
            intro j hj
            by_cases e : j = k
            · subst e
              unfold hit
              rw [HCB.out.1, HCB.out.2.1]
              exact fun h => absurd h.2 (of_decide_eq_false hd)
            · exact HBL.out.2.2 j (by omega)
          rw [hd] at HH
          clear hd
          go_wp2_with fail
          go_region
          all_goals
            go_wp2_with fail
            refine HH.mono ?_
            clear HH
            rintro e w8 ⟨rfl, hb8⟩
            have HB8 : Hid (Below w.heap.size w w8 ∧ True) := ⟨HBA.out.1.drew.trans (hb8.mono HBA.out.1.size), trivial⟩
            clear hb8
            go_wp2
            go_roundw
            case rel => exact ⟨k + 1, by omega, by go_num, HB8.out.1, HN.out⟩
            case measure => simp [intOf]; omega
      · have h0 : ((sy : Int) == s) = false := by simpa using g1
        have HN : Hid (∀ j, j < k + 1 → ¬ hit T s p j) := by
          intro j hj
          by_cases e : j = k
          · subst e
            unfold hit
            rw [HCB.out.2.2]
            exact fun h => g1 h.1
          · exact HBL.out.2.2 j (by omega)
        clear g1
        go_wp2_with fail
        go_region
        all_goals
          go_wp2
          go_roundw
          case rel => exact ⟨k + 1, by omega, by go_num, HBA.out.1.drew, HN.out⟩
          case measure => simp [intOf]; omega
    · have HKN : Hid (k = 64 ∧ True) := ⟨by omega, trivial⟩
      have hce := keep hbel HC.out.2 HC.out.1
      clear hbel
      go_wp2_with fail
      go_quiet (fail)
      go_wp2
      go_ret2
      exact ⟨below_dP HBL.out.1 _, .inr ⟨fun q hq => HBL.out.2.2 q (by have := HKN.out.1; omega), T', y, rfl⟩⟩
end Go.Proofs.YthdpboodalbjiaaDoor
namespace Go.Proofs.YthdpboodalbjiaaDoor
open Go.RowKit
set_option linter.unusedVariables false

/-- Each symbol of the text has a share. -/
def shd (ls ts : List Int) : Prop := ∀ k, k < ts.length → ls.getD (ts.getD k 0).toNat 0 ≠ 0
instance (ls ts : List Int) : Decidable (shd ls ts) := by unfold shd; infer_instance
/-- T is a table of shares ls: what is told of it here. -/
structure Tab (T ls : List Int) : Prop where
  gd : Gd T ls.length
  ex : ∀ s p : Nat, s < ls.length → p < 64 → ls.getD s 0 ≠ 0 → ∃ q, q < 64 ∧ hit T (s : Int) p q
  no : ∀ (s : Int) (p : Nat), (∀ k : Nat, s = k → ls.getD k 0 = 0) → ∀ q, q < 64 → ¬ hit T s p q
  le : ls.length ≤ 80
theorem tab_tb {ls : List Int} (hn : normB ls = true) : Tab (tb (pl (fl 0 ls) (plc 64)) ls 64) ls :=
  ⟨gd_tb hn, fun s p hs hp hc => ex_hit hn s p hs hp hc, fun s p hc => no_hit hn s p hc, (normB_bnd hn).2⟩

section
variable {T ls ts : List Int}
/-- What holds of place, bits and number behind k symbols, as long as each of these has a share. -/
theorem fpS_ok (hT : Tab T ls) (hts : ∀ k, k < ts.length → 0 ≤ ts.getD k 0 ∧ ts.getD k 0 < ls.length) : ∀ k, k ≤ ts.length → (∀ j, j < k → ls.getD (ts.getD (ts.length - 1 - j) 0).toNat 0 ≠ 0) → (fpS T ts k).1 < 64 ∧ (fpS T ts k).2.1 ≤ 6 * k ∧ (fpS T ts k).2.2 < 2 ^ (fpS T ts k).2.1 := by
  intro k
  induction k with
  | zero => intro _ _; simp [fpS]
  | succ k ih =>
    intro hk hs
    obtain ⟨h1, h2, h3⟩ := ih (by omega) (fun j hj => hs j (by omega))
    have hsy := hts (ts.length - 1 - k) (by omega)
    obtain ⟨s, hse⟩ := Int.eq_ofNat_of_zero_le hsy.1
    have hsh := hs k (by omega)
    rw [hse, Int.toNat_natCast] at hsh
    have hF := fq_first (hT.ex s (fpS T ts k).1 (by omega) h1 hsh)
    obtain ⟨_, b, z, _, e2, e3, _, hb6, hz64⟩ := hT.gd.cell (fq T (s : Int) (fpS T ts k).1) hF.1
    have hb : cB T (fq T (s : Int) (fpS T ts k).1) = b := by unfold cB; rw [e2, Int.toNat_natCast]
    have hz : cZ T (fq T (s : Int) (fpS T ts k).1) = z := by unfold cZ; rw [e3, Int.toNat_natCast]
    have hh := hF.2.1
    unfold hit at hh
    rw [hb, hz] at hh
    rw [fpS, hse]
    refine ⟨hF.1, ?_, ?_⟩
    · simp only [hb]; omega
    · simp only [hb, hz]
      exact put_lt _ _ b _ h3 (by omega)
theorem fpS_first (hT : Tab T ls) (hts : ∀ k, k < ts.length → 0 ≤ ts.getD k 0 ∧ ts.getD k 0 < ls.length) (k : Nat) (hk : k < ts.length) (hs : ∀ j, j < k + 1 → ls.getD (ts.getD (ts.length - 1 - j) 0).toNat 0 ≠ 0) : First T (ts.getD (ts.length - 1 - k) 0) (fpS T ts k).1 (fpS T ts (k + 1)).1 := by
  obtain ⟨h1, _, _⟩ := fpS_ok hT hts k (by omega) (fun j hj => hs j (by omega))
  have hsy := hts (ts.length - 1 - k) (by omega)
  obtain ⟨s, hse⟩ := Int.eq_ofNat_of_zero_le hsy.1
  have hsh := hs k (by omega)
  rw [hse, Int.toNat_natCast] at hsh
  rw [fpS, hse]
  exact fq_first (hT.ex s (fpS T ts k).1 (by omega) h1 hsh)
end
theorem First.unique {T : List Int} {s : Int} {p q r : Nat} (h1 : First T s p q) (h2 : First T s p r) : q = r := by
  rcases Nat.lt_trichotomy q r with h | h | h
  · exact absurd h1.2.1 (h2.2.2 q h)
  · exact h
  · exact absurd h2.2.1 (h1.2.2 r h)
theorem put_at (V0 V x n0 N : Nat) : V0 + V * 2 ^ n0 + x * 2 ^ (n0 + N) = V0 + (V + x * 2 ^ N) * 2 ^ n0 := by
  rw [Nat.add_mul, Nat.add_assoc, Nat.mul_assoc, ← Nat.pow_add, Nat.add_comm N n0]
/-- A text's whole bits: those of the last place behind. -/
def fN (T ts : List Int) : Nat := (fpS T ts ts.length).2.1 + 6
def fV (T ts : List Int) : Nat := (fpS T ts ts.length).2.2 + (fpS T ts ts.length).1 * 2 ^ (fpS T ts ts.length).2.1

theorem OwnV.neP {w : World} {B k R : Nat} {v : Value} {zs : List Int} {cur : Array Value} {T : TypeId} (h : OwnV w B v zs) (hk : v.ownBlock = some k) (hR : w.heap[R]? = some (.cells cur T (0, 0))) (hT : T ≠ 5) : k ≠ R := by
  rcases h.1.2 with ⟨rfl, h2⟩ | ⟨g, cap, cur', rfl, hg, hh, r⟩
  · simp [Value.ownBlock] at hk
  · simp [Value.ownBlock] at hk
    subst hk
    rintro rfl
    rw [hR] at hh
    simp at hh
    exact hT hh.2
theorem OwnV.stayP {w w' : World} {B : Nat} {v : Value} {zs : List Int} (h : OwnV w B v zs) (hb : Below w.heap.size w w') : OwnV w' B v zs := by
  rcases h.1.2 with ⟨h1, h2⟩ | ⟨g, cap, cur, rfl, hg, hh, r⟩
  · exact ⟨⟨h.1.1, .inl ⟨h1, h2⟩⟩, h.2⟩
  · exact ⟨⟨h.1.1, .inr ⟨g, cap, cur, rfl, hg, (hb.block g (Array.getElem?_eq_some_iff.1 hh).1).trans hh, r⟩⟩, h.2⟩
theorem WI.stay {w w' : World} {B R n V : Nat} (h : WI w B R n V) (hb : Below w.heap.size w w') : WI w' B R n V := by
  obtain ⟨v, h1, h2, h3, h4, h5⟩ := h
  exact ⟨v, (hb.block R (Array.getElem?_eq_some_iff.1 h1).1).trans h1, h2.stayP hb, h3, h4, Nat.le_trans h5 hb.size⟩
theorem SI.stay {w w' : World} {B R n V : Nat} (h : SI w B R n V) (hb : Below w.heap.size w w') : SI w' B R n V := by
  obtain ⟨v, h1, h2, h3, h4, h5⟩ := h
  exact ⟨v, (hb.block R (Array.getElem?_eq_some_iff.1 h1).1).trans h1, h2.stayP hb, h3, h4, Nat.le_trans h5 hb.size⟩
/-- A put leaves a block of another type as it was. -/
theorem WI.putG {w : World} {B R n V : Nat} (h : WI w B R n V) {g : Nat} {cur : Array Value} {T : TypeId} (hg : w.heap[g]? = some (.cells cur T (0, 0))) (hT : T ≠ 5) (hgR : g ≠ R) (x width : Nat) (h2 : width ≤ 30) (hxw : x < 2 ^ width) (h3 : n + width ≤ 4096) :
    Calls Tryd.prog 50 #[.pointer (some ⟨R, 0, none⟩), .int .i64 (x : Int), .int .i64 (width : Int)] w fun e w' => e = .returned .nilIface ∧ WI w' B R (n + width) (V + x * 2 ^ n) ∧ Below B w w' ∧ w'.heap[g]? = some (.cells cur T (0, 0)) := by
  obtain ⟨v, hR, hv, hV, hBR, hB⟩ := h
  have hxi : (x : Int) < 2 ^ ((width : Int)).toNat := by
    have e : ((2 : Int) ^ width) = ((2 ^ width : Nat) : Int) := by simp
    rw [Int.toNat_natCast, e]
    exact Int.ofNat_lt.2 hxw
  refine (wput_yes R B v n V x width 4096 w hR hv hV hB (by omega) (by omega) (by omega) hxi (by omega) (by omega) (by omega)).mono ?_
  rintro e w' ⟨rfl, v', hR', hv', ho, _⟩
  have hb : Below B w w' := ho.below hB (fun k hk => by
    rcases hk with hk | hk
    · omega
    · exact hv.blk hk)
  simp only [Int.toNat_natCast] at hR' hv'
  refine ⟨rfl, ⟨v', hR', hv', put_lt n V width x hV hxw, hBR, Nat.le_trans hB hb.size⟩, hb, ?_⟩
  refine (ho.block g (Array.getElem?_eq_some_iff.1 hg).1 ?_).trans hg
  rintro (hk | hk)
  · exact hgR hk
  · exact hv.neP hk hg hT rfl
end Go.Proofs.YthdpboodalbjiaaDoor
namespace Go.Proofs.YthdpboodalbjiaaDoor
open Go.RowKit
set_option linter.unusedVariables false

theorem lt_powP {pp z bb : Nat} (h : pp - z < 2 ^ bb) (hz : z ≤ pp) : (pp : Int) - (z : Int) < 2 ^ ((bb : Int)).toNat := by
  have e : ((2 : Int) ^ bb) = ((2 ^ bb : Nat) : Int) := by simp
  rw [Int.toNat_natCast, e]
  generalize 2 ^ bb = P at *
  omega
set_option maxHeartbeats 2000000 in
theorem l3has_any (a : Option Addr) (ca : Nat) (ls : List Int) (b : Option Addr) (cb : Nat) (ts : List Int) (w : World) (ha : Ins w a ls) (hb : Ins w b ts) (hl : ls.length ≤ 80) (htl : ts.length ≤ 300) (hts : ∀ k, k < ts.length → 0 ≤ ts.getD k 0 ∧ ts.getD k 0 < ls.length) :
    Calls Tryd.prog 26 #[.slice a ls.length ca, .slice b ts.length cb] w fun e w' => e = .returned (.bool (decide (shd ls ts))) ∧ w' = w := by
  have HP : Hid (Ins w a ls ∧ Ins w b ts ∧ ∀ k, k < ts.length → 0 ≤ ts.getD k 0 ∧ ts.getD k 0 < ls.length) := ⟨ha, hb, hts⟩
  clear ha hb hts
  generalize hD : decide (shd ls ts) = d
  have HD : Hid (decide (shd ls ts) = d ∧ True) := ⟨hD, trivial⟩
  clear hD
  go_enter Tryd.func26, Tryd.ntmps26
  go_wp2
  go_loop [5] (fun i => ∃ k : Nat, k ≤ ts.length ∧ i = .int .i64 k ∧ ∀ j, j < k → ls.getD (ts.getD j 0).toNat 0 ≠ 0) (fun i => ts.length - (intOf i).toNat)
  case atStart => exact ⟨0, Nat.zero_le _, rfl, fun j hj => by omega⟩
  case round =>
    obtain ⟨k, hk, rfl, hn⟩ := hrel
    have HN : Hid (∀ j, j < k → ls.getD (ts.getD j 0).toNat 0 ≠ 0) := hn
    clear hn
    by_cases hlt : k < ts.length
    · have hsr := HP.out.2.2 k hlt
      obtain ⟨b1, o1, rfl, hb1, hc1⟩ := HP.out.2.1.len_pos k hlt
      have hs0 := hc1 k hlt
      obtain ⟨s, hse⟩ := Int.eq_ofNat_of_zero_le hsr.1
      rw [hse] at hs0 hsr
      have hsl : s < ls.length := by omega
      obtain ⟨b2, o2, rfl, hb2, hc2⟩ := HP.out.1.len_pos s hsl
      have hl0 := hc2 s hsl
      have HS : Hid (ts.getD k 0 = (s : Int) ∧ True) := ⟨hse, trivial⟩
      clear hc1 hc2 hse
      by_cases h0 : ls.getD s 0 = 0
      · have HF : Hid (¬ shd ls ts) := fun h => h k hlt (by rw [HS.out.1, Int.toNat_natCast]; exact h0)
        rw [h0] at hl0
        clear h0
        go_wp2
        go_ret
        exact ⟨by rw [← HD.out.1, decide_eq_false HF.out]; rfl, rfl⟩
      · have HN2 : Hid (∀ j, j < k + 1 → ls.getD (ts.getD j 0).toNat 0 ≠ 0) := by
          intro j hj
          by_cases e : j = k
          · subst e; rw [HS.out.1, Int.toNat_natCast]; exact h0
          · exact HN.out j (by omega)
        have hne : (ls.getD s 0 == 0) = false := by simpa using h0
        generalize ls.getD s 0 = v at *
        clear h0
        go_wp2
        go_round
        case rel => exact ⟨k + 1, by omega, by go_num, HN2.out⟩
        case measure => simp [intOf]; omega
    · have HF : Hid (shd ls ts) := fun j hj => HN.out j (by omega)
      go_wp2
      go_ret
      exact ⟨by rw [← HD.out.1, decide_eq_true HF.out]; rfl, rfl⟩

end Go.Proofs.YthdpboodalbjiaaDoor
namespace Go.Proofs.YthdpboodalbjiaaDoor
open Go.RowKit
set_option linter.unusedVariables false

set_option maxRecDepth 20000 in
set_option maxHeartbeats 8000000 in
theorem l3put_any (a : Option Addr) (ca : Nat) (ls : List Int) (b : Option Addr) (cb : Nat) (ts T : List Int) (w : World) (ha : Ins w a ls) (hb : Ins w b ts) (hnb : normB ls = true) (hTe : tb (pl (fl 0 ls) (plc 64)) ls 64 = T) (htl : ts.length ≤ 300) (hts : ∀ k, k < ts.length → 0 ≤ ts.getD k 0 ∧ ts.getD k 0 < ls.length) (hsh : shd ls ts) :
    Calls Tryd.prog 27 #[.slice a ls.length ca, .slice b ts.length cb] w fun e w' => ∃ a' cp, e = .returned (.agg #[.slice a' (enc (fN T ts) (fV T ts)).length cp, .int .i64 (fN T ts : Nat)]) ∧ Mine w' w.heap.size w'.heap.size a' cp (enc (fN T ts) (fV T ts)) ∧ Below w.heap.size w w' := by
  have hw : Below w.heap.size w (w.alloc (Obj.cells #[Value.slice none 0 0, Value.int IntKind.i64 0] 25)) := (Below.refl _ _).alloc (Nat.le_refl _) _
  have HTB : Hid (Tab T ls) := by unfold Hid; rw [← hTe]; exact tab_tb hnb
  have HTR : Hid (∀ z ∈ T, -9223372036854775808 ≤ z ∧ z ≤ 9223372036854775807) := by
    intro z hz
    rw [← hTe] at hz
    have := tb_rng hnb 64 (Nat.le_refl _) z hz
    omega
  have HLT := l3table_any a ca ls _ (ha.below hw (Nat.le_refl _)) hnb
  rw [hTe] at HLT
  have HSZ : Hid (w.heap.size < (w.alloc (Obj.cells #[Value.slice none 0 0, Value.int IntKind.i64 0] 25)).heap.size) := by simp [Hid]
  have HR0 : Hid ((w.alloc (Obj.cells #[Value.slice none 0 0, Value.int IntKind.i64 0] 25)).cell? ⟨w.heap.size, 0, none⟩ = some (.slice none 0 0) ∧ (w.alloc (Obj.cells #[Value.slice none 0 0, Value.int IntKind.i64 0] 25)).cell? ⟨w.heap.size, 1, none⟩ = some (.int .i64 0) ∧ (w.alloc (Obj.cells #[Value.slice none 0 0, Value.int IntKind.i64 0] 25)).frozen? ⟨w.heap.size, 0, none⟩ = false ∧ (w.alloc (Obj.cells #[Value.slice none 0 0, Value.int IntKind.i64 0] 25)).frozen? ⟨w.heap.size, 1, none⟩ = false) := ⟨by simp, by simp, by simp, by simp⟩
  have HP : Hid (Ins w b ts ∧ (∀ k, k < ts.length → 0 ≤ ts.getD k 0 ∧ ts.getD k 0 < ls.length) ∧ shd ls ts ∧ Below w.heap.size w (w.alloc (Obj.cells #[Value.slice none 0 0, Value.int IntKind.i64 0] 25))) := ⟨hb, hts, hsh, hw⟩
  clear hb hts hsh hnb hTe ha hw
  go_enter Tryd.func27, Tryd.ntmps27
  go_wp2_with fail
  generalize w.alloc (Obj.cells #[Value.slice none 0 0, Value.int IntKind.i64 0] 25) = W at *
  refine HLT.mono ?_
  clear HLT
  rintro e w1 ⟨aT, cT, rfl, hcv, hb1⟩
  have hinr := hcv.inR HTR.out HTB.out.gd.len
  have HSI : Hid (SI (w1.alloc (Obj.cells #[Value.slice none 0 0, Value.int IntKind.i64 0] 25)) w1.heap.size w1.heap.size 0 0) := SI.new w1 w1.heap.size (Nat.le_refl _)
  have HB1 : Hid (Below w.heap.size w w1 ∧ w.heap.size < w1.heap.size ∧ Ins w1 aT T ∧ Below w1.heap.size w1 (w1.alloc (Obj.cells #[Value.slice none 0 0, Value.int IntKind.i64 0] 25))) := ⟨HP.out.2.2.2.trans (hb1.mono (Nat.le_of_lt HSZ.out)), by have := HSZ.out; have := hb1.size; omega, hinr.byt, (Below.refl _ _).alloc (Nat.le_refl _) _⟩
  have HR1 : Hid (w1.cell? ⟨w.heap.size, 0, none⟩ = some (.slice none 0 0) ∧ w1.cell? ⟨w.heap.size, 1, none⟩ = some (.int .i64 0) ∧ w1.frozen? ⟨w.heap.size, 0, none⟩ = false ∧ w1.frozen? ⟨w.heap.size, 1, none⟩ = false) := ⟨keep hb1 HSZ.out HR0.out.1, keep hb1 HSZ.out HR0.out.2.1, (hb1.frozen (p := ⟨w.heap.size, 0, none⟩) HSZ.out).trans HR0.out.2.2.1, (hb1.frozen (p := ⟨w.heap.size, 1, none⟩) HSZ.out).trans HR0.out.2.2.2⟩
  clear hcv hinr hb1 HR0 HSZ
  generalize hLn : ts.length = n at *
  have HLn : Hid (ts.length = n ∧ True) := ⟨hLn, trivial⟩
  clear hLn
  go_wp2
  generalize hB : w1.heap.size = B at *
  have HB : Hid (w1.heap.size = B ∧ True) := ⟨hB, trivial⟩
  clear hB
  go_loopw [6, 8] (fun s i wr => ∃ (k : Nat) (iz : Int), k ≤ n ∧ i = .int .i64 iz ∧ iz = (n : Int) - 1 - k ∧ s = .int .i64 ((fpS T ts k).1 : Nat) ∧ SI wr B B (fpS T ts k).2.1 (fpS T ts k).2.2 ∧ Below B w1 wr) (fun _ i _ => (intOf i + 1).toNat)
  case atStart => exact ⟨0, (n : Int) - 1, Nat.zero_le _, rfl, by simp, rfl, HSI.out, HB1.out.2.2.2⟩
  case round =>
    clear HSI
    obtain ⟨k, iz, hk, rfl, hiz, rfl, hsi, hbel⟩ := hrel
    obtain ⟨h1, h2, h3⟩ := fpS_ok HTB.out (by rw [HLn.out.1]; exact HP.out.2.1) k (by rw [HLn.out.1]; exact hk) (fun j hj => HP.out.2.2.1 _ (by rw [HLn.out.1]; omega))
    have HS : Hid (SI wr B B (fpS T ts k).2.1 (fpS T ts k).2.2 ∧ Below B w1 wr ∧ (fpS T ts k).2.1 ≤ 6 * k ∧ iz = (n : Int) - 1 - k) := ⟨hsi, hbel, h2, hiz⟩
    by_cases hlt : k < n
    · obtain ⟨j, hj⟩ : ∃ j : Nat, iz = j := ⟨iz.toNat, by omega⟩
      subst hj
      have hjn : j < n := by omega
      have hjk : n - 1 - k = j := by omega
      have HF := fpS_first HTB.out (by rw [HLn.out.1]; exact HP.out.2.1) k (by rw [HLn.out.1]; exact hlt) (fun j hj => HP.out.2.2.1 _ (by rw [HLn.out.1]; omega))
      have HST : Hid ((fpS T ts (k + 1)).2.1 = (fpS T ts k).2.1 + cB T (fpS T ts (k + 1)).1 ∧ (fpS T ts (k + 1)).2.2 = (fpS T ts k).2.2 + ((fpS T ts k).1 - cZ T (fpS T ts (k + 1)).1) * 2 ^ (fpS T ts k).2.1) := ⟨rfl, rfl⟩
      rw [HLn.out.1, hjk] at HF
      obtain ⟨b1, o1, rfl, hb1, hc1⟩ := (HP.out.1.below (HB1.out.1.trans (hbel.mono (Nat.le_of_lt HB1.out.2.1))) (Nat.le_refl _)).len_pos j (by rw [HLn.out.1]; exact hjn)
      have hs0 := hc1 j (by rw [HLn.out.1]; exact hjn)
      have hTw : Ins wr aT T := HB1.out.2.2.1.below hbel (by rw [HB.out.1]; exact Nat.le_refl _)
      have HLF := l3from_any aT cT T ls.length (ts.getD j 0) (fpS T ts k).1 (fpS T ts (k + 1)).1 wr hTw HTB.out.gd HF h1
      obtain ⟨sy, bb, z, e1, e2, e3, hsy, hb6, hz64⟩ := HTB.out.gd.cell (fpS T ts (k + 1)).1 HF.1
      have hcb : cB T (fpS T ts (k + 1)).1 = bb := by unfold cB; rw [e2, Int.toNat_natCast]
      have hcz : cZ T (fpS T ts (k + 1)).1 = z := by unfold cZ; rw [e3, Int.toNat_natCast]
      have hh := HF.2.1
      unfold hit at hh
      rw [hcb, hcz] at hh
      have HPX : Hid ((fpS T ts k).1 - z < 2 ^ bb) := by have := hh.2; unfold Hid; omega
      have hzp : z ≤ (fpS T ts k).1 := hh.2.1
      rw [hcb] at HLF
      rw [hcb, hcz] at HST
      have hq64 := HF.1
      obtain ⟨gT, oT, rfl, hgT, hcT⟩ := hTw.len_pos ((fpS T ts (k + 1)).1 * 3 + 2) (by rw [HTB.out.gd.len]; omega)
      have t2 := hcT ((fpS T ts (k + 1)).1 * 3 + 2) (by rw [HTB.out.gd.len]; omega)
      rw [e3, ← Nat.add_assoc] at t2
      have HT2 : Hid (wr.cell? ⟨gT, oT + (fpS T ts (k + 1)).1 * 3 + 2, none⟩ = some (.int .i64 z) ∧ gT < wr.heap.size) := ⟨t2, hgT⟩
      clear hc1 hcT hTw e1 e2 e3 hcb hcz hh HF hz64 hsi hbel hiz t2 h3 h2 hjk
      generalize hq : (fpS T ts (k + 1)).1 = q at *
      generalize hN1 : (fpS T ts (k + 1)).2.1 = N1 at *
      generalize hV1 : (fpS T ts (k + 1)).2.2 = V1 at *
      have HQ : Hid ((fpS T ts (k + 1)).1 = q ∧ (fpS T ts (k + 1)).2.1 = N1 ∧ (fpS T ts (k + 1)).2.2 = V1) := ⟨hq, hN1, hV1⟩
      clear hq hN1 hV1
      generalize (fpS T ts k).1 = pp at *
      generalize (fpS T ts k).2.1 = N0 at *
      generalize (fpS T ts k).2.2 = V0 at *
      generalize ts.getD j 0 = tj at *
      go_wp2_with fail
      refine HLF.mono ?_
      clear HLF
      rintro e w2 ⟨rfl, hb2⟩
      have t2 := keep hb2 HT2.out.2 HT2.out.1
      have hwb : B ≤ wr.heap.size := by obtain ⟨_, _, _, _, _, h⟩ := HS.out.1; exact h
      have HS2 : Hid (SI w2 B B N0 V0 ∧ Below B w1 w2) := ⟨HS.out.1.stay hb2, HS.out.2.1.trans (hb2.mono hwb)⟩
      have hxz : (0 : Int) ≤ (pp : Int) - (z : Int) := by omega
      have HPT := HS2.out.1.put ((pp : Int) - (z : Int)) (bb : Int) hxz (by omega) (by omega) (lt_powP HPX.out hzp) (by have := HS.out.2.2.1; omega)
      rw [Int.toNat_natCast, show ((pp : Int) - (z : Int)).toNat = pp - z from by omega, ← HST.out.1, ← HST.out.2] at HPT
      clear hb2 hs0
      go_wp2_with fail
      refine HPT.mono ?_
      clear HPT
      rintro e w3 ⟨rfl, hsi3, hb3⟩
      have HF3 : Hid (SI w3 B B N1 V1 ∧ Below B w1 w3) := ⟨hsi3, HS2.out.2.trans hb3⟩
      clear hsi3 hb3 t2
      go_wp2
      go_roundw
      case rel => exact ⟨k + 1, (j : Int) - 1, by omega, rfl, by have := HS.out.2.2.2; omega, by rw [HQ.out.1], by rw [HQ.out.2.1, HQ.out.2.2]; exact HF3.out.1, HF3.out.2⟩
      case measure => simp [intOf]
    · have hkn : k = n := by omega
      subst hkn
      have hiz1 : iz = -1 := by omega
      subst hiz1
      have HFN : Hid (fN T ts = (fpS T ts k).2.1 + 6 ∧ fV T ts = (fpS T ts k).2.2 + (fpS T ts k).1 * 2 ^ (fpS T ts k).2.1) := by unfold fN fV; rw [HLn.out.1]; exact ⟨rfl, rfl⟩
      have u0 := keep hbel HB1.out.2.1 HR1.out.1
      have hx64 : (((fpS T ts k).1 : Nat) : Int) < 2 ^ ((6 : Int)).toNat := by show _ < (64 : Int); omega
      have HPT := HS.out.1.put ((fpS T ts k).1 : Nat) 6 (by omega) (by omega) (by omega) hx64 (by have := HS.out.2.2.1; omega)
      rw [Int.toNat_natCast, show ((6 : Int)).toNat = 6 from rfl, ← HFN.out.1, ← HFN.out.2] at HPT
      clear hsi hbel hiz u0 h3 hx64
      generalize (fpS T ts k).1 = pp at *
      go_wp2_with fail
      refine HPT.mono ?_
      clear HPT
      rintro e w3 ⟨rfl, hsi3, hb3⟩
      have hbw := HS.out.2.1.trans hb3
      obtain ⟨a', cp, d0, d1, hmine⟩ := hsi3.cells
      have HM : Hid (Mine w3 B w3.heap.size a' cp (enc (fN T ts) (fV T ts)) ∧ Below w.heap.size w w3 ∧ w.heap.size < B) := ⟨hmine, HB1.out.1.trans (hbw.mono (Nat.le_of_lt HB1.out.2.1)), HB1.out.2.1⟩
      have u0 := keep hbw HB1.out.2.1 HR1.out.1
      have u1 := keep hbw HB1.out.2.1 HR1.out.2.1
      have v0 : w3.frozen? ⟨w.heap.size, 0, none⟩ = false := (hbw.frozen (p := ⟨w.heap.size, 0, none⟩) HB1.out.2.1).trans HR1.out.2.2.1
      have v1 : w3.frozen? ⟨w.heap.size, 1, none⟩ = false := (hbw.frozen (p := ⟨w.heap.size, 1, none⟩) HB1.out.2.1).trans HR1.out.2.2.2
      generalize hES : enc (fN T ts) (fV T ts) = es at *
      have HES : Hid (enc (fN T ts) (fV T ts) = es ∧ True) := ⟨hES, trivial⟩
      clear hsi3 hb3 hmine hbw hES
      go_wp2
      refine bodyPost_ret (v := .agg #[.slice a' es.length cp, .int .i64 (fN T ts : Nat)]) (by simp [results, Tryd.results27, go_sem, u0, u1]) rfl ⟨a', cp, by rw [HES.out.1], ?_, ((HM.out.2.1.setCell (by simp) _).setCell (by simp) _)⟩
      rw [HES.out.1]
      exact mine_out _ _ HM.out.1 HM.out.2.2 (Nat.le_refl _)
end Go.Proofs.YthdpboodalbjiaaDoor
namespace Go.Proofs.YthdpboodalbjiaaDoor
open Go.RowKit
set_option linter.unusedVariables false

theorem drew_block {w : World} {g : Nat} {o : Obj} (h : w.heap[g]? = some o) : w.drew.heap[g]? = some o := h
theorem WI.drewS {w : World} {B R n V : Nat} (h : WI w B R n V) : WI w.drew B R n V := h

set_option maxRecDepth 20000 in
set_option maxHeartbeats 8000000 in
/-- The writer has n0 bits already. -/
theorem putText_any (R B g n0 V0 : Nat) (b : Option Addr) (cb : Nat) (ls ts T : List Int) (w0 w : World) (hw : WI w B R n0 V0) (hg : w.heap[g]? = some (.cells (cel T) 79 (0, 0))) (hgR : g ≠ R) (hT : Tab T ls) (hb : Ins w0 b ts) (hB : w0.heap.size = B) (hbel : Below B w0 w) (htl : ts.length ≤ 300) (hn0 : n0 + (ts.length * 6 + 6) ≤ 4096) (hts : ∀ k, k < ts.length → 0 ≤ ts.getD k 0 ∧ ts.getD k 0 < ls.length) (hS : Sent w0 2) (hSG : 2 < B) :
    Calls Tryd.prog 31 #[.pointer (some ⟨R, 0, none⟩), .pointer (some ⟨g, 0, none⟩), .slice b ts.length cb] w fun e w' => Below B w0 w' ∧
      (shd ls ts → e = .returned .nilIface ∧ WI w' B R (n0 + fN T ts) (V0 + fV T ts * 2 ^ n0)) ∧ (¬ shd ls ts → ∃ T' y, e = .returned (.iface T' y)) := by
  have HP : Hid (Ins w0 b ts ∧ (∀ k, k < ts.length → 0 ≤ ts.getD k 0 ∧ ts.getD k 0 < ls.length) ∧ Tab T ls ∧ Sent w0 2 ∧ w0.heap.size = B) := ⟨hb, hts, hT, hS, hB⟩
  have HW : Hid (WI w B R (n0 + 0) (V0 + 0 * 2 ^ n0) ∧ w.heap[g]? = some (.cells (cel T) 79 (0, 0)) ∧ Below B w0 w) := ⟨by simpa using hw, hg, hbel⟩
  clear hw hg hT hb hB hbel hts hS
  generalize hLn : ts.length = n at *
  have HLn : Hid (ts.length = n ∧ True) := ⟨hLn, trivial⟩
  clear hLn
  go_enter Tryd.func31, Tryd.ntmps31
  go_wp2
  go_loopw [7, 8] (fun s i wr => ∃ (k : Nat) (iz : Int), k ≤ n ∧ i = .int .i64 iz ∧ iz = (n : Int) - 1 - k ∧ s = .int .i64 ((fpS T ts k).1 : Nat) ∧ WI wr B R (n0 + (fpS T ts k).2.1) (V0 + (fpS T ts k).2.2 * 2 ^ n0) ∧ wr.heap[g]? = some (.cells (cel T) 79 (0, 0)) ∧ Below B w0 wr ∧ ∀ j, j < k → ls.getD (ts.getD (n - 1 - j) 0).toNat 0 ≠ 0) (fun _ i _ => (intOf i + 1).toNat)
  case atStart => exact ⟨0, (n : Int) - 1, Nat.zero_le _, rfl, by simp, rfl, HW.out.1, HW.out.2.1, HW.out.2.2, fun j hj => by omega⟩
  case round =>
    clear HW
    obtain ⟨k, iz, hk, rfl, hiz, rfl, hwi, hgb, hbel, hcod⟩ := hrel
    have hcod' : ∀ j, j < k → ls.getD (ts.getD (ts.length - 1 - j) 0).toNat 0 ≠ 0 := by rw [HLn.out.1]; exact hcod
    obtain ⟨h1, h2, h3⟩ := fpS_ok HP.out.2.2.1 (by rw [HLn.out.1]; exact HP.out.2.1) k (by rw [HLn.out.1]; exact hk) hcod'
    have HS : Hid (WI wr B R (n0 + (fpS T ts k).2.1) (V0 + (fpS T ts k).2.2 * 2 ^ n0) ∧ wr.heap[g]? = some (.cells (cel T) 79 (0, 0)) ∧ Below B w0 wr ∧ (fpS T ts k).2.1 ≤ 6 * k ∧ iz = (n : Int) - 1 - k ∧ ∀ j, j < k → ls.getD (ts.getD (n - 1 - j) 0).toNat 0 ≠ 0) := ⟨hwi, hgb, hbel, h2, hiz, hcod⟩
    by_cases hlt : k < n
    · obtain ⟨j, hj⟩ : ∃ j : Nat, iz = j := ⟨iz.toNat, by omega⟩
      subst hj
      have hjn : j < n := by omega
      have hjk : n - 1 - k = j := by omega
      obtain ⟨b1, o1, rfl, hb1, hc1⟩ := (HP.out.1.below hbel (by rw [HP.out.2.2.2.2]; exact Nat.le_refl _)).len_pos j (by rw [HLn.out.1]; exact hjn)
      have hs0 := hc1 j (by rw [HLn.out.1]; exact hjn)
      have hsy := HP.out.2.1 j hjn
      have HPF := placeFor_any g T ls.length (ts.getD j 0) (fpS T ts k).1 wr hgb HP.out.2.2.1.gd h1 (HP.out.2.2.2.1.below hbel hSG)
      have HJK : Hid (n - 1 - k = j ∧ 0 ≤ ts.getD j 0 ∧ ts.getD j 0 < ls.length) := ⟨hjk, hsy⟩
      have hwb : B ≤ wr.heap.size := by obtain ⟨_, _, _, _, _, h⟩ := hwi; exact h
      clear hc1 hwi hgb hbel hcod hcod' hiz h2 h3 hjk hsy
      generalize htj : ts.getD j 0 = tj at *
      have HTJ : Hid (ts.getD j 0 = tj ∧ True) := ⟨htj, trivial⟩
      clear htj
      go_wp2_with fail
      refine HPF.mono ?_
      clear HPF hs0
      rintro e w2 ⟨hb2, ⟨q, hF, rfl⟩ | ⟨hno, T', y, rfl⟩⟩
      · have hshk : ls.getD tj.toNat 0 ≠ 0 := by
          intro h0
          exact HP.out.2.2.1.no tj (fpS T ts k).1 (fun k' hk' => by rw [hk', Int.toNat_natCast] at h0; exact h0) q hF.1 hF.2.1
        have HCO : Hid (∀ j, j < k + 1 → ls.getD (ts.getD (n - 1 - j) 0).toNat 0 ≠ 0) := by
          intro i hi
          by_cases e : i = k
          · rw [e, HJK.out.1, HTJ.out.1]; exact hshk
          · exact HS.out.2.2.2.2.2 i (by omega)
        have hF2 := fpS_first HP.out.2.2.1 (by rw [HLn.out.1]; exact HP.out.2.1) k (by rw [HLn.out.1]; exact hlt) (by rw [HLn.out.1]; exact HCO.out)
        rw [HLn.out.1, HJK.out.1, HTJ.out.1] at hF2
        have hqe := hF2.unique hF
        have hq64 := hF.1
        obtain ⟨sy, bb, z, e1, e2, e3, _, hb6, hz64⟩ := HP.out.2.2.1.gd.cell q hq64
        have hcb : cB T q = bb := by unfold cB; rw [e2, Int.toNat_natCast]
        have hcz : cZ T q = z := by unfold cZ; rw [e3, Int.toNat_natCast]
        have hh := hF.2.1
        unfold hit at hh
        rw [hcb, hcz] at hh
        have HPX : Hid ((fpS T ts k).1 - z < 2 ^ bb) := by have := hh.2; unfold Hid; omega
        have hzp : z ≤ (fpS T ts k).1 := hh.2.1
        have HST : Hid ((fpS T ts (k + 1)).1 = q ∧ (fpS T ts (k + 1)).2.1 = (fpS T ts k).2.1 + bb ∧ (fpS T ts (k + 1)).2.2 = (fpS T ts k).2.2 + ((fpS T ts k).1 - z) * 2 ^ (fpS T ts k).2.1) := by
          refine ⟨hqe, ?_, ?_⟩
          · rw [← hcb, ← hqe]; rfl
          · rw [← hcz, ← hqe]; rfl
        have hgb2 : w2.heap[g]? = some (.cells (cel T) 79 (0, 0)) := (hb2.block g (Array.getElem?_eq_some_iff.1 HS.out.2.1).1).trans HS.out.2.1
        have t1 := arr_cell (tb := T) hgb2 (q * 3 + 1) (by rw [HP.out.2.2.1.gd.len]; omega)
        have t2 := arr_cell (tb := T) hgb2 (q * 3 + 2) (by rw [HP.out.2.2.1.gd.len]; omega)
        rw [e2] at t1
        rw [e3] at t2
        have HC : Hid (w2.cell? ⟨g, q * 3 + 2, none⟩ = some (.int .i64 z) ∧ w2.cell? ⟨g, q * 3 + 1, none⟩ = some (.int .i64 bb)) := ⟨t2, t1⟩
        have HW2 : Hid (WI w2 B R (n0 + (fpS T ts k).2.1) (V0 + (fpS T ts k).2.2 * 2 ^ n0) ∧ w2.heap[g]? = some (.cells (cel T) 79 (0, 0)) ∧ Below B w0 w2) := ⟨HS.out.1.stay hb2, hgb2, HS.out.2.2.1.trans (hb2.mono hwb)⟩
        have HPU : Hid (∀ W : World, WI W B R (n0 + (fpS T ts k).2.1) (V0 + (fpS T ts k).2.2 * 2 ^ n0) → W.heap[g]? = some (.cells (cel T) 79 (0, 0)) → Calls Tryd.prog 50 #[.pointer (some ⟨R, 0, none⟩), .int .i64 (IntKind.i64.wrap (((fpS T ts k).1 : Int) - (z : Int))), .int .i64 (bb : Int)] W fun e w' => e = .returned .nilIface ∧ WI w' B R (n0 + (fpS T ts (k + 1)).2.1) (V0 + (fpS T ts (k + 1)).2.2 * 2 ^ n0) ∧ Below B W w' ∧ w'.heap[g]? = some (.cells (cel T) 79 (0, 0))) := by
          intro W hW hgW
          rw [IntWalk.i64_in _ (by omega)]
          have := hW.putG hgW (by decide) hgR ((fpS T ts k).1 - z) bb (by omega) HPX.out (by have := HS.out.2.2.2.1; omega)
          rw [show (((fpS T ts k).1 - z : Nat) : Int) = ((fpS T ts k).1 : Int) - (z : Int) from by omega, Nat.add_assoc, ← HST.out.2.1, put_at, ← HST.out.2.2] at this
          exact this
        clear hb2 hF hF2 hqe e1 e2 e3 hcb hcz hh hgb2 t1 t2 hz64 HPX hshk
        have hq0 : (q : Int) < 64 := by omega
        generalize hpp : (fpS T ts k).1 = pp at *
        clear hpp
        go_wp2_with fail
        have hq00 : (0 : Int) ≤ (q : Int) := by omega
        go_region_held3 (fun W => W.cell? ⟨g, q * 3 + 2, none⟩ = some (.int .i64 z) ∧ W.cell? ⟨g, q * 3 + 1, none⟩ = some (.int .i64 bb))
          (first | exact HC.out | exact HC8.out)
          (first
            | (go_at_call 50; refine (HPU.out _ (by exact HW2.out.1) (by exact HW2.out.2.1)).mono ?_; rintro e w8 ⟨rfl, hw8, hb8, hg8⟩; have HW8 : Hid (WI w8 B R (n0 + (fpS T ts (k + 1)).2.1) (V0 + (fpS T ts (k + 1)).2.2 * 2 ^ n0) ∧ w8.heap[g]? = some (.cells (cel T) 79 (0, 0)) ∧ Below B w0 w8) := ⟨hw8, hg8, HW2.out.2.2.trans (Below.drewS hb8)⟩; have HC8 : Hid (w8.cell? ⟨g, q * 3 + 2, none⟩ = some (.int .i64 z) ∧ w8.cell? ⟨g, q * 3 + 1, none⟩ = some (.int .i64 bb)) := ⟨(by rw [cell_of_row _ _ _ _ _ _ hg8, ← cell_of_row _ _ _ _ _ _ HW2.out.2.1]; exact HC.out.1), (by rw [cell_of_row _ _ _ _ _ _ hg8, ← cell_of_row _ _ _ _ _ _ HW2.out.2.1]; exact HC.out.2)⟩; clear hw8 hb8 hg8))
        all_goals
          clear HC HC8 HPU HW2
          go_wp2
          go_roundw
          case rel => exact ⟨k + 1, (j : Int) - 1, by omega, rfl, by have := HS.out.2.2.2.2.1; omega, by rw [HST.out.1], HW8.out.1, HW8.out.2.1, HW8.out.2.2, HCO.out⟩
          case measure => simp [intOf]
      · have HNS : Hid (¬ shd ls ts) := by
          intro h
          have hs := h j (by rw [HLn.out.1]; exact hjn)
          rw [HTJ.out.1] at hs
          obtain ⟨s, hse⟩ := Int.eq_ofNat_of_zero_le HJK.out.2.1
          rw [hse, Int.toNat_natCast] at hs
          obtain ⟨q, hq, hh⟩ := HP.out.2.2.1.ex s (fpS T ts k).1 (by have := HJK.out.2.2; omega) h1 hs
          rw [hse] at hno
          exact hno q hq hh
        have HB2 : Hid (Below B w0 w2 ∧ True) := ⟨HS.out.2.2.1.trans (hb2.mono hwb), trivial⟩
        clear hno hb2 HS
        go_wp2
        go_ret
        exact ⟨HB2.out.1, fun h => absurd h HNS.out, fun _ => ⟨T', y, rfl⟩⟩
    · have hkn : k = n := by omega
      subst hkn
      have hiz1 : iz = -1 := by omega
      subst hiz1
      have HSH : Hid (shd ls ts) := by
        intro i hi
        have := hcod (k - 1 - i) (by rw [HLn.out.1] at hi; omega)
        rw [show k - 1 - (k - 1 - i) = i from by rw [HLn.out.1] at hi; omega] at this
        exact this
      have HFN : Hid (fN T ts = (fpS T ts k).2.1 + 6 ∧ fV T ts = (fpS T ts k).2.2 + (fpS T ts k).1 * 2 ^ (fpS T ts k).2.1) := by unfold fN fV; rw [HLn.out.1]; exact ⟨rfl, rfl⟩
      have HPT := hwi.putG hgb (by decide) hgR (fpS T ts k).1 6 (by omega) (by omega) (by omega)
      rw [Nat.add_assoc, ← HFN.out.1, put_at, ← HFN.out.2] at HPT
      clear hwi hgb hcod hcod' hiz h3
      generalize (fpS T ts k).1 = pp at *
      go_wp2_with fail
      refine HPT.mono ?_
      clear HPT
      rintro e w3 ⟨rfl, hw3, hb3, _⟩
      have HF : Hid (WI w3 B R (n0 + fN T ts) (V0 + fV T ts * 2 ^ n0) ∧ Below B w0 w3) := ⟨hw3, hbel.trans hb3⟩
      clear hw3 hb3 hbel HS
      go_wp2
      go_ret
      exact ⟨HF.out.2, fun _ => ⟨rfl, HF.out.1⟩, fun h => absurd HSH.out h⟩
end Go.Proofs.YthdpboodalbjiaaDoor
namespace Go.Proofs.YthdpboodalbjiaaDoor
open Go.RowKit
set_option linter.unusedVariables false

/-- What a call keeps of the block of its answer. -/
structure Ans (w W : World) : Prop where
  r0 : W.cell? ⟨w.heap.size, 0, none⟩ = some (.slice none 0 0)
  r1 : W.cell? ⟨w.heap.size, 1, none⟩ = some (.int .i64 0)
  f0 : W.frozen? ⟨w.heap.size, 0, none⟩ = false
  f1 : W.frozen? ⟨w.heap.size, 1, none⟩ = false
  lt : w.heap.size < W.heap.size
  bel : Below w.heap.size w W
theorem Ans.new (w : World) : Ans w (w.alloc (Obj.cells #[Value.slice none 0 0, Value.int IntKind.i64 0] 25)) := ⟨by simp, by simp, by simp, by simp, by simp, (Below.refl _ _).alloc (Nat.le_refl _) _⟩
theorem Ans.step {w W W' : World} {B : Nat} (h : Ans w W) (hb : Below B W W') (hB : w.heap.size < B) : Ans w W' :=
  ⟨keep hb hB h.r0, keep hb hB h.r1, (hb.frozen (p := ⟨w.heap.size, 0, none⟩) hB).trans h.f0, (hb.frozen (p := ⟨w.heap.size, 1, none⟩) hB).trans h.f1, Nat.lt_of_lt_of_le h.lt hb.size, h.bel.trans (hb.mono (Nat.le_of_lt hB))⟩

/-- The sentinels of a writer by a table. -/
structure SentP (w : World) : Prop where
  s0 : Sent w 2
  hG : 2 < w.heap.size
theorem SentP.below {w w' : World} (h : SentP w) (hb : Below w.heap.size w w') : SentP w' := ⟨h.s0.below hb h.hG, Nat.lt_of_lt_of_le h.hG hb.size⟩

def fpArgs (ls ts : List Int) : Prop := normB ls = true ∧ txtB ts ls.length = true

set_option maxHeartbeats 4000000 in
theorem specFsePut_no (a : Option Addr) (ca : Nat) (ls : List Int) (b : Option Addr) (cb : Nat) (ts : List Int) (w : World) (ha : Ins w a ls) (hb : Ins w b ts) (hl1 : ls.length ≤ 281474976710656) (hl2 : ts.length ≤ 281474976710656) (hno : ¬ (fpArgs ls ts ∧ shd ls ts)) :
    Calls Tryd.prog 7 #[.slice a ls.length ca, .slice b ts.length cb] w fun e w' => e = .returned (.tuple #[.agg #[.slice none 0 0, .int .i64 0], .bool false]) ∧ Below w.heap.size w w' := by
  have hA := Ans.new w
  have HT := specNormOk_any a ca ls _ (ha.below hA.bel (Nat.le_refl _)) hl1
  have HX := specTxt_any b cb ts (ls.length : Int) _ (hb.below hA.bel (Nat.le_refl _)) hl2
  have HA : Hid (Ans w (w.alloc (Obj.cells #[Value.slice none 0 0, Value.int IntKind.i64 0] 25))) := hA
  cases h1 : normB ls with
  | false =>
    rw [h1] at HT
    clear h1 hno HX hA
    go_enter Tryd.func7, Tryd.ntmps7
    go_wp2_with fail
    refine HT.mono ?_
    clear HT
    rintro e w1 ⟨rfl, rfl⟩
    go_wp2
    exact bodyPost_ret (v := .tuple #[.agg #[.slice none 0 0, .int .i64 0], .bool false]) (by simp [results, Tryd.results7, go_sem]) rfl ⟨rfl, by repeat (first | exact HA.out.bel | refine Below.setCell ?_ (by simp) _)⟩
  | true =>
    cases h2 : txtB ts ls.length with
    | false =>
      rw [h1] at HT
      rw [h2] at HX
      clear h1 h2 hno hA
      go_enter Tryd.func7, Tryd.ntmps7
      go_wp2_with fail
      refine HT.mono ?_
      clear HT
      rintro e w1 ⟨rfl, rfl⟩
      go_wp2_with fail
      refine HX.mono ?_
      clear HX
      rintro e w2 ⟨rfl, rfl⟩
      go_wp2
      exact bodyPost_ret (v := .tuple #[.agg #[.slice none 0 0, .int .i64 0], .bool false]) (by simp [results, Tryd.results7, go_sem]) rfl ⟨rfl, by repeat (first | exact HA.out.bel | refine Below.setCell ?_ (by simp) _)⟩
    | true =>
      have hns : ¬ shd ls ts := fun h => hno ⟨⟨h1, h2⟩, h⟩
      have hbd := normB_bnd h1
      obtain ⟨-, -, ht3⟩ := txtB_bnd h2
      have HH := l3has_any a ca ls b cb ts _ (ha.below hA.bel (Nat.le_refl _)) (hb.below hA.bel (Nat.le_refl _)) hbd.2 ht3 (fun k hk => txtB_get h2 k hk)
      rw [decide_eq_false hns] at HH
      rw [h1] at HT
      rw [h2] at HX
      clear h1 h2 hno hns hA
      go_enter Tryd.func7, Tryd.ntmps7
      go_wp2_with fail
      refine HT.mono ?_
      clear HT
      rintro e w1 ⟨rfl, rfl⟩
      go_wp2_with fail
      refine HX.mono ?_
      clear HX
      rintro e w2 ⟨rfl, rfl⟩
      go_wp2_with fail
      refine HH.mono ?_
      clear HH
      rintro e w3 ⟨rfl, rfl⟩
      go_wp2
      exact bodyPost_ret (v := .tuple #[.agg #[.slice none 0 0, .int .i64 0], .bool false]) (by simp [results, Tryd.results7, go_sem]) rfl ⟨rfl, by repeat (first | exact HA.out.bel | refine Below.setCell ?_ (by simp) _)⟩

set_option maxHeartbeats 4000000 in
theorem specFsePut_ok (a : Option Addr) (ca : Nat) (ls : List Int) (b : Option Addr) (cb : Nat) (ts T : List Int) (w : World) (ha : Ins w a ls) (hb : Ins w b ts) (h1 : normB ls = true) (h2 : txtB ts ls.length = true) (hs : shd ls ts) (hTe : tb (pl (fl 0 ls) (plc 64)) ls 64 = T) :
    Calls Tryd.prog 7 #[.slice a ls.length ca, .slice b ts.length cb] w fun e w' => ∃ a' cp, e = .returned (.tuple #[.agg #[.slice a' (enc (fN T ts) (fV T ts)).length cp, .int .i64 (fN T ts : Nat)], .bool true]) ∧ Mine w' w.heap.size w'.heap.size a' cp (enc (fN T ts) (fV T ts)) ∧ Below w.heap.size w w' := by
  have hA := Ans.new w
  have hbd := normB_bnd h1
  obtain ⟨-, -, ht3⟩ := txtB_bnd h2
  have HT := specNormOk_any a ca ls _ (ha.below hA.bel (Nat.le_refl _)) (by omega)
  have HX := specTxt_any b cb ts (ls.length : Int) _ (hb.below hA.bel (Nat.le_refl _)) (by omega)
  have HH := l3has_any a ca ls b cb ts _ (ha.below hA.bel (Nat.le_refl _)) (hb.below hA.bel (Nat.le_refl _)) hbd.2 ht3 (fun k hk => txtB_get h2 k hk)
  have HP := l3put_any a ca ls b cb ts T _ (ha.below hA.bel (Nat.le_refl _)) (hb.below hA.bel (Nat.le_refl _)) h1 hTe ht3 (fun k hk => txtB_get h2 k hk) hs
  have HA : Hid (Ans w (w.alloc (Obj.cells #[Value.slice none 0 0, Value.int IntKind.i64 0] 25))) := hA
  rw [decide_eq_true hs] at HH
  rw [h1] at HT
  rw [h2] at HX
  generalize hES : enc (fN T ts) (fV T ts) = es at *
  clear h1 h2 hs hTe hA hES
  go_enter Tryd.func7, Tryd.ntmps7
  go_wp2_with fail
  refine HT.mono ?_
  clear HT
  rintro e w1 ⟨rfl, rfl⟩
  go_wp2_with fail
  refine HX.mono ?_
  clear HX
  rintro e w2 ⟨rfl, rfl⟩
  go_wp2_with fail
  refine HH.mono ?_
  clear HH
  rintro e w3 ⟨rfl, rfl⟩
  go_wp2_with fail
  generalize w.alloc (Obj.cells #[Value.slice none 0 0, Value.int IntKind.i64 0] 25) = W at *
  refine HP.mono ?_
  clear HP
  rintro e w4 ⟨a', cp, rfl, hm, hb4⟩
  have hA4 := HA.out.step hb4 HA.out.lt
  have HF : Hid (Mine w4 W.heap.size w4.heap.size a' cp es ∧ Ans w w4 ∧ w.heap.size < W.heap.size) := ⟨hm, hA4, HA.out.lt⟩
  obtain ⟨x0, x1, y0, y1, _, _⟩ := hA4
  have hz4 := HF.out.2.1.lt
  clear hm hb4 HA
  go_wp2
  have hM := mine_out (.slice a' es.length cp) (.int .i64 ((fN T ts : Nat) : Int)) HF.out.1 HF.out.2.2 (Nat.le_refl _)
  have hB := (HF.out.2.1.bel.setCell (p := ⟨w.heap.size, 0, none⟩) (by simp) (.slice a' es.length cp)).setCell (p := ⟨w.heap.size, 1, none⟩) (by simp) (.int .i64 ((fN T ts : Nat) : Int))
  refine bodyPost_ret (v := .tuple #[.agg #[.slice a' es.length cp, .int .i64 (fN T ts : Nat)], .bool true]) (by simp [results, Tryd.results7, go_sem, x0, x1, hz4]) rfl ⟨a', cp, rfl, ?_, ?_⟩
  · exact (hM.below ((Below.refl _ _).alloc (Nat.le_refl _) _)).mono (Nat.le_refl _) (by simp)
  · exact hB.alloc hB.size _

set_option maxHeartbeats 4000000 in
theorem implFsePut_no (a : Option Addr) (ca : Nat) (ls : List Int) (b : Option Addr) (cb : Nat) (ts : List Int) (w : World) (ha : Ins w a ls) (hb : Ins w b ts) (hl1 : ls.length ≤ 281474976710656) (hl2 : ts.length ≤ 281474976710656) (hno : ¬ fpArgs ls ts) :
    Calls Tryd.prog 9 #[.slice a ls.length ca, .slice b ts.length cb] w fun e w' => e = .returned (.tuple #[.agg #[.slice none 0 0, .int .i64 0], .bool false]) ∧ Below w.heap.size w w' := by
  have hA := Ans.new w
  have HT := implNormOk_any a ca ls _ (ha.below hA.bel (Nat.le_refl _)) hl1
  have HX := implTxt_any b cb ts (ls.length : Int) _ (hb.below hA.bel (Nat.le_refl _)) hl2
  have HA : Hid (Ans w (w.alloc (Obj.cells #[Value.slice none 0 0, Value.int IntKind.i64 0] 25))) := hA
  cases h1 : normB ls with
  | false =>
    rw [h1] at HT
    clear h1 hno HX hA
    go_enter Tryd.func9, Tryd.ntmps9
    go_wp2_with fail
    refine HT.mono ?_
    clear HT
    rintro e w1 ⟨rfl, rfl⟩
    go_wp2
    exact bodyPost_ret (v := .tuple #[.agg #[.slice none 0 0, .int .i64 0], .bool false]) (by simp [results, Tryd.results9, go_sem]) rfl ⟨rfl, by repeat (first | exact HA.out.bel | refine Below.setCell ?_ (by simp) _)⟩
  | true =>
    have h2 : txtB ts ls.length = false := by
      cases h : txtB ts ls.length with
      | false => rfl
      | true => exact absurd ⟨h1, h⟩ hno
    rw [h1] at HT
    rw [h2] at HX
    clear h1 h2 hno hA
    go_enter Tryd.func9, Tryd.ntmps9
    go_wp2_with fail
    refine HT.mono ?_
    clear HT
    rintro e w1 ⟨rfl, rfl⟩
    go_wp2_with fail
    refine HX.mono ?_
    clear HX
    rintro e w2 ⟨rfl, rfl⟩
    go_wp2
    exact bodyPost_ret (v := .tuple #[.agg #[.slice none 0 0, .int .i64 0], .bool false]) (by simp [results, Tryd.results9, go_sem]) rfl ⟨rfl, by repeat (first | exact HA.out.bel | refine Below.setCell ?_ (by simp) _)⟩

set_option maxRecDepth 20000 in
set_option maxHeartbeats 8000000 in
theorem implFsePut_ok (a : Option Addr) (ca : Nat) (ls : List Int) (b : Option Addr) (cb : Nat) (ts T : List Int) (w : World) (ha : Ins w a ls) (hb : Ins w b ts) (h1 : normB ls = true) (h2 : txtB ts ls.length = true) (hTe : tb (pl (fl 0 ls) (plc 64)) ls 64 = T) (hS : SentP w) :
    Calls Tryd.prog 9 #[.slice a ls.length ca, .slice b ts.length cb] w fun e w' => Below w.heap.size w w' ∧
      (shd ls ts → ∃ a' cp, e = .returned (.tuple #[.agg #[.slice a' (enc (fN T ts) (fV T ts)).length cp, .int .i64 (fN T ts : Nat)], .bool true]) ∧ Mine w' w.heap.size w'.heap.size a' cp (enc (fN T ts) (fV T ts))) ∧
      (¬ shd ls ts → e = .returned (.tuple #[.agg #[.slice none 0 0, .int .i64 0], .bool false])) := by
  have hA := Ans.new w
  have hbd := normB_bnd h1
  obtain ⟨-, -, ht3⟩ := txtB_bnd h2
  have HT := implNormOk_any a ca ls _ (ha.below hA.bel (Nat.le_refl _)) (by omega)
  have HX := implTxt_any b cb ts (ls.length : Int) _ (hb.below hA.bel (Nat.le_refl _)) (by omega)
  have HA : Hid (Ans w (w.alloc (Obj.cells #[Value.slice none 0 0, Value.int IntKind.i64 0] 25))) := hA
  have HTB : Hid (Tab T ls) := by unfold Hid; rw [← hTe]; exact tab_tb h1
  have HQ : Hid (normB ls = true ∧ (∀ k, k < ts.length → 0 ≤ ts.getD k 0 ∧ ts.getD k 0 < ls.length) ∧ tb (pl (fl 0 ls) (plc 64)) ls 64 = T ∧ Ins w a ls ∧ Ins w b ts ∧ SentP w) := ⟨h1, fun k hk => txtB_get h2 k hk, hTe, ha, hb, hS⟩
  rw [h1] at HT
  rw [h2] at HX
  clear h1 h2 hA hTe ha hb hS
  go_enter Tryd.func9, Tryd.ntmps9
  go_wp2_with fail
  refine HT.mono ?_
  clear HT
  rintro e w1 ⟨rfl, rfl⟩
  go_wp2_with fail
  refine HX.mono ?_
  clear HX
  rintro e w2 ⟨rfl, rfl⟩
  go_wp2_with fail
  generalize w.alloc (Obj.cells #[Value.slice none 0 0, Value.int IntKind.i64 0] 25) = W at *
  refine (newWriter_any none 0 [] 0 4096 W ⟨by simp, by simp⟩ (by simp)).mono ?_
  rintro e w3 ⟨R, g, rfl, hR, hown, hRge, hb3⟩
  have HW3 : Hid (WI w3 W.heap.size R 0 0 ∧ Below W.heap.size W w3 ∧ W.heap.size ≤ R) := ⟨WI.new hR hown hRge hb3.size, hb3, hRge⟩
  have HCO := cellsOf_any a ca ls w3 ((HQ.out.2.2.2.1.below HA.out.bel (Nat.le_refl _)).below hb3 (Nat.le_refl _)) HQ.out.1
  rw [HQ.out.2.2.1] at HCO
  have hRlt : R < w3.heap.size := (Array.getElem?_eq_some_iff.1 hR).1
  clear hR hown hRge hb3
  go_wp2_with fail
  refine HCO.mono ?_
  clear HCO
  rintro e w4 ⟨gt, rfl, hgt, hTg, hb4⟩
  have HPT := putText_any R W.heap.size gt 0 0 b cb ls ts T W w4 (HW3.out.1.stay hb4) hTg (by omega) HTB.out (HQ.out.2.2.2.2.1.below HA.out.bel (Nat.le_refl _)) rfl (HW3.out.2.1.trans (hb4.mono HW3.out.2.1.size)) ht3 (by omega) HQ.out.2.1 (HQ.out.2.2.2.2.2.below HA.out.bel).s0 (HQ.out.2.2.2.2.2.below HA.out.bel).hG
  rw [Nat.zero_add, Nat.zero_add, Nat.pow_zero, Nat.mul_one] at HPT
  clear hTg hb4 hgt hRlt
  go_wp2_with fail
  refine HPT.mono ?_
  clear HPT
  rintro e w5 ⟨hb5, hyes, hno⟩
  have hA5 := HA.out.step hb5 HA.out.lt
  by_cases hs : shd ls ts
  · obtain ⟨rfl, hwi⟩ := hyes hs
    obtain ⟨a', cp, d0, d1, hmine⟩ := hwi.cells
    generalize hES : enc (fN T ts) (fV T ts) = es at *
    have HF : Hid (Mine w5 W.heap.size w5.heap.size a' cp es ∧ Ans w w5 ∧ w.heap.size < W.heap.size ∧ shd ls ts ∧ enc (fN T ts) (fV T ts) = es) := ⟨hmine, hA5, HA.out.lt, hs, hES⟩
    obtain ⟨x0, x1, y0, y1, _, _⟩ := hA5
    clear hmine hb5 hyes hno hwi hs HA HW3 hES
    go_wp2
    refine bodyPost_ret (v := .tuple #[.agg #[.slice a' es.length cp, .int .i64 (fN T ts : Nat)], .bool true]) (by simp [results, Tryd.results9, go_sem, x0, x1]) rfl ⟨((HF.out.2.1.bel.setCell (by simp) _).setCell (by simp) _), fun _ => ⟨a', cp, by rw [HF.out.2.2.2.2], ?_⟩, fun h => absurd HF.out.2.2.2.1 h⟩
    rw [HF.out.2.2.2.2]
    exact mine_out _ _ HF.out.1 HF.out.2.2.1 (Nat.le_refl _)
  · obtain ⟨T', y, rfl⟩ := hno hs
    have HF : Hid (Ans w w5 ∧ ¬ shd ls ts) := ⟨hA5, hs⟩
    obtain ⟨x0, x1, y0, y1, _, _⟩ := hA5
    clear hb5 hyes hno hs HA HW3
    go_wp2
    exact bodyPost_ret (v := .tuple #[.agg #[.slice none 0 0, .int .i64 0], .bool false]) (by simp [results, Tryd.results9, go_sem, x0, x1]) rfl ⟨by repeat (first | exact HF.out.1.bel | refine Below.setCell ?_ (by simp) _), fun h => absurd h HF.out.2, fun _ => rfl⟩

theorem fN_le {T ls ts : List Int} (hT : Tab T ls) (hts : ∀ k, k < ts.length → 0 ≤ ts.getD k 0 ∧ ts.getD k 0 < ls.length) (hs : shd ls ts) (h3 : ts.length ≤ 300) : fN T ts ≤ 1806 := by
  have := (fpS_ok hT hts ts.length (Nat.le_refl _) (fun j hj => hs _ (by omega))).2.1
  unfold fN
  omega

theorem fsePut_both (ls ts : List Int) (hl1 : ls.length ≤ 1048576) (hl2 : ts.length ≤ 1048576) : ∃ (ys : List Int) (M : Int) (ok : Bool), ys.length ≤ 1048576 ∧
    (∀ (a : Option Addr) (ca : Nat) (b : Option Addr) (cb : Nat) (w : World), Ins w a ls → Ins w b ts → Calls Tryd.prog 7 #[.slice a ls.length ca, .slice b ts.length cb] w fun e w' =>
      ∃ a' cp, e = .returned (.tuple #[.agg #[.slice a' ys.length cp, .int .i64 M], .bool ok]) ∧ Mine w' w.heap.size w'.heap.size a' cp ys ∧ Below w.heap.size w w') ∧
    (∀ (a : Option Addr) (ca : Nat) (b : Option Addr) (cb : Nat) (w : World), Ins w a ls → Ins w b ts → SentP w → Calls Tryd.prog 9 #[.slice a ls.length ca, .slice b ts.length cb] w fun e w' =>
      ∃ a' cp, e = .returned (.tuple #[.agg #[.slice a' ys.length cp, .int .i64 M], .bool ok]) ∧ Mine w' w.heap.size w'.heap.size a' cp ys ∧ Below w.heap.size w w') := by
  by_cases h : fpArgs ls ts
  · obtain ⟨h1, h2⟩ := h
    obtain ⟨-, -, ht3⟩ := txtB_bnd h2
    by_cases hc : shd ls ts
    · refine ⟨enc (fN (tb (pl (fl 0 ls) (plc 64)) ls 64) ts) (fV (tb (pl (fl 0 ls) (plc 64)) ls 64) ts), (fN (tb (pl (fl 0 ls) (plc 64)) ls 64) ts : Nat), true, ?_, fun a ca b cb w ha hb => ?_, fun a ca b cb w ha hb hS => ?_⟩
      · have h3 := fN_le (tab_tb h1) (fun k hk => txtB_get h2 k hk) hc ht3
        rw [enc_len]
        omega
      · exact specFsePut_ok a ca ls b cb ts _ w ha hb h1 h2 hc rfl
      · refine (implFsePut_ok a ca ls b cb ts _ w ha hb h1 h2 rfl hS).mono ?_
        rintro e w' ⟨hb', hy, -⟩
        obtain ⟨a', cp, he, hm⟩ := hy hc
        exact ⟨a', cp, he, hm, hb'⟩
    · refine ⟨[], 0, false, by simp, fun a ca b cb w ha hb => ?_, fun a ca b cb w ha hb hS => ?_⟩
      · refine (specFsePut_no a ca ls b cb ts w ha hb (by omega) (by omega) (fun h => hc h.2)).mono ?_
        rintro e w' ⟨rfl, hb'⟩
        exact ⟨none, 0, rfl, .inl ⟨rfl, rfl, rfl⟩, hb'⟩
      · refine (implFsePut_ok a ca ls b cb ts _ w ha hb h1 h2 rfl hS).mono ?_
        rintro e w' ⟨hb', -, hy⟩
        exact ⟨none, 0, hy hc, .inl ⟨rfl, rfl, rfl⟩, hb'⟩
  · refine ⟨[], 0, false, by simp, fun a ca b cb w ha hb => ?_, fun a ca b cb w ha hb hS => ?_⟩
    · refine (specFsePut_no a ca ls b cb ts w ha hb (by omega) (by omega) (fun hh => h hh.1)).mono ?_
      rintro e w' ⟨rfl, hb'⟩
      exact ⟨none, 0, rfl, .inl ⟨rfl, rfl, rfl⟩, hb'⟩
    · refine (implFsePut_no a ca ls b cb ts w ha hb (by omega) (by omega) h).mono ?_
      rintro e w' ⟨rfl, hb'⟩
      exact ⟨none, 0, rfl, .inl ⟨rfl, rfl, rfl⟩, hb'⟩
end Go.Proofs.YthdpboodalbjiaaDoor
