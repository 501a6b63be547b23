/-
  Reading a text by a table of cells, as numbers.
-/
import Derived.Test.YtmhpgkfaihcmeaaTb2
namespace Go.Proofs.Ytmhpgkfaihcmeaa
open Go.RowKit
set_option linter.unusedVariables false

/-- What x a place's cell has. -/
def cX (SP zs : List Int) (p : Nat) : Nat := ((nx SP zs p).getD (SP.getD p 0).toNat 0).toNat
theorem tb_step (SP zs : List Int) (n p j : Nat) (hp : p < n) (hj : j < 3) : (tb SP zs (n + 1)).getD (p * 3 + j) 0 = (tb SP zs n).getD (p * 3 + j) 0 := by
  rw [tb, List.getD_eq_getElem?_getD, List.getElem?_append_left (by rw [tb_len]; omega), ← List.getD_eq_getElem?_getD]
theorem tb_new (SP zs : List Int) (n j : Nat) : (tb SP zs (n + 1)).getD (n * 3 + j) 0 = [SP.getD n 0, (wd (cX SP zs n) : Nat), (cX SP zs n * 2 ^ wd (cX SP zs n) : Nat) - 64].getD j 0 := by
  rw [tb, List.getD_eq_getElem?_getD, List.getElem?_append_right (by rw [tb_len]; omega), tb_len, Nat.add_sub_cancel_left, ← List.getD_eq_getElem?_getD]
  rfl
theorem tb_get (SP zs : List Int) (p j : Nat) (hj : j < 3) : ∀ n, p < n → (tb SP zs n).getD (p * 3 + j) 0 = [SP.getD p 0, (wd (cX SP zs p) : Nat), (cX SP zs p * 2 ^ wd (cX SP zs p) : Nat) - 64].getD j 0 := by
  intro n
  induction n with
  | zero => intro h; omega
  | succ n ih =>
    intro h
    by_cases he : p < n
    · rw [tb_step SP zs n p j he hj, ih he]
    · obtain rfl : p = n := by omega
      exact tb_new SP zs p j

/-- A table of 64 cells: each has a symbol, a width and a base, and leads to places alone. -/
structure Gd (T : List Int) (L : Nat) : Prop where
  len : T.length = 192
  cell : ∀ p, p < 64 → ∃ s b z : Nat, T.getD (p * 3) 0 = s ∧ T.getD (p * 3 + 1) 0 = b ∧ T.getD (p * 3 + 2) 0 = z ∧ s < L ∧ b ≤ 6 ∧ z + 2 ^ b ≤ 64

theorem wd_top {x : Nat} (h1 : 1 ≤ x) (h2 : x ≤ 127) : (x + 1) * 2 ^ wd x ≤ 128 := by
  unfold wd
  have hu := Nat.lt_log2_self (n := x)
  have h6 : Nat.log2 x < 7 := (Nat.log2_lt (by omega)).2 (by omega)
  have e2 : 2 ^ (Nat.log2 x + 1) * 2 ^ (6 - Nat.log2 x) = 128 := by rw [← Nat.pow_add, show Nat.log2 x + 1 + (6 - Nat.log2 x) = 7 from by omega]
  rw [← e2]
  exact Nat.mul_le_mul_right _ hu
theorem gd_tb {zs : List Int} (hn : normB zs = true) : Gd (tb (pl (fl 0 zs) (plc 64)) zs 64) zs.length := by
  refine ⟨tb_len _ _ _, fun p hp => ?_⟩
  obtain ⟨s, hs, hsl, hzp, hz64⟩ := sp_sym hn p hp
  have hbn := nx_bnd (pl (fl 0 zs) (plc 64)) zs p s
  have hX1 : 1 ≤ cX (pl (fl 0 zs) (plc 64)) zs p := by unfold cX; rw [hs, Int.toNat_natCast]; omega
  have hX2 : cX (pl (fl 0 zs) (plc 64)) zs p ≤ 127 := by unfold cX; rw [hs, Int.toNat_natCast]; omega
  have h0 := tb_get (pl (fl 0 zs) (plc 64)) zs p 0 (by omega) 64 hp
  have h1 := tb_get (pl (fl 0 zs) (plc 64)) zs p 1 (by omega) 64 hp
  have h2 := tb_get (pl (fl 0 zs) (plc 64)) zs p 2 (by omega) 64 hp
  have hw := wd_rng hX1 hX2
  have ht := wd_top hX1 hX2
  generalize cX (pl (fl 0 zs) (plc 64)) zs p = X at *
  rw [Nat.add_mul, Nat.one_mul] at ht
  exact ⟨s, wd X, X * 2 ^ wd X - 64, by rw [Nat.add_zero] at h0; rw [h0]; simpa using hs, by rw [h1]; rfl, by rw [h2]; show ((X * 2 ^ wd X : Nat) : Int) - 64 = _; omega, hsl, hw.1, by omega⟩

def cB (T : List Int) (p : Nat) : Nat := (T.getD (p * 3 + 1) 0).toNat
def cZ (T : List Int) (p : Nat) : Nat := (T.getD (p * 3 + 2) 0).toNat
/-- Place and end behind i symbols; none where bits are missing. -/
def sg (T : List Int) (v E : Nat) : Nat → Option (Nat × Nat)
  | 0 => some (v / 2 ^ E % 64, E)
  | i + 1 => match sg T v E i with
    | none => none
    | some (st, en) => if en < cB T st then none else some (cZ T st + v / 2 ^ (en - cB T st) % 2 ^ cB T st, en - cB T st)
def so (T : List Int) (v E : Nat) : Nat → List Int
  | 0 => []
  | i + 1 => so T v E i ++ [match sg T v E i with | some (st, _) => T.getD (st * 3) 0 | none => 0]
theorem so_len (T : List Int) (v E i : Nat) : (so T v E i).length = i := by
  induction i with
  | zero => rfl
  | succ i ih => rw [so, List.length_append, ih]; rfl
theorem sg_none {T : List Int} {v E k : Nat} (h : sg T v E k = none) : ∀ n, k ≤ n → sg T v E n = none := by
  intro n
  induction n with
  | zero => intro hk; obtain rfl : k = 0 := by omega
            exact h
  | succ n ih =>
    intro hk
    by_cases e : k = n + 1
    · subst e; exact h
    · rw [sg, ih (by omega)]
theorem sg_rng {T : List Int} {L : Nat} (hT : Gd T L) (v E : Nat) : ∀ i st en, sg T v E i = some (st, en) → st < 64 ∧ en ≤ E := by
  intro i
  induction i with
  | zero =>
    intro st en h
    simp only [sg, Option.some.injEq, Prod.mk.injEq] at h
    omega
  | succ i ih =>
    intro st en h
    rw [sg] at h
    cases hq : sg T v E i with
    | none => rw [hq] at h; simp at h
    | some q =>
      obtain ⟨s0, e0⟩ := q
      rw [hq] at h
      simp only at h
      obtain ⟨h1, h2⟩ := ih s0 e0 hq
      by_cases hl : e0 < cB T s0
      · rw [if_pos hl] at h; simp at h
      · rw [if_neg hl] at h
        simp only [Option.some.injEq, Prod.mk.injEq] at h
        obtain ⟨s, b, z, k1, k2, k3, k4, k5, k6⟩ := hT.cell s0 h1
        have hb : cB T s0 = b := by unfold cB; rw [k2, Int.toNat_natCast]
        have hz : cZ T s0 = z := by unfold cZ; rw [k3, Int.toNat_natCast]
        rw [hb, hz] at h
        have : v / 2 ^ (e0 - b) % 2 ^ b < 2 ^ b := Nat.mod_lt _ (Nat.pow_pos (by omega))
        omega
theorem sg_step {T : List Int} {v E i st en : Nat} (h : sg T v E i = some (st, en)) (hl : ¬ en < cB T st) : sg T v E (i + 1) = some (cZ T st + v / 2 ^ (en - cB T st) % 2 ^ cB T st, en - cB T st) := by
  rw [sg, h]
  simp only
  rw [if_neg hl]
theorem sg_stop {T : List Int} {v E i st en : Nat} (h : sg T v E i = some (st, en)) (hl : en < cB T st) : sg T v E (i + 1) = none := by
  rw [sg, h]
  simp only
  rw [if_pos hl]
theorem so_step {T : List Int} {v E i st en : Nat} (h : sg T v E i = some (st, en)) : so T v E (i + 1) = so T v E i ++ [T.getD (st * 3) 0] := by
  rw [so, h]
theorem so_rng {T : List Int} {L : Nat} (hT : Gd T L) (hL : L ≤ 80) (v E : Nat) : ∀ i, ∀ z ∈ so T v E i, 0 ≤ z ∧ z ≤ 80 := by
  intro i
  induction i with
  | zero => intro z hz; simp [so] at hz
  | succ i ih =>
    intro z hz
    rw [so] at hz
    simp only [List.mem_append, List.mem_cons, List.not_mem_nil, or_false] at hz
    rcases hz with hz | rfl
    · exact ih z hz
    · cases hq : sg T v E i with
      | none => simp
      | some q =>
        obtain ⟨s0, e0⟩ := q
        obtain ⟨s, b, z, k1, _, _, k4, _⟩ := hT.cell s0 (sg_rng hT v E i s0 e0 hq).1
        simp only
        rw [k1]
        omega
/-- Whether N bits are read as n symbols. -/
def fgB (T : List Int) (v N n : Nat) : Bool := decide (6 ≤ N ∧ sg T v (N - 6) n = some (0, 0))
end Go.Proofs.Ytmhpgkfaihcmeaa
