/-
  The table of cells, as numbers.
-/
import Derived.Test.YtmhpgkfaihcmeaaDoorSpM
namespace Go.Proofs.YtmhpgkfaihcmeaaDoor
open Go.RowKit
set_option linter.unusedVariables false

theorem fl_mem (zs : List Int) : ∀ i, ∀ z ∈ fl i zs, ∃ j, j < zs.length ∧ z = ((i + j : Nat) : Int) ∧ 0 < zs.getD j 0 := by
  induction zs with
  | nil => intro i z hz; simp [fl] at hz
  | cons y zs ih =>
    intro i z hz
    simp only [fl, List.mem_append, List.mem_replicate] at hz
    rcases hz with ⟨h, rfl⟩ | hz
    · exact ⟨0, by simp, by simp, by simp; omega⟩
    · obtain ⟨j, h1, h2, h3⟩ := ih (i + 1) z hz
      exact ⟨j + 1, by simpa using h1, by rw [h2]; congr 1; omega, by simpa using h3⟩
theorem fl_len (zs : List Int) : ∀ i, (∀ z ∈ zs, 0 ≤ z) → ((fl i zs).length : Int) = zs.sum := by
  induction zs with
  | nil => intro i _; simp [fl]
  | cons y zs ih =>
    intro i h
    have h1 := h y (by simp)
    have h2 := ih (i + 1) (fun z hz => h z (by simp [hz]))
    simp only [fl, List.length_append, List.length_replicate, List.sum_cons]
    omega
/-- What place p holds when all have come: the symbol that came at the step 3 p. -/
theorem pl_get (F : List Int) : ∀ m, m ≤ 64 → ∀ p, p < 64 → (pl F (plc m)).getD p 0 = if 3 * p % 64 < m then F.getD (3 * p % 64) 0 else 0 := by
  intro m
  induction m with
  | zero =>
    intro _ p hp
    rw [if_neg (by omega)]
    show (List.replicate 64 (0 : Int)).getD p 0 = 0
    rw [List.getD_eq_getElem?_getD, List.getElem?_replicate, if_pos hp]
    rfl
  | succ m ih =>
    intro hm p hp
    rw [plc_succ, pl_snoc, plc_len]
    by_cases he : 43 * m % 64 = p
    · have h3 : 3 * p % 64 = m := by omega
      rw [List.getD_eq_getElem?_getD, he, List.getElem?_set_self (by rw [pl_len]; exact hp), h3, if_pos (by omega)]
      rfl
    · have h3 : 3 * p % 64 ≠ m := by omega
      rw [List.getD_eq_getElem?_getD, List.getElem?_set_ne he, ← List.getD_eq_getElem?_getD, ih (by omega) p hp]
      by_cases hl : 3 * p % 64 < m
      · rw [if_pos hl, if_pos (by omega)]
      · rw [if_neg hl, if_neg (by omega)]
theorem sp_sym {zs : List Int} (hn : normB zs = true) (p : Nat) (hp : p < 64) : ∃ s : Nat, (pl (fl 0 zs) (plc 64)).getD p 0 = (s : Int) ∧ s < zs.length ∧ 0 < zs.getD s 0 ∧ zs.getD s 0 ≤ 64 := by
  have hnn : (∀ z ∈ zs, 0 ≤ z) ∧ zs.sum = 64 := by
    have h := hn
    simp only [normB, decide_eq_true_eq] at h
    exact ⟨fun z hz => (h.2.2.1 z hz).1, h.2.2.2⟩
  have hl := fl_len zs 0 hnn.1
  rw [hnn.2] at hl
  rw [pl_get _ 64 (Nat.le_refl _) p hp, if_pos (by omega), List.getD_eq_getElem?_getD, List.getElem?_eq_getElem (by omega)]
  obtain ⟨j, h1, h2, h3⟩ := fl_mem zs 0 _ (List.getElem_mem (show 3 * p % 64 < (fl 0 zs).length by omega))
  refine ⟨j, by simpa using h2, h1, h3, (normB_get hn j h1).2⟩

/-- What comes next of each symbol, when i places are told. -/
def nx (SP zs : List Int) : Nat → List Int
  | 0 => zs
  | i + 1 => (nx SP zs i).set (SP.getD i 0).toNat ((nx SP zs i).getD (SP.getD i 0).toNat 0 + 1)
theorem nx_len (SP zs : List Int) (i : Nat) : (nx SP zs i).length = zs.length := by
  induction i with
  | zero => rfl
  | succ i ih => rw [nx, List.length_set, ih]
theorem nx_bnd (SP zs : List Int) (i j : Nat) : zs.getD j 0 ≤ (nx SP zs i).getD j 0 ∧ (nx SP zs i).getD j 0 ≤ zs.getD j 0 + i := by
  induction i with
  | zero => simp [nx]
  | succ i ih =>
    rw [nx]
    by_cases hj : (SP.getD i 0).toNat = j
    · rw [hj]
      by_cases hl : j < (nx SP zs i).length
      · rw [List.getD_eq_getElem?_getD (l := (nx SP zs i).set _ _), List.getElem?_set_self hl]
        simp only [Option.getD_some]
        omega
      · rw [List.set_eq_of_length_le (by omega)]
        omega
    · rw [List.getD_eq_getElem?_getD (l := (nx SP zs i).set _ _), List.getElem?_set_ne hj, ← List.getD_eq_getElem?_getD]
      omega

/-- How many bits follow: the least number that brings x to 64. -/
def wd (x : Nat) : Nat := 6 - Nat.log2 x
theorem wd_rng {x : Nat} (h1 : 1 ≤ x) (h2 : x ≤ 127) : wd x ≤ 6 ∧ 64 ≤ x * 2 ^ wd x ∧ x * 2 ^ wd x < 128 := by
  unfold wd
  have hl := Nat.log2_self_le (n := x) (by omega)
  have hu := Nat.lt_log2_self (n := x)
  have h6 : Nat.log2 x < 7 := (Nat.log2_lt (by omega)).2 (by omega)
  have e : 2 ^ Nat.log2 x * 2 ^ (6 - Nat.log2 x) = 64 := by rw [← Nat.pow_add, show Nat.log2 x + (6 - Nat.log2 x) = 6 from by omega]
  have e2 : 2 ^ (Nat.log2 x + 1) * 2 ^ (6 - Nat.log2 x) = 128 := by rw [← Nat.pow_add, show Nat.log2 x + 1 + (6 - Nat.log2 x) = 7 from by omega]
  have hp : 0 < 2 ^ (6 - Nat.log2 x) := Nat.pow_pos (by omega)
  refine ⟨by omega, ?_, ?_⟩
  · rw [← e]; exact Nat.mul_le_mul_right _ hl
  · rw [← e2]; exact Nat.mul_lt_mul_of_pos_right hu hp
theorem wd_least {x b : Nat} (h1 : 1 ≤ x) (h2 : x ≤ 127) (hb : b < wd x) : x * 2 ^ b < 64 := by
  unfold wd at hb
  have hu := Nat.lt_log2_self (n := x)
  have e2 : 2 ^ (Nat.log2 x + 1) * 2 ^ b ≤ 64 := by
    rw [← Nat.pow_add]
    exact Nat.le_trans (Nat.pow_le_pow_right (by omega) (show Nat.log2 x + 1 + b ≤ 6 by omega)) (by decide)
  exact Nat.lt_of_lt_of_le (Nat.mul_lt_mul_of_pos_right hu (Nat.pow_pos (by omega))) e2

/-- The cells of the first i places, flat. -/
def tb (SP zs : List Int) : Nat → List Int
  | 0 => []
  | i + 1 => tb SP zs i ++ [SP.getD i 0, (wd ((nx SP zs i).getD (SP.getD i 0).toNat 0).toNat : Nat), (((nx SP zs i).getD (SP.getD i 0).toNat 0).toNat * 2 ^ wd ((nx SP zs i).getD (SP.getD i 0).toNat 0).toNat : Nat) - 64]
theorem tb_len (SP zs : List Int) (i : Nat) : (tb SP zs i).length = i * 3 := by
  induction i with
  | zero => rfl
  | succ i ih => rw [tb, List.length_append, ih]; simp; omega
theorem shl_in (X j : Nat) (hX : X ≤ 127) (hj : j ≤ 6) : wrap64 ((X : Int) * 2 ^ j) = ((X * 2 ^ j : Nat) : Int) := by
  have h1 : X * 2 ^ j ≤ 127 * 2 ^ 6 := Nat.mul_le_mul hX (Nat.pow_le_pow_right (by omega) hj)
  have e : ((X : Int) * 2 ^ j) = ((X * 2 ^ j : Nat) : Int) := by simp
  rw [e]
  exact IntWalk.wrap64_in _ (by omega)

theorem tb_rng {zs : List Int} (hn : normB zs = true) : ∀ k, k ≤ 64 → ∀ z ∈ tb (pl (fl 0 zs) (plc 64)) zs k, -64 ≤ z ∧ z ≤ 127 := by
  intro k
  induction k with
  | zero => intro _ z hz; simp [tb] at hz
  | succ k ih =>
    intro hk z hz
    obtain ⟨s, hs, hsl, hzp, hz64⟩ := sp_sym hn k (by omega)
    have hbd := normB_bnd hn
    have hbn := nx_bnd (pl (fl 0 zs) (plc 64)) zs k s
    rw [tb, hs, Int.toNat_natCast] at hz
    simp only [List.mem_append, List.mem_cons, List.not_mem_nil, or_false] at hz
    obtain ⟨X, hX⟩ := Int.eq_ofNat_of_zero_le (show 0 ≤ (nx (pl (fl 0 zs) (plc 64)) zs k).getD s 0 by omega)
    rw [hX, Int.toNat_natCast] at hz
    have hw := wd_rng (x := X) (by omega) (by omega)
    rcases hz with hz | rfl | rfl | rfl
    · exact ih (by omega) z hz
    · omega
    · omega
    · omega

end Go.Proofs.YtmhpgkfaihcmeaaDoor
