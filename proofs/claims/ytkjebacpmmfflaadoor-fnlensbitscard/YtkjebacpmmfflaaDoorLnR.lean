/-
  Lengths come back from their bits.
-/
import Derived.Test.YtkjebacpmmfflaaDoorLGetM
import Derived.Test.YtkjebacpmmfflaaDoorILensC
namespace Go.Proofs.YtkjebacpmmfflaaDoor
open Go.RowKit
set_option linter.unusedVariables false

theorem lp_lt {zs : List Int} (hr : ∀ i, i < zs.length → 0 ≤ zs.getD i 0 ∧ zs.getD i 0 ≤ 12) : ∀ f i, (lp zs f i 0 0).2 < 2 ^ (lp zs f i 0 0).1
  | 0, i => by simp [lp]
  | f + 1, i => by
    by_cases hi : i < zs.length
    · by_cases hz : zs.getD i 0 = 0
      · have h7 := (run_le zs i hi).1
        rw [lp_zero zs f i 0 0 hi hz, lp_shift]
        have ih := lp_lt hr f (i + 1 + run zs i)
        generalize (lp zs f (i + 1 + run zs i) 0 0).1 = a at *
        generalize (lp zs f (i + 1 + run zs i) 0 0).2 = b at *
        simp only [Nat.zero_add]
        rw [Nat.pow_add]
        have e7 : (2 : Nat) ^ 7 = 128 := by decide
        have e4 : (2 : Nat) ^ 4 = 16 := by decide
        rw [e7, e4]
        omega
      · have h12 := hr i hi
        rw [lp_pos zs f i 0 0 hi hz, lp_shift]
        have ih := lp_lt hr f (i + 1)
        generalize (lp zs f (i + 1) 0 0).1 = a at *
        generalize (lp zs f (i + 1) 0 0).2 = b at *
        simp only [Nat.zero_add]
        rw [Nat.pow_add]
        have e4 : (2 : Nat) ^ 4 = 16 := by decide
        rw [e4]
        simp only [Nat.pow_zero, Nat.mul_one]
        omega
    · rw [lp_end zs _ i 0 0 hi]; simp
theorem lp_four (zs : List Int) (f i : Nat) (hi : i < zs.length) : 4 ≤ (lp zs (f + 1) i 0 0).1 := by
  by_cases hz : zs.getD i 0 = 0
  · rw [lp_zero zs f i 0 0 hi hz, lp_shift]
    simp only
    omega
  · rw [lp_pos zs f i 0 0 hi hz, lp_shift]
    simp only
    omega
theorem take_run (zs : List Int) (i : Nat) (hi : i < zs.length) (hz : zs.getD i 0 = 0) : zs.take i ++ [0] ++ List.replicate (run zs i) 0 = zs.take (i + 1 + run zs i) := by
  have hle := (run_le zs i hi).2
  apply List.ext_getElem
  · simp only [List.length_append, List.length_take, List.length_replicate, List.length_singleton]
    omega
  · intro j h1 h2
    simp only [List.length_append, List.length_take, List.length_replicate, List.length_singleton] at h1
    rw [List.getElem_take]
    by_cases hj : j < i
    · rw [List.getElem_append_left (by simp; omega), List.getElem_append_left (by simp; omega), List.getElem_take]
    · by_cases hj2 : j = i
      · subst hj2
        rw [List.getElem_append_left (by simp; omega), List.getElem_append_right (by simp; omega)]
        have : zs[j] = zs.getD j 0 := by rw [List.getD_eq_getElem?_getD, List.getElem?_eq_getElem hi]; rfl
        rw [this, hz]
        simp
      · rw [List.getElem_append_right (by simp; omega)]
        have hr := (run_in zs i (j - i - 1) (by omega)).2.2
        rw [show i + (j - i - 1) + 1 = j by omega, List.getD_eq_getElem?_getD, List.getElem?_eq_getElem (by omega)] at hr
        simp only [Option.getD_some] at hr
        rw [hr]
        simp
theorem take_one (zs : List Int) (i : Nat) (hi : i < zs.length) : zs.take i ++ [zs.getD i 0] = zs.take (i + 1) := by
  rw [List.take_succ_eq_append_getElem hi, List.getD_eq_getElem?_getD, List.getElem?_eq_getElem hi]
  rfl
theorem gq_back {zs : List Int} (hr : ∀ i, i < zs.length → 0 ≤ zs.getD i 0 ∧ zs.getD i 0 ≤ 12) (n V : Nat) : ∀ f i q, zs.length ≤ f + i → i ≤ zs.length → n = q + (lp zs f i 0 0).1 → V / 2 ^ q = (lp zs f i 0 0).2 → gq n V zs.length f q (zs.take i) = some (zs, n)
  | 0, i, q, h1, h2, h3, h4 => by
    have hi : i = zs.length := by omega
    subst hi
    rw [gq_end (by rw [List.length_take]; omega), List.take_length]
    simp [lp] at h3
    rw [h3]
  | f + 1, i, q, h1, h2, h3, h4 => by
    by_cases hi : i < zs.length
    · have hlen : (zs.take i).length < zs.length := by rw [List.length_take]; omega
      by_cases hz : zs.getD i 0 = 0
      · have h7 := run_le zs i hi
        rw [lp_zero zs f i 0 0 hi hz, lp_shift] at h3 h4
        have hb := gq_back hr n V f (i + 1 + run zs i) (q + 7)
        generalize (lp zs f (i + 1 + run zs i) 0 0).1 = a at *
        generalize (lp zs f (i + 1 + run zs i) 0 0).2 = b at *
        simp only [Nat.zero_add] at h3 h4
        have e7 : (2 : Nat) ^ 7 = 128 := by decide
        have e4 : (2 : Nat) ^ 4 = 16 := by decide
        have e3 : (2 : Nat) ^ 3 = 8 := by decide
        rw [e7, e4] at h4
        have b4 : bt V q 4 = 0 := by
          unfold bt
          rw [h4, e4]
          omega
        have b3 : bt V (q + 4) 3 = run zs i := by
          unfold bt
          rw [Nat.pow_add, ← Nat.div_div_eq_div_mul, h4, e4, e3]
          omega
        rw [gq_zero hlen b4 (by omega), b3, take_run zs i hi hz]
        refine hb (by omega) (by omega) (by omega) ?_
        rw [Nat.pow_add, ← Nat.div_div_eq_div_mul, h4, e7]
        omega
      · have h12 := hr i hi
        rw [lp_pos zs f i 0 0 hi hz, lp_shift] at h3 h4
        have hb := gq_back hr n V f (i + 1) (q + 4)
        generalize (lp zs f (i + 1) 0 0).1 = a at *
        generalize (lp zs f (i + 1) 0 0).2 = b at *
        have e4 : (2 : Nat) ^ 4 = 16 := by decide
        simp only [Nat.zero_add, Nat.pow_zero, Nat.mul_one, e4] at h3 h4
        have b4 : bt V q 4 = (zs.getD i 0).toNat := by
          unfold bt
          rw [h4, e4]
          omega
        rw [gq_pos hlen (by omega) (by rw [b4]; omega), b4, Int.toNat_of_nonneg h12.1, take_one zs i hi]
        refine hb (by omega) (by omega) (by omega) ?_
        rw [Nat.pow_add, ← Nat.div_div_eq_div_mul, h4, e4]
        omega
    · have hil : i = zs.length := by omega
      subst hil
      rw [gq_end (by rw [List.length_take]; omega), List.take_length]
      rw [lp_end zs _ _ 0 0 hi] at h3
      simp at h3
      rw [h3]
/-- What is put is read again. -/
theorem lens_back {zs : List Int} (h : lensB zs = true) : gi (lpF zs).1 (lpF zs).2 zs.length zs.length 0 [] false = some (zs, (lpF zs).1) ∧ (lpF zs).2 < 2 ^ (lpF zs).1 ∧ (lpF zs).1 ≤ 560 ∧ 4 ≤ (lpF zs).1 := by
  simp only [lensB, decide_eq_true_eq] at h
  obtain ⟨h1, h2, h3, -⟩ := h
  have hr : ∀ i, i < zs.length → 0 ≤ zs.getD i 0 ∧ zs.getD i 0 ≤ 12 := fun i hi => h3 _ (getD_mem hi)
  have hlt : (lpF zs).2 < 2 ^ (lpF zs).1 := lp_lt hr zs.length 0
  have hle : (lpF zs).1 ≤ 0 + 7 * zs.length := lp_le zs zs.length 0 0 0
  have h4 : 4 ≤ (lpF zs).1 := by
    obtain ⟨m, hm⟩ : ∃ m, zs.length = m + 1 := ⟨zs.length - 1, by omega⟩
    have := lp_four zs m 0 (by omega)
    unfold lpF
    rw [hm]
    exact this
  refine ⟨(gi_iff _ _ _ _ _ _).2 ⟨?_, rfl, ?_⟩, hlt, by omega, h4⟩
  · have := gq_back hr (lpF zs).1 (lpF zs).2 zs.length 0 0 (by omega) (Nat.zero_le _) (by unfold lpF; omega) (by simp [lpF])
    rw [List.take_zero] at this
    exact this
  · rw [Nat.sub_zero]
    unfold bt
    rw [Nat.pow_zero, Nat.div_one, Nat.mod_eq_of_lt hlt]
theorem bt_bit (V p M i : Nat) (hi : i < M) : bt V p M / 2 ^ i % 2 = V / 2 ^ (p + i) % 2 := by
  have h : (bt V p M).testBit i = (V / 2 ^ p).testBit i := by unfold bt; rw [Nat.testBit_mod_two_pow, decide_eq_true hi, Bool.true_and]
  rw [Nat.testBit_eq_decide_div_mod_eq, Nat.testBit_eq_decide_div_mod_eq, Nat.div_div_eq_div_mul, ← Nat.pow_add] at h
  have h1 : bt V p M / 2 ^ i % 2 < 2 := Nat.mod_lt _ (by omega)
  have h2 : V / 2 ^ (p + i) % 2 < 2 := Nat.mod_lt _ (by omega)
  have h3 := decide_eq_decide.1 h
  omega
end Go.Proofs.YtkjebacpmmfflaaDoor
