/-
  Texts by codes: what is put is read, and takes what it costs.
-/
import Derived.Test.YtkjebacpmmfflaaDoorRev2
import Derived.Test.YtkjebacpmmfflaaDoorHPut3
import Derived.Test.YtkjebacpmmfflaaDoorICostI
namespace Go.Proofs.YtkjebacpmmfflaaDoor
open Go.RowKit
set_option linter.unusedVariables false

theorem rvp_bit (c L : Nat) : ∀ j i, i < j → rvp c L j / 2 ^ i % 2 = c / 2 ^ (L - 1 - i) % 2
  | 0, i, h => by omega
  | j + 1, i, h => by
    have hlt := rvp_lt c L j
    simp only [rvp]
    by_cases e : i = j
    · subst e
      rw [Nat.add_mul_div_right _ _ (Nat.two_pow_pos i), Nat.div_eq_of_lt hlt]
      omega
    · rw [← bit_mod _ j i (by omega), Nat.add_mul_mod_self_right, Nat.mod_eq_of_lt hlt]
      exact rvp_bit c L j i (by omega)
theorem sumF_sum (f g : Int → Int) (zs : List Int) : sumF (fun z => f z + g z) zs = sumF f zs + sumF g zs := by
  unfold sumF
  induction zs with
  | nil => rfl
  | cons z zs ih => simp only [List.map_cons, List.sum_cons, ih]; omega
theorem sumF_same {f g : Int → Int} {zs : List Int} (h : ∀ z ∈ zs, f z = g z) : sumF f zs = sumF g zs := by
  unfold sumF
  rw [List.map_congr_left h]
def shr (l : Nat) (z : Int) : Int := if 0 < z ∧ z ≤ (l : Int) then share z else 0
theorem atL_sum (zs : List Int) (L : Nat) (c : Int) : ∀ n, n ≤ zs.length → sumF (fun z => if z = (L : Int) then c else 0) (zs.take n) = ((atL zs L n).length : Int) * c
  | 0, _ => by simp [sumF, atL_zero]
  | n + 1, h => by
    rw [sumF_succ _ _ _ (by omega), atL_sum zs L c n (by omega)]
    by_cases e : zs.getD n 0 = (L : Int)
    · rw [atL_yes zs L n e, if_pos e, List.length_append, Int.natCast_add, Int.add_mul]
      simp
    · rw [atL_no zs L n e, if_neg e]
      simp
theorem shr_succ (l : Nat) (h : l < 12) (z : Int) : shr (l + 1) z = shr l z + if z = ((l + 1 : Nat) : Int) then ((2 ^ (12 - (l + 1)) : Nat) : Int) else 0 := by
  unfold shr
  by_cases e : z = ((l + 1 : Nat) : Int)
  · have h1 : 0 < z ∧ z ≤ ((l + 1 : Nat) : Int) := by omega
    have h2 : ¬ (0 < z ∧ z ≤ (l : Int)) := by omega
    rw [if_pos h1, if_neg h2, if_pos e]
    unfold share
    rw [if_pos h1.1, show ((12 : Int) - z).toNat = 12 - (l + 1) by omega]
    simp
  · rw [if_neg e]
    by_cases h2 : 0 < z ∧ z ≤ (l : Int)
    · have h1 : 0 < z ∧ z ≤ ((l + 1 : Nat) : Int) := by omega
      rw [if_pos h2, if_pos h1]; simp
    · have h1 : ¬ (0 < z ∧ z ≤ ((l + 1 : Nat) : Int)) := by omega
      rw [if_neg h2, if_neg h1]; simp
theorem sumF_nought (zs : List Int) : sumF (fun _ => 0) zs = 0 := by
  unfold sumF
  induction zs with
  | nil => rfl
  | cons z zs ih => rw [List.map_cons, List.sum_cons, ih]; rfl
theorem cv_share (zs : List Int) : ∀ l, l ≤ 12 → ((cv zs (sbL zs l) l * 2 ^ (12 - l) : Nat) : Int) = sumF (shr l) zs
  | 0, _ => by
    have e0 : cv zs (sbL zs 0) 0 = 0 := cv_nil zs
    rw [e0]
    have : sumF (shr 0) zs = sumF (fun _ => 0) zs := sumF_same fun z _ => by unfold shr; rw [if_neg (by omega)]
    rw [this, sumF_nought]
    simp
  | l + 1, h => by
    have ih := cv_share zs l (by omega)
    rw [sumF_same (g := fun z => shr l z + if z = ((l + 1 : Nat) : Int) then ((2 ^ (12 - (l + 1)) : Nat) : Int) else 0) (fun z _ => shr_succ l (by omega) z), sumF_sum, ← ih]
    have ha := atL_sum zs (l + 1) ((2 ^ (12 - (l + 1)) : Nat) : Int) zs.length (Nat.le_refl _)
    rw [List.take_length] at ha
    rw [ha, cv_full, fcd_succ, show 12 - l = (12 - (l + 1)) + 1 by omega, Nat.pow_succ, ← Int.natCast_mul, ← Int.natCast_add]
    congr 1
    generalize 2 ^ (12 - (l + 1)) = z
    rw [Nat.add_mul, Nat.mul_comm z 2, ← Nat.mul_assoc, Nat.mul_comm _ 2]
theorem cv_le {zs : List Int} (h : lensB zs = true) (M : Nat) (hM : M ≤ 12) : cv zs (sbL zs M) M ≤ 2 ^ M := by
  simp only [lensB, decide_eq_true_eq] at h
  obtain ⟨_, _, hr, hs⟩ := h
  have h12 := cv_share zs 12 (by omega)
  have e : sumF (shr 12) zs = sumF share zs := sumF_same fun z hz => by
    have := hr z hz
    unfold shr share
    by_cases hp : 0 < z
    · rw [if_pos (by omega)]
    · rw [if_neg (by omega), if_neg hp]
  rw [e] at h12
  have g := cv_grows zs M (12 - M)
  rw [show M + (12 - M) = 12 by omega] at g
  simp only [Nat.sub_self, Nat.pow_zero, Nat.mul_one] at h12
  have h4 : cv zs (sbL zs 12) 12 ≤ 4096 := by omega
  have e2 : 2 ^ (12 - M) * 2 ^ M = 4096 := by rw [← Nat.pow_add, show 12 - M + M = 12 by omega]
  exact Nat.le_of_mul_le_mul_left (by rw [e2]; omega) (Nat.two_pow_pos (12 - M))
theorem csv_lt {zs : List Int} (h : lensB zs = true) {M s : Nat} (h1 : 1 ≤ M) (h2 : M ≤ 12) (hs : s < zs.length) (hz : zs.getD s 0 = (M : Int)) : ∃ c : Nat, (csv zs).getD s 0 = (c : Int) ∧ c < 2 ^ M := by
  refine ⟨_, csv_at h1 h2 hs hz, ?_⟩
  have h3 := atL_less zs M s zs.length hs hz
  have h4 := cv_le h M h2
  obtain ⟨l, rfl⟩ : ∃ l, M = l + 1 := ⟨M - 1, by omega⟩
  rw [cv_full] at h4
  omega
theorem cd_bits {v p c L : Nat} (hc : c < 2 ^ L) (h : ∀ i, i < L → v / 2 ^ (p + i) % 2 = c / 2 ^ (L - 1 - i) % 2) : ∀ j, j ≤ L → cd v p j = c / 2 ^ (L - j)
  | 0, _ => by rw [Nat.sub_zero, Nat.div_eq_of_lt hc]; rfl
  | j + 1, hj => by
    simp only [cd]
    rw [cd_bits hc h j (by omega), h j (by omega), show L - j = (L - (j + 1)) + 1 by omega, show L - 1 - j = L - (j + 1) by omega, Nat.pow_succ, ← Nat.div_div_eq_div_mul]
    omega
theorem hV_lt (ls cs ts : List Int) : ∀ k, hV ls cs ts k < 2 ^ hN ls ts k
  | 0 => by simp [hV, hN]
  | k + 1 => by
    have h1 := hV_lt ls cs ts k
    have h2 := rvp_lt (cs.getD (ts.getD k 0).toNat 0).toNat (zN ls (ts.getD k 0)) (zN ls (ts.getD k 0))
    simp only [hV, hN]
    rw [Nat.pow_add, Nat.mul_comm (2 ^ hN ls ts k)]
    generalize rvp (cs.getD (ts.getD k 0).toNat 0).toNat (zN ls (ts.getD k 0)) (zN ls (ts.getD k 0)) = r at *
    generalize 2 ^ zN ls (ts.getD k 0) = z at *
    generalize 2 ^ hN ls ts k = y at *
    have h3 : (r + 1) * y ≤ z * y := Nat.mul_le_mul_right _ h2
    rw [Nat.add_mul] at h3
    omega
theorem hN_mono (ls ts : List Int) {k l : Nat} (h : k ≤ l) : hN ls ts k ≤ hN ls ts l := by
  induction l with
  | zero => obtain rfl : k = 0 := by omega
            exact Nat.le_refl _
  | succ l ih =>
    by_cases e : k = l + 1
    · subst e; exact Nat.le_refl _
    · have := ih (by omega)
      simp only [hN]
      omega
theorem hV_bit (ls cs ts : List Int) : ∀ T k i, k < T → i < zN ls (ts.getD k 0) → hV ls cs ts T / 2 ^ (hN ls ts k + i) % 2 = (cs.getD (ts.getD k 0).toNat 0).toNat / 2 ^ (zN ls (ts.getD k 0) - 1 - i) % 2
  | 0, k, i, h, _ => by omega
  | T + 1, k, i, h, hi => by
    have hlt := hV_lt ls cs ts T
    simp only [hV]
    by_cases e : k = T
    · subst e
      rw [Nat.pow_add, ← Nat.div_div_eq_div_mul, Nat.add_mul_div_right _ _ (Nat.two_pow_pos _), Nat.div_eq_of_lt hlt, Nat.zero_add]
      exact rvp_bit _ _ _ i hi
    · have hm := hN_mono ls ts (show k + 1 ≤ T by omega)
      simp only [hN] at hm
      rw [← bit_mod _ (hN ls ts T) _ (by omega), Nat.add_mul_mod_self_right, Nat.mod_eq_of_lt hlt]
      exact hV_bit ls cs ts T k i (by omega) hi
theorem reads_text {ls ts : List Int} (hl : lensB ls = true) (ht : ∀ k, k < ts.length → 0 ≤ ts.getD k 0 ∧ ts.getD k 0 < ls.length) (hc : coded ls ts) : ∀ k, k ≤ ts.length → Reads ls (csv ls) (hN ls ts ts.length) (hV ls (csv ls) ts ts.length) 0 (ts.take k) (hN ls ts k)
  | 0, _ => by rw [List.take_zero]; exact .nil
  | k + 1, h => by
    have ih := reads_text hl ht hc k (by omega)
    obtain ⟨r1, r2⟩ := ht k (by omega)
    have hcd := hc k (by omega)
    have hbit := hV_bit ls (csv ls) ts ts.length k
    have hm := hN_mono ls ts (show k + 1 ≤ ts.length by omega)
    simp only [hN] at hm ⊢
    rw [List.take_succ_eq_append_getElem (by omega)]
    have eg : ts[k] = ts.getD k 0 := by rw [List.getD_eq_getElem?_getD, List.getElem?_eq_getElem (by omega)]; rfl
    rw [eg]
    obtain ⟨s, hs⟩ : ∃ s : Nat, ts.getD k 0 = (s : Int) := ⟨_, (Int.toNat_of_nonneg r1).symm⟩
    rw [hs] at hm hbit hcd r2 ⊢
    simp only [zN, Int.toNat_natCast] at hm hbit hcd ⊢
    have hl0 := hl
    simp only [lensB, decide_eq_true_eq] at hl0
    have hsl : s < ls.length := by omega
    have hr := hl0.2.2.1 _ (getD_mem hsl)
    obtain ⟨L, hL⟩ : ∃ L : Nat, ls.getD s 0 = (L : Int) := ⟨_, (Int.toNat_of_nonneg hr.1).symm⟩
    rw [hL] at hm hbit hcd hr ⊢
    simp only [Int.toNat_natCast] at hm hbit ⊢
    have h1L : 1 ≤ L := by omega
    obtain ⟨c, hcv, hlt⟩ := csv_lt hl h1L (by omega) hsl hL
    rw [hcv] at hbit
    simp only [Int.toNat_natCast] at hbit
    have hcd2 := cd_bits (v := hV ls (csv ls) ts ts.length) (p := hN ls ts k) hlt (fun i hi => hbit i (by omega) hi)
    refine .snoc ih ⟨h1L, by omega, hm, hsl, ⟨hL, ?_⟩, fun j hj hh => ?_, fun j i hj1 hj2 hi hh => ?_⟩
    · rw [hcv, hcd2 L (Nat.le_refl _), Nat.sub_self, Nat.pow_zero, Nat.div_one]
    · obtain ⟨q1, q2⟩ := hh
      rw [hcd2 L (Nat.le_refl _), Nat.sub_self, Nat.pow_zero, Nat.div_one, ← hcv] at q2
      refine csv_free h1L (Nat.le_refl L) (by omega) (show j < ls.length by omega) hsl q1 hL (by omega) ?_
      rw [Nat.sub_self, q2]
      simp
    · obtain ⟨q1, q2⟩ := hh
      rw [hcd2 j (by omega)] at q2
      refine csv_free hj1 (show j ≤ L by omega) (by omega) hi hsl q1 hL (by rintro rfl; rw [hL] at q1; omega) ?_
      rw [hcv, q2]
      simp
theorem pays_bump (cs ls : List Int) (s : Nat) (hs : s < cs.length) : ∀ n, pays (bump cs (s : Int)) ls n = pays cs ls n + if s < n then ls.getD s 0 else 0
  | 0 => by simp [pays]
  | n + 1 => by
    have hb : (bump cs (s : Int)).getD n 0 = cs.getD n 0 + if s = n then 1 else 0 := by
      unfold bump
      rw [Int.toNat_natCast]
      simp only [List.getD_eq_getElem?_getD, List.getElem?_set]
      by_cases h : s = n
      · subst h; simp [hs]
      · simp [h]
    simp only [pays]
    rw [pays_bump cs ls s hs n, hb]
    by_cases h : s = n
    · subst h
      rw [if_neg (by omega), if_pos rfl, if_pos (by omega), Int.add_mul]
      omega
    · rw [if_neg h]
      by_cases h2 : s < n
      · rw [if_pos h2, if_pos (by omega)]; simp; omega
      · rw [if_neg h2, if_neg (by omega)]; simp
theorem cnts_ok {zs : List Int} {n : Nat} (h : txtB zs n = true) : cntB (cnts zs n) = true := by
  obtain ⟨h1, h2, h3⟩ := txtB_bnd h
  simp only [cntB, decide_eq_true_eq]
  rw [cnts_len]
  exact ⟨by omega, by omega, fun c hc => by have := cnts_rng zs n c hc; omega⟩
theorem cnts_pays {ts ls : List Int} {n : Nat} (ht : txtB ts n = true) (hr : ∀ z ∈ ls, 0 ≤ z) : ∀ k, k ≤ ts.length → pays (cnts (ts.take k) n) ls n = ((hN ls ts k : Nat) : Int)
  | 0, _ => by
    have e : cnts (ts.take 0) n = List.replicate n 0 := by simp [cnts]
    rw [e]
    simp only [hN]
    have : ∀ m, pays (List.replicate n 0) ls m = 0 := fun m => by
      induction m with
      | zero => rfl
      | succ m ih =>
        simp only [pays]
        rw [ih, List.getD_eq_getElem?_getD]
        by_cases h : m < n
        · simp [h]
        · simp [h]
    rw [this]
    rfl
  | k + 1, h => by
    obtain ⟨r1, r2⟩ := txtB_get ht k (by omega)
    obtain ⟨s, hs⟩ : ∃ s : Nat, ts.getD k 0 = (s : Int) := ⟨_, (Int.toNat_of_nonneg r1).symm⟩
    rw [← cnts_take_succ ts n k (by omega), hs, pays_bump _ _ _ (by rw [cnts_len]; omega), cnts_pays ht hr k (by omega), if_pos (by omega)]
    simp only [hN]
    rw [hs]
    simp only [zN, Int.toNat_natCast]
    have : 0 ≤ ls.getD s 0 := by
      by_cases hi : s < ls.length
      · exact hr _ (getD_mem hi)
      · rw [List.getD_eq_getElem?_getD, List.getElem?_eq_none (by omega)]; simp
    omega
theorem cnts_none {ts ls : List Int} {n : Nat} (ht : txtB ts n = true) (hc : coded ls ts) (i : Nat) (hi : ls.getD i 0 = 0) : ∀ k, k ≤ ts.length → (cnts (ts.take k) n).getD i 0 = 0
  | 0, _ => by
    have e : cnts (ts.take 0) n = List.replicate n 0 := by simp [cnts]
    rw [e, List.getD_eq_getElem?_getD]
    by_cases h : i < n
    · simp [h]
    · simp [h]
  | k + 1, h => by
    have hcd := hc k (by omega)
    rw [← cnts_take_succ ts n k (by omega)]
    unfold bump
    have hne : (ts.getD k 0).toNat ≠ i := by rintro rfl; exact hcd hi
    rw [List.getD_eq_getElem?_getD, List.getElem?_set, if_neg hne, ← List.getD_eq_getElem?_getD]
    exact cnts_none ht hc i hi k (by omega)
theorem text_cost {ls ts : List Int} (hl : lensB ls = true) (ht : txtB ts ls.length = true) (hc : coded ls ts) : costYes (cnts ts ls.length) ls ∧ pays (cnts ts ls.length) ls (cnts ts ls.length).length = ((hN ls ts ts.length : Nat) : Int) := by
  have hl0 := hl
  simp only [lensB, decide_eq_true_eq] at hl0
  have hp := cnts_pays ht (fun z hz => (hl0.2.2.1 z hz).1) ts.length (Nat.le_refl _)
  rw [List.take_length] at hp
  refine ⟨⟨cnts_ok ht, hl, (cnts_len _ _).symm, fun i hi hh => ?_⟩, by rw [cnts_len]; exact hp⟩
  have h0 := cnts_none ht hc i hh.2 ts.length (Nat.le_refl _)
  rw [List.take_length] at h0
  omega
end Go.Proofs.YtkjebacpmmfflaaDoor
