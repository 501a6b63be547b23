/-
  A map comes back from its sector; of two the newer one counts: as numbers.
-/
import Derived.Test.YtnelpioadpdphaaMpNsI
namespace Go.Proofs.Ytnelpioadpdphaa
open Go.RowKit
set_option linter.unusedVariables false

theorem bts_get (ps : List (Int × Int)) (us : List Int) : ∀ k, k < ps.length → (bts ps ++ us).getD (2 * k) 0 = (ps.getD k dp).1 ∧ (bts ps ++ us).getD (2 * k + 1) 0 = (ps.getD k dp).2 := by
  induction ps with
  | nil => intro k hk; simp at hk
  | cons p ps ih =>
    intro k hk
    rw [show bts (p :: ps) ++ us = p.1 :: p.2 :: (bts ps ++ us) from rfl]
    cases k with
    | zero => exact ⟨rfl, rfl⟩
    | succ k =>
      have := ih k (by simpa using hk)
      rw [show 2 * (k + 1) = 2 * k + 1 + 1 from by omega, show 2 * k + 1 + 1 + 1 = (2 * k + 1) + 1 + 1 from rfl]
      simpa only [List.getD_cons_succ] using this
theorem pl2_bts (ps : List (Int × Int)) (us : List Int) : ∀ k, k ≤ ps.length → pl2 (bts ps ++ us) k = ps.take k := by
  intro k
  induction k with
  | zero => intro _; simp [pl2]
  | succ k ih =>
    intro hk
    obtain ⟨h1, h2⟩ := bts_get ps us k (by omega)
    have hg : ps.getD k dp = ps[k]'(by omega) := by rw [List.getD_eq_getElem?_getD, List.getElem?_eq_getElem (show k < ps.length by omega)]; rfl
    rw [pl2, ih (by omega), h1, h2, List.take_succ_eq_append_getElem (show k < ps.length by omega), hg]
theorem sr_back {e : Int} {ps : List (Int × Int)} (h : sbB e ps = true) : srB (sbL e ps) = true ∧ srE (sbL e ps) = e ∧ srP (sbL e ps) = ps := by
  have hb := h
  unfold sbB at hb
  simp only [Bool.and_eq_true, decide_eq_true_eq] at hb
  have hl := mapB_len ps hb.2
  have h1 : (sbL e ps).getD 1 0 = e / 256 := rfl
  have h2 : (sbL e ps).getD 2 0 = e % 256 := rfl
  have h3 : (sbL e ps).getD 3 0 = (ps.length : Int) := rfl
  have hd : (sbL e ps).drop 4 = bts ps ++ List.replicate (252 - ps.length * 2) 0 := by
    unfold sbL sbH
    simp
  have he : epo (sbL e ps) = e := by unfold epo; rw [h1, h2]; omega
  have hm : mny (sbL e ps) = ps.length := by unfold mny; rw [h3]; simp
  have hr : rdP (sbL e ps) = ps := by unfold rdP; rw [hm, hd, pl2_bts ps _ _ (Nat.le_refl _), List.take_length]
  have hA : sbA e ps = sbL e ps := by unfold sbA; rw [h]; rfl
  have hB : srB (sbL e ps) = true := by
    rw [srB_in ⟨sbL_len e ps hl.2, by rw [h3]; omega⟩, he, hr, h, hA]
    simp [sm8]
  exact ⟨hB, by rw [(sr_yes hB).1, he], by rw [(sr_yes hB).2, hr]⟩
theorem sr_is {zs : List Int} (h : srB zs = true) : sbB (srE zs) (srP zs) = true ∧ sm8 (sbA (srE zs) (srP zs)) zs = true := by
  have h2 := h
  unfold srB at h2
  simp only [Bool.and_eq_true] at h2
  rw [(sr_yes h).1, (sr_yes h).2]
  exact h2.2
theorem ns_fine (zs ys : List Int) : nsB zs ys = (srB zs || srB ys) := by
  unfold nsB nsQ
  cases srB zs <;> cases srB ys <;> simp
theorem ns_is {zs ys : List Int} (h : nsB zs ys = true) : sbB (nsE zs ys) (nsP zs ys) = true ∧ (sm8 (sbA (nsE zs ys) (nsP zs ys)) zs = true ∨ sm8 (sbA (nsE zs ys) (nsP zs ys)) ys = true) ∧ (srB zs = true → srE zs ≤ nsE zs ys) ∧ (srB ys = true → srE ys ≤ nsE zs ys) := by
  unfold nsB at h
  unfold nsE nsP
  cases hq : nsQ zs ys with
  | true =>
    have hq2 := hq
    unfold nsQ at hq2
    simp only [Bool.and_eq_true, Bool.or_eq_true, Bool.not_eq_true', decide_eq_true_eq] at hq2
    have hi := sr_is hq2.1
    refine ⟨hi.1, .inr hi.2, fun h1 => ?_, fun _ => Int.le_refl _⟩
    rcases hq2.2 with h3 | h3
    · rw [h1] at h3; cases h3
    · simp only [if_true]; omega
  | false =>
    rw [hq] at h
    have h1 : srB zs = true := by simpa using h
    have hi := sr_is h1
    refine ⟨hi.1, .inl hi.2, fun _ => Int.le_refl _, fun h2 => ?_⟩
    unfold nsQ at hq
    rw [h1, h2] at hq
    simp only [Bool.true_and, Bool.not_true, Bool.false_or, decide_eq_false_iff_not] at hq
    simp only [Bool.false_eq_true, if_false]
    omega
end Go.Proofs.Ytnelpioadpdphaa
