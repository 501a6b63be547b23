/-
  None that is there more often has a smaller share; the shares fill the table.
-/
import Derived.Test.YtmhpgkfaihcmeaaDoorINorm4
namespace Go.Proofs.YtmhpgkfaihcmeaaDoor
open Go.RowKit
set_option linter.unusedVariables false

theorem cross {ci cp ck ni np nk : Int} (h1 : ci * np ≤ cp * ni) (h2 : cp * nk < ck * np) (hi : 0 ≤ ni) (hk : 0 ≤ nk) (hp : 0 < np) : ci * nk ≤ ck * ni := by
  have a1 : ci * np * nk ≤ cp * ni * nk := Int.mul_le_mul_of_nonneg_right h1 hk
  have a2 : cp * nk * ni ≤ ck * np * ni := Int.mul_le_mul_of_nonneg_right (Int.le_of_lt h2) hi
  have e1 : ci * np * nk = ci * nk * np := by rw [Int.mul_assoc, Int.mul_comm np nk, ← Int.mul_assoc]
  have e2 : cp * ni * nk = cp * nk * ni := by rw [Int.mul_assoc, Int.mul_comm ni nk, ← Int.mul_assoc]
  have e3 : ck * np * ni = ck * ni * np := by rw [Int.mul_assoc, Int.mul_comm np ni, ← Int.mul_assoc]
  rw [e1, e2] at a1
  rw [e3] at a2
  exact Int.le_of_mul_le_mul_right (Int.le_trans a1 a2) hp
theorem pick_max {cs ns : List Int} {j : Nat} (hf : Fair cs ns j) (k : Nat) (hk : k ≤ cs.length) : ∀ i, i < k → 0 < cs.getD i 0 → cs.getD i 0 * ns.getD (pick cs ns k).toNat 0 ≤ cs.getD (pick cs ns k).toNat 0 * ns.getD i 0 := by
  induction k with
  | zero => intro i hi; omega
  | succ k ih =>
    intro i hi hc
    by_cases c : ahead cs ns (pick cs ns k) k
    · rw [pick_yes c, Int.toNat_natCast]
      by_cases hik : i = k
      · subst hik; exact Int.le_refl _
      · rcases c.2 with c2 | c2
        · exact absurd (pick_some cs ns k i (by omega) hc) (by omega)
        · have hp := pick_some cs ns k i (by omega) hc
          have hr := pick_rng cs ns k
          have hpp := pick_pos cs ns k hp
          have h1 := ih (by omega) i (by omega) hc
          have np := (hf.2 (pick cs ns k).toNat (by omega)).1 hpp
          exact cross h1 c2 (hf.bnd i).1 (hf.bnd k).1 (by omega)
    · rw [pick_no c]
      by_cases hik : i = k
      · subst hik
        have hp : 0 ≤ pick cs ns i := by
          by_cases h0 : pick cs ns i < 0
          · exact absurd ⟨hc, .inl h0⟩ c
          · omega
        have : ¬ (cs.getD (pick cs ns i).toNat 0 * ns.getD i 0 < cs.getD i 0 * ns.getD (pick cs ns i).toNat 0) := fun h => c ⟨hc, .inr h⟩
        omega
      · exact ih (by omega) i (by omega) hc
def Mono (cs ns : List Int) : Prop := ∀ i k, i < cs.length → k < cs.length → cs.getD k 0 < cs.getD i 0 → ns.getD k 0 ≤ ns.getD i 0
theorem mono_all {cs : List Int} (hs : some1 cs) (h0 : ∀ i, i < cs.length → 0 ≤ cs.getD i 0) (j : Nat) : Mono cs (shares cs j) := by
  induction j with
  | zero =>
    intro i k hi hk h
    have e : ∀ q, q < cs.length → (shares cs 0).getD q 0 = one (cs.getD q 0) := fun q hq => by simp [shares, List.getD_eq_getElem?_getD, List.getElem?_eq_getElem hq]
    rw [e i hi, e k hk]
    have h2 := h0 k hk
    simp only [one]
    rw [if_pos (show 0 < cs.getD i 0 by omega)]
    split <;> omega
  | succ j ih =>
    have hf := fair_all hs j
    obtain ⟨p1, p2, p3⟩ := pick_in (ns := shares cs j) hs
    have hmax := pick_max hf cs.length (Nat.le_refl _)
    intro i k hi hk h
    show (give cs (shares cs j)).getD k 0 ≤ (give cs (shares cs j)).getD i 0
    unfold give bump
    generalize (pick cs (shares cs j) cs.length).toNat = p at *
    generalize shares cs j = ns at *
    have h1 := ih i k hi hk h
    by_cases hkp : k = p
    · subst hkp
      have hip : i ≠ k := fun e => by subst e; omega
      rw [getD_set_eq (by rw [hf.1]; exact hk), getD_set_ne hip]
      have h2 := hmax i hi (by have := h0 k hk; omega)
      have h3 := (hf.2 k hk).1 p3
      by_cases he : ns.getD k 0 = ns.getD i 0
      · rw [he] at h2 h3
        have := Int.le_of_mul_le_mul_right h2 (by omega)
        omega
      · omega
    · rw [getD_set_ne hkp]
      by_cases hip : i = p
      · subst hip
        rw [getD_set_eq (by rw [hf.1]; exact hi)]
        omega
      · rw [getD_set_ne hip]; exact h1
theorem sum_setN (cs : List Int) (i : Nat) (v : Int) (h : i < cs.length) : (cs.set i v).sum = cs.sum - cs.getD i 0 + v := by
  induction cs generalizing i with
  | nil => simp at h
  | cons c cs ih =>
    cases i with
    | zero => simp; omega
    | succ i =>
      have := ih i (by simpa using h)
      simp only [List.set_cons_succ, List.sum_cons, this]
      simp
      omega
theorem shares_sum {cs : List Int} (hs : some1 cs) (j : Nat) : (shares cs j).sum = sumF one cs + j := by
  induction j with
  | zero => simp [shares, sumF]
  | succ j ih =>
    obtain ⟨p1, p2, p3⟩ := pick_in (ns := shares cs j) hs
    show (give cs (shares cs j)).sum = _
    unfold give bump
    rw [sum_setN _ _ _ (by rw [(fair_all hs j).1]; exact p2), ih]
    omega
theorem shares_norm {cs : List Int} (hc : cntB cs = true) (hr : roomy cs) : normB (shares cs (rest cs)) = true := by
  have hs := some1_of hr.1
  have hf := fair_all hs (rest cs)
  have hb := cntB_bndN hc
  simp only [normB, decide_eq_true_eq]
  rw [hf.1]
  refine ⟨hb.1, hb.2, fun z hz => ?_, ?_⟩
  · have h1 := hf.rng z hz
    have h2 := hr.1
    unfold rest at h1
    omega
  · rw [shares_sum hs]
    have h1 := hr.1
    have h2 := hr.2
    unfold rest
    omega
end Go.Proofs.YtmhpgkfaihcmeaaDoor
