/-
  Shares come back from their bits; what is read as shares has just these bits.
-/
import Derived.Test.YtfhcaoabohmkkaaDoorNPut
import Derived.Test.YtfhcaoabohmkkaaDoorNGet2
namespace Go.Proofs.YtfhcaoabohmkkaaDoor
open Go.RowKit
set_option linter.unusedVariables false

theorem vb_lt {zs : List Int} (h : normB zs = true) (k : Nat) (hk : k ≤ zs.length) : vb zs k < 2 ^ nb zs k := by
  induction k with
  | zero => simp [vb, nb]
  | succ k ih =>
    have h1 := ih (by omega)
    have h2 := lft_succ h k (by omega)
    have h3 := bl_lt (lft zs k) (by have := (lft_eq h k).2; omega)
    simp only [vb, nb]
    exact put_lt _ _ _ _ h1 (by omega)
/-- What was put stays under what is put later. -/
theorem vb_more {zs : List Int} (j k : Nat) (hjk : j ≤ k) : vb zs k % 2 ^ nb zs j = vb zs j % 2 ^ nb zs j ∧ nb zs j ≤ nb zs k := by
  induction k with
  | zero => obtain rfl : j = 0 := by omega
            exact ⟨rfl, Nat.le_refl _⟩
  | succ k ih =>
    by_cases hj : j ≤ k
    · obtain ⟨i1, i2⟩ := ih hj
      refine ⟨?_, by simp only [nb]; omega⟩
      simp only [vb]
      rw [← i1]
      have e : 2 ^ nb zs k = 2 ^ nb zs j * 2 ^ (nb zs k - nb zs j) := by rw [← Nat.pow_add]; congr 1; omega
      rw [e, Nat.mul_comm (2 ^ nb zs j), ← Nat.mul_assoc, Nat.add_mul_mod_self_right]
    · obtain rfl : j = k + 1 := by omega
      exact ⟨rfl, Nat.le_refl _⟩
theorem read_share (V a b n v : Nat) (h : V % 2 ^ (a + b) = v) : V / 2 ^ a % 2 ^ b = v / 2 ^ a := by
  rw [← h, Nat.pow_add, Nat.mod_mul_right_div_self]
theorem put_div (v x a : Nat) (h : v < 2 ^ a) : (v + x * 2 ^ a) / 2 ^ a = x := by
  rw [Nat.add_mul_div_right _ _ (Nat.pow_pos (by omega)), Nat.div_eq_of_lt h, Nat.zero_add]
/-- Reading what was put. -/
theorem norm_back {zs : List Int} (h : normB zs = true) (k : Nat) (hk : k ≤ zs.length) : (gL (vb zs zs.length) 0 k).1 = lft zs k ∧ (gL (vb zs zs.length) 0 k).2 = nb zs k ∧ ∀ j, j < k → gX (vb zs zs.length) 0 j = (zs.getD j 0).toNat := by
  induction k with
  | zero => exact ⟨by simp [gL, lft], rfl, fun j hj => by omega⟩
  | succ k ih =>
    obtain ⟨i1, i2, i3⟩ := ih (by omega)
    have hx : gX (vb zs zs.length) 0 k = (zs.getD k 0).toNat := by
      unfold gX
      rw [i1, i2]
      have h1 := (vb_more (zs := zs) (k + 1) zs.length hk).1
      rw [Nat.mod_eq_of_lt (vb_lt h (k + 1) hk)] at h1
      simp only [nb] at h1
      rw [read_share _ _ _ 0 _ h1]
      simp only [vb]
      exact put_div _ _ _ (vb_lt h k (by omega))
    have h2 := lft_succ h k (by omega)
    refine ⟨?_, ?_, ?_⟩
    · rw [gL_succ1, i1, hx]; omega
    · rw [gL_succ2, i1, i2]; rfl
    · intro j hj
      by_cases hjk : j = k
      · subst hjk; exact hx
      · exact i3 j (by omega)
theorem norm_got {zs : List Int} (h : normB zs = true) : gotN (nb zs zs.length) (vb zs zs.length) 0 zs.length ∧ gXs (vb zs zs.length) 0 zs.length = zs ∧ (gL (vb zs zs.length) 0 zs.length).2 = nb zs zs.length := by
  obtain ⟨b1, b2, b3⟩ := norm_back h zs.length (Nat.le_refl _)
  refine ⟨⟨fun j hj => ?_, by rw [b1]; exact lft_end h⟩, ?_, b2⟩
  · obtain ⟨c1, c2, _⟩ := norm_back h j (by omega)
    have h1 := (vb_more (zs := zs) (j + 1) zs.length (by omega)).2
    have h2 := lft_succ h j hj
    rw [c1, c2, b3 j hj]
    simp only [nb] at h1
    exact ⟨h1, by omega⟩
  · apply List.ext_getElem
    · rw [gXs_len]
    · intro i h1 h2
      have h3 := gXs_get (vb zs zs.length) 0 zs.length i h2
      rw [b3 i h2] at h3
      have h4 := ((normB_sum h).2 _ (getD_mem h2)).1
      have e1 : (gXs (vb zs zs.length) 0 zs.length).getD i 0 = (gXs (vb zs zs.length) 0 zs.length)[i] := by rw [List.getD_eq_getElem?_getD, List.getElem?_eq_getElem h1]; rfl
      have e2 : zs.getD i 0 = zs[i] := by rw [List.getD_eq_getElem?_getD, List.getElem?_eq_getElem h2]; rfl
      rw [← e1, h3, ← e2]
      omega
/-- What is read. -/
theorem got_take (V p s : Nat) (n : Nat) (hg : good n V p s) (k : Nat) (hk : k ≤ s) : ((gXs V p s).take k).sum = 64 - ((gL V p k).1 : Nat) ∧ lft (gXs V p s) k = (gL V p k).1 ∧ p + nb (gXs V p s) k = (gL V p k).2 := by
  induction k with
  | zero => exact ⟨by simp [gL], by simp [lft, gL], rfl⟩
  | succ k ih =>
    obtain ⟨i1, i2, i3⟩ := ih (by omega)
    have h1 := (hg k (by omega)).2
    have h2 := gL_le V p k
    have hs : ((gXs V p s).take (k + 1)).sum = 64 - ((gL V p (k + 1)).1 : Nat) := by
      rw [sum_succ _ k (by rw [gXs_len]; omega), i1, gXs_get V p s k (by omega), gL_succ1]
      omega
    refine ⟨hs, ?_, ?_⟩
    · unfold lft
      rw [hs]
      have := gL_le V p (k + 1)
      omega
    · simp only [nb]
      rw [i2, gL_succ2]
      omega
theorem got_norm {n V p s : Nat} (hs1 : 1 ≤ s) (hs : s ≤ 80) (h : gotN n V p s) : normB (gXs V p s) = true ∧ p + nb (gXs V p s) s = (gL V p s).2 := by
  obtain ⟨t1, t2, t3⟩ := got_take V p s n h.1 s (Nat.le_refl _)
  refine ⟨?_, t3⟩
  simp only [normB, decide_eq_true_eq]
  rw [gXs_len]
  refine ⟨hs1, hs, fun z hz => ?_, ?_⟩
  · simp only [gXs, List.mem_map, List.mem_range] at hz
    obtain ⟨k, hk, rfl⟩ := hz
    have h1 := (h.1 k hk).2
    have h2 := gL_le V p k
    omega
  · have e : (gXs V p s).take s = gXs V p s := List.take_of_length_le (by rw [gXs_len]; exact Nat.le_refl _)
    rw [e, h.2] at t1
    omega
end Go.Proofs.YtfhcaoabohmkkaaDoor
