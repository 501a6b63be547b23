/-
  Shares out of bits, as numbers.
-/
import Derived.Test.YtfhcaoabohmkkaaDoorBLen
import Derived.Test.YtfhcaoabohmkkaaDoorINorm
namespace Go.Proofs.YtfhcaoabohmkkaaDoor
open Go.RowKit
set_option linter.unusedVariables false

/-- What is left, and where one reads, behind k shares. -/
def gL (V p : Nat) : Nat → Nat × Nat
  | 0 => (64, p)
  | k + 1 => ((gL V p k).1 - V / 2 ^ (gL V p k).2 % 2 ^ bl (gL V p k).1, (gL V p k).2 + bl (gL V p k).1)
/-- The share that is read. -/
def gX (V p k : Nat) : Nat := V / 2 ^ (gL V p k).2 % 2 ^ bl (gL V p k).1
def good (n V p k : Nat) : Prop := ∀ j, j < k → (gL V p j).2 + bl (gL V p j).1 ≤ n ∧ gX V p j ≤ (gL V p j).1
/-- The shares that are read. -/
def gXs (V p s : Nat) : List Int := (List.range s).map (fun k => ((gX V p k : Nat) : Int))

theorem gL_le (V p k : Nat) : (gL V p k).1 ≤ 64 := by
  induction k with
  | zero => simp [gL]
  | succ k ih => simp only [gL]; omega
theorem gX_lt (V p k : Nat) : gX V p k < 128 := by
  have h1 := bl_le7 _ (gL_le V p k)
  have h2 : gX V p k < 2 ^ bl (gL V p k).1 := Nat.mod_lt _ (Nat.pow_pos (by omega))
  have h3 : 2 ^ bl (gL V p k).1 ≤ 2 ^ 7 := Nat.pow_le_pow_right (by omega) h1
  omega
theorem gXs_len (V p s : Nat) : (gXs V p s).length = s := by simp [gXs]
theorem gXs_get (V p s k : Nat) (h : k < s) : (gXs V p s).getD k 0 = (gX V p k : Nat) := by
  simp [gXs, List.getD_eq_getElem?_getD, h]
theorem gXs_rng (V p s : Nat) : ∀ z ∈ gXs V p s, -9223372036854775808 ≤ z ∧ z ≤ 9223372036854775807 := by
  intro z hz
  simp only [gXs, List.mem_map, List.mem_range] at hz
  obtain ⟨k, _, rfl⟩ := hz
  have := gX_lt V p k
  omega
theorem good_succ {n V p k : Nat} (h : good n V p k) (h1 : (gL V p k).2 + bl (gL V p k).1 ≤ n) (h2 : gX V p k ≤ (gL V p k).1) : good n V p (k + 1) := by
  intro j hj
  by_cases h' : j = k
  · subst h'; exact ⟨h1, h2⟩
  · exact h j (by omega)
theorem good_pos {n V p k : Nat} (hp : p ≤ n) (h : good n V p k) : (gL V p k).2 ≤ n := by
  cases k with
  | zero => exact hp
  | succ k => exact (h k (by omega)).1
theorem gL_succ1 (V p k : Nat) : (gL V p (k + 1)).1 = (gL V p k).1 - gX V p k := rfl
theorem gL_succ2 (V p k : Nat) : (gL V p (k + 1)).2 = (gL V p k).2 + bl (gL V p k).1 := rfl
theorem good_mono {n V p k j : Nat} (h : good n V p k) (hj : j ≤ k) : good n V p j := fun i hi => h i (by omega)
theorem bad_size {n V p k s : Nat} (hk : k < s) (h : ¬ (gL V p k).2 + bl (gL V p k).1 ≤ n) : ¬ good n V p s := fun h' => h (h' k hk).1
theorem bad_share {n V p k s : Nat} (hk : k < s) (h : ¬ gX V p k ≤ (gL V p k).1) : ¬ good n V p s := fun h' => h (h' k hk).2
/-- Where nothing is left, only noughts follow, and no bits. -/
theorem gL_rest {n V p k : Nat} (hp : p ≤ n) (h : good n V p k) (h0 : (gL V p k).1 = 0) (s : Nat) (hs : k ≤ s) : good n V p s ∧ (gL V p s).1 = 0 ∧ (gL V p s).2 = (gL V p k).2 ∧ ∀ j, k ≤ j → j < s → gX V p j = 0 := by
  induction s with
  | zero => obtain rfl : k = 0 := by omega
            exact ⟨h, h0, rfl, fun j _ _ => by omega⟩
  | succ s ih =>
    by_cases hks : k ≤ s
    · obtain ⟨i1, i2, i3, i4⟩ := ih hks
      have hx : gX V p s = 0 := by unfold gX; rw [i2, bl_zero]; simp [Nat.mod_one]
      have hps := good_pos hp i1
      refine ⟨good_succ i1 (by rw [i2, bl_zero]; omega) (by omega), by rw [gL_succ1]; omega, by rw [gL_succ2, i2, bl_zero]; exact i3, ?_⟩
      intro j hj1 hj2
      by_cases hjs : j = s
      · subst hjs; exact hx
      · exact i4 j hj1 (by omega)
    · obtain rfl : k = s + 1 := by omega
      exact ⟨h, h0, rfl, fun j _ _ => by omega⟩
theorem part_rest {zs : List Int} {k : Nat} (hk : k ≤ zs.length) (h : ∀ j, k ≤ j → j < zs.length → zs.getD j 0 = 0) : part zs k = zs := by
  apply List.ext_getElem?
  intro i
  rw [part_get zs k i hk]
  by_cases h1 : i < k
  · rw [if_pos h1]
  · rw [if_neg h1]
    by_cases h2 : i < zs.length
    · rw [if_pos h2]
      have := h i (by omega) h2
      rw [List.getD_eq_getElem?_getD, List.getElem?_eq_getElem h2] at this
      rw [List.getElem?_eq_getElem h2]
      simp at this
      rw [this]
    · rw [if_neg h2, List.getElem?_eq_none (by omega)]
end Go.Proofs.YtfhcaoabohmkkaaDoor
