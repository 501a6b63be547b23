/-
  The heap's order, in lists.
-/
import Derived.Test.YtkjebacpmmfflaaDoorPcH
namespace Go.Proofs.YtkjebacpmmfflaaDoor
open Go.RowKit
set_option linter.unusedVariables false

def kAt (ps : List Pc) (i : Nat) : Nat := (ps.getD i dpc).key
/-- Each parent from lo on, but x, is no greater than its children. -/
def HO (ps : List Pc) (lo n x : Nat) : Prop := ∀ p c, (c = 2 * p + 1 ∨ c = 2 * p + 2) → c < n → lo ≤ p → p ≠ x → kAt ps p ≤ kAt ps c
/-- What is above x is no greater than x's children. -/
def HG (ps : List Pc) (lo n x : Nat) : Prop := ∀ p c, (x = 2 * p + 1 ∨ x = 2 * p + 2) → (c = 2 * x + 1 ∨ c = 2 * x + 2) → c < n → lo ≤ p → kAt ps p ≤ kAt ps c
theorem swp_get (ps : List Pc) (i j k : Nat) (hi : i < ps.length) (hj : j < ps.length) : (swp ps i j).getD k dpc = if k = j then ps.getD i dpc else if k = i then ps.getD j dpc else ps.getD k dpc := by
  unfold swp
  simp only [List.getD_eq_getElem?_getD, List.getElem?_set, List.length_set]
  by_cases h1 : k = j
  · subst h1
    simp [hj]
  · have h1' : ¬ j = k := fun e => h1 e.symm
    by_cases h2 : k = i
    · subst h2
      simp [h1, h1', hi]
    · have h2' : ¬ i = k := fun e => h2 e.symm
      simp [h1, h1', h2, h2']
theorem kAt_swp (ps : List Pc) (i j k : Nat) (hi : i < ps.length) (hj : j < ps.length) : kAt (swp ps i j) k = if k = j then kAt ps i else if k = i then kAt ps j else kAt ps k := by
  unfold kAt
  rw [swp_get ps i j k hi hj]
  repeat' split
  all_goals rfl
theorem HO_start {ps : List Pc} {lo n : Nat} (h : HO ps (lo + 1) n n) : HO ps lo n lo := fun p c hc hn hl hx => h p c hc hn (by omega) (by omega)
theorem HG_start (ps : List Pc) (lo n : Nat) : HG ps lo n lo := fun p c hx _ _ hl => by omega
theorem HO_leaf {ps : List Pc} {lo n i : Nat} (h : HO ps lo n i) (hi : n ≤ 2 * i + 1) : HO ps lo n n := fun p c hc hn hl hx => h p c hc hn hl (by omega)
theorem HO_done {ps : List Pc} {lo n i j : Nat} (h : HO ps lo n i) (hj : ∀ c, (c = 2 * i + 1 ∨ c = 2 * i + 2) → c < n → kAt ps j ≤ kAt ps c) (hij : kAt ps i ≤ kAt ps j) : HO ps lo n n := fun p c hc hn hl hx => by
  by_cases hp : p = i
  · subst hp
    exact Nat.le_trans hij (hj c hc hn)
  · exact h p c hc hn hl hp
theorem HO_swap {ps : List Pc} {lo n i j : Nat} (h : HO ps lo n i) (hg : HG ps lo n i) (hlo : lo ≤ i) (hj : j = 2 * i + 1 ∨ j = 2 * i + 2) (hjn : j < n) (hn : n ≤ ps.length) (hm : ∀ c, (c = 2 * i + 1 ∨ c = 2 * i + 2) → c < n → kAt ps j ≤ kAt ps c) (hlt : kAt ps j < kAt ps i) :
    HO (swp ps i j) lo n j ∧ HG (swp ps i j) lo n j := by
  have hk := fun k => kAt_swp ps i j k (by omega) (by omega)
  constructor
  · intro p c hc hcn hl hp
    rw [hk p, hk c, if_neg hp]
    by_cases h1 : p = i
    · subst h1
      rw [if_pos rfl]
      by_cases h2 : c = j
      · rw [if_pos h2]; omega
      · rw [if_neg h2, if_neg (by omega)]
        exact hm c hc hcn
    · rw [if_neg h1]
      by_cases h2 : c = j
      · omega
      · rw [if_neg h2]
        by_cases h3 : c = i
        · rw [if_pos h3]
          subst h3
          exact hg p j hc hj hjn hl
        · rw [if_neg h3]
          exact h p c hc hcn hl h1
  · intro p c hx hc hcn hl
    have hpi : p = i := by omega
    subst hpi
    rw [hk p, hk c, if_neg (by omega), if_pos rfl, if_neg (by omega), if_neg (by omega)]
    exact h j c hc hcn (by omega) (by omega)
theorem swp_perm (ps : List Pc) (i j : Nat) (hi : i < ps.length) (hj : j < ps.length) : (swp ps i j).Perm ps := by
  unfold swp
  rw [show ps.getD i dpc = ps[i] by simp [List.getD_eq_getElem?_getD, hi], show ps.getD j dpc = ps[j] by simp [List.getD_eq_getElem?_getD, hj]]
  exact List.set_set_perm hi hj
end Go.Proofs.YtkjebacpmmfflaaDoor
