/-
  The heap's order, in lists.
-/
import Derived.BigRegion
import Derived.Test.YtkjebacpmmfflaaDoorPcL
namespace Go.Proofs.YtkjebacpmmfflaaDoor
open Go.RowKit
set_option linter.unusedVariables false
set_option linter.unusedSimpArgs false

/-- The row at g bears the parcels ps, the call's own from B on. -/
def OwV (w : World) (B g cap : Nat) (ps : List Pc) : Prop := w.ownsRow B 56 1 (.slice (some ⟨g, 0, none⟩) ps.length cap) ps.length (ps.map Pc.vl)
theorem OwV.lt {w : World} {B g cap : Nat} {ps : List Pc} (h : OwV w B g cap ps) : B ≤ g ∧ g < w.heap.size := World.ownsRow.lt h g rfl
theorem OwV.cell {w : World} {B g cap : Nat} {ps : List Pc} (h : OwV w B g cap ps) (i : Nat) (hi : i < ps.length) : w.cell? ⟨g, i, none⟩ = some (ps.getD i dpc).vl := by
  have := World.ownsRow.cellAt h i (by omega)
  rw [this]
  simp [List.getElem?_eq_getElem hi]
theorem OwV.caps {w : World} {B g cap : Nat} {ps : List Pc} (h : OwV w B g cap ps) : ps.length ≤ cap ∧ cap ≤ maxLen := by
  rcases h.2 with ⟨h1, _⟩ | ⟨g', cap', cur, h1, _, _, h2, h3, _⟩
  · cases h1
  · simp only [Value.slice.injEq] at h1
    omega
theorem OwV.only {S : Nat → Prop} {w w' : World} {B g cap : Nat} {ps : List Pc} (h : OwV w B g cap ps) (ho : Only S w w') (hs : ¬ S g) : OwV w' B g cap ps := by
  refine ⟨h.1, ?_⟩
  have hlt := h.lt.2
  rcases h.2 with ⟨h', _⟩ | ⟨g', cap', cur, h', hg, hh, r⟩
  · simp at h'
  · have e : g' = g := by simp at h'; exact h'.1.symm
    subst e
    exact .inr ⟨g', cap', cur, h', hg, (ho.block g' hlt hs).trans hh, r⟩
theorem OwV.store {w : World} {B g cap : Nat} {ps : List Pc} (h : OwV w B g cap ps) (i : Nat) (p : Pc) : OwV (w.setCell ⟨g, i, none⟩ p.vl) B g cap (ps.set i p) := by
  have := (World.ownsRow.stored h i p.vl).1
  unfold OwV
  simpa [List.map_set] using this
theorem OwV.frozen {w : World} {B g cap : Nat} {ps : List Pc} (h : OwV w B g cap ps) (i : Nat) : w.frozen? ⟨g, i, none⟩ = false := World.ownsRow.frozenAt h i
theorem OwV.tag {w : World} {B g cap : Nat} {ps : List Pc} (h : OwV w B g cap ps) : ∃ cur, w.heap[g]? = some (.cells cur 56 (0, 0)) := by
  rcases h.2 with ⟨h1, _⟩ | ⟨g', cap', cur, h1, _, hh, _⟩
  · cases h1
  · obtain rfl : g = g' := by simp at h1; exact h1.1
    exact ⟨cur, hh⟩
/-- One element less. -/
theorem OwV.drop {w : World} {B g cap : Nat} {ps : List Pc} (h : OwV w B g cap ps) (n : Nat) (hn : n ≤ ps.length) : OwV w B g cap (ps.take n) := by
  rcases h.2 with ⟨h1, _⟩ | ⟨g', cap', cur, h1, h2, h3, h4, h5, h6, h7⟩
  · cases h1
  · obtain ⟨rfl, -, rfl⟩ : g = g' ∧ ps.length = ps.length ∧ cap = cap' := by simpa using h1
    refine ⟨by simp, .inr ⟨g, cap, cur, rfl, h2, h3, ?_, h5, h6, ?_⟩⟩
    · rw [List.length_take]; omega
    · rw [List.length_take, Nat.min_eq_left hn, List.map_take, ← h7, List.take_take]
      congr 1
      omega
def swp (ps : List Pc) (i j : Nat) : List Pc := (ps.set i (ps.getD j dpc)).set j (ps.getD i dpc)
theorem swp_len (ps : List Pc) (i j : Nat) : (swp ps i j).length = ps.length := by simp [swp]

set_option maxHeartbeats 1000000 in
theorem len_any (a : Option Addr) (n c : Nat) (w : World) : Calls Tryd.prog 55 #[.slice a n c] w fun e w' => e = .returned (.int .i64 n) ∧ w' = w := by
  go_enter Tryd.func55, Tryd.ntmps55
  go_wp2
  go_ret
  exact ⟨rfl, rfl⟩

set_option maxRecDepth 20000 in
set_option maxHeartbeats 4000000 in
theorem swap_any (B g cap : Nat) (ps : List Pc) (i j : Nat) (w : World) (h : OwV w B g cap ps) (hi : i < ps.length) (hj : j < ps.length) :
    Calls Tryd.prog 102 #[.slice (some ⟨g, 0, none⟩) ps.length cap, .int .i64 i, .int .i64 j] w fun e w' => e = .returned (.tuple #[]) ∧ OwV w' B g cap (swp ps i j) ∧ Only (fun k => k = g) w w' := by
  have ci := h.cell i hi
  have cj := h.cell j hj
  have fi := h.frozen i
  have fj := h.frozen j
  have hi2 : (i : Int) < (ps.length : Int) := by omega
  have hj2 : (j : Int) < (ps.length : Int) := by omega
  have HD : Hid (OwV ((w.setCell ⟨g, i, none⟩ (ps.getD j dpc).vl).setCell ⟨g, j, none⟩ (ps.getD i dpc).vl) B g cap (swp ps i j) ∧ Only (fun k => k = g) w ((w.setCell ⟨g, i, none⟩ (ps.getD j dpc).vl).setCell ⟨g, j, none⟩ (ps.getD i dpc).vl)) := by
    refine ⟨?_, ((Only.refl (fun k => k = g) w).setCell (p := ⟨g, i, none⟩) (.inl rfl) _).setCell (p := ⟨g, j, none⟩) (.inl rfl) _⟩
    have h2 := (h.store i (ps.getD j dpc))
    have h3 := h2.store j (ps.getD i dpc)
    exact h3
  have h2 := h.store i (ps.getD j dpc)
  have ck := h2.cell j (by simpa using hj)
  have fk := h2.frozen j
  obtain ⟨tk, xk, hvk⟩ := ((ps.set i (ps.getD j dpc)).getD j dpc).form
  rw [hvk] at ck
  clear hvk h2
  obtain ⟨ti, xi, hvi⟩ := (ps.getD i dpc).form
  obtain ⟨tj, xj, hvj⟩ := (ps.getD j dpc).form
  rw [hvi] at ci HD
  rw [hvj] at cj ck fk HD
  clear hvi hvj
  clear h
  generalize ps.length = n at *
  go_enter Tryd.func102, Tryd.ntmps102
  go_wp2_with fail
  go_region
  all_goals
    go_wp2
    go_end0
    exact ⟨rfl, HD.out.1, HD.out.2.drew⟩
def kAt (ps : List Pc) (i : Nat) : Nat := (ps.getD i dpc).key
/-- Each parent from lo on, but x, is no greater than its children. -/
def HO (ps : List Pc) (lo n x : Nat) : Prop := ∀ p c, (c = 2 * p + 1 ∨ c = 2 * p + 2) → c < n → lo ≤ p → p ≠ x → kAt ps p ≤ kAt ps c
/-- What is above x is no greater than x's children. -/
def HG (ps : List Pc) (lo n x : Nat) : Prop := ∀ p c, (x = 2 * p + 1 ∨ x = 2 * p + 2) → (c = 2 * x + 1 ∨ c = 2 * x + 2) → c < n → lo ≤ p → kAt ps p ≤ kAt ps c
theorem swp_get (ps : List Pc) (i j k : Nat) (hi : i < ps.length) (hj : j < ps.length) : (swp ps i j).getD k dpc = if k = j then ps.getD i dpc else if k = i then ps.getD j dpc else ps.getD k dpc := by
  unfold swp
  simp only [List.getD_eq_getElem?_getD, List.getElem?_set, List.length_set]
  by_cases h1 : k = j
  · subst h1
    simp [hj]
  · have h1' : ¬ j = k := fun e => h1 e.symm
    by_cases h2 : k = i
    · subst h2
      simp [h1, h1', hi]
    · have h2' : ¬ i = k := fun e => h2 e.symm
      simp [h1, h1', h2, h2']
theorem kAt_swp (ps : List Pc) (i j k : Nat) (hi : i < ps.length) (hj : j < ps.length) : kAt (swp ps i j) k = if k = j then kAt ps i else if k = i then kAt ps j else kAt ps k := by
  unfold kAt
  rw [swp_get ps i j k hi hj]
  repeat' split
  all_goals rfl
theorem HO_start {ps : List Pc} {lo n : Nat} (h : HO ps (lo + 1) n n) : HO ps lo n lo := fun p c hc hn hl hx => h p c hc hn (by omega) (by omega)
theorem HG_start (ps : List Pc) (lo n : Nat) : HG ps lo n lo := fun p c hx _ _ hl => by omega
theorem HO_leaf {ps : List Pc} {lo n i : Nat} (h : HO ps lo n i) (hi : n ≤ 2 * i + 1) : HO ps lo n n := fun p c hc hn hl hx => h p c hc hn hl (by omega)
theorem HO_done {ps : List Pc} {lo n i j : Nat} (h : HO ps lo n i) (hj : ∀ c, (c = 2 * i + 1 ∨ c = 2 * i + 2) → c < n → kAt ps j ≤ kAt ps c) (hij : kAt ps i ≤ kAt ps j) : HO ps lo n n := fun p c hc hn hl hx => by
  by_cases hp : p = i
  · subst hp
    exact Nat.le_trans hij (hj c hc hn)
  · exact h p c hc hn hl hp
theorem HO_swap {ps : List Pc} {lo n i j : Nat} (h : HO ps lo n i) (hg : HG ps lo n i) (hlo : lo ≤ i) (hj : j = 2 * i + 1 ∨ j = 2 * i + 2) (hjn : j < n) (hn : n ≤ ps.length) (hm : ∀ c, (c = 2 * i + 1 ∨ c = 2 * i + 2) → c < n → kAt ps j ≤ kAt ps c) (hlt : kAt ps j < kAt ps i) :
    HO (swp ps i j) lo n j ∧ HG (swp ps i j) lo n j := by
  have hk := fun k => kAt_swp ps i j k (by omega) (by omega)
  constructor
  · intro p c hc hcn hl hp
    rw [hk p, hk c, if_neg hp]
    by_cases h1 : p = i
    · subst h1
      rw [if_pos rfl]
      by_cases h2 : c = j
      · rw [if_pos h2]; omega
      · rw [if_neg h2, if_neg (by omega)]
        exact hm c hc hcn
    · rw [if_neg h1]
      by_cases h2 : c = j
      · omega
      · rw [if_neg h2]
        by_cases h3 : c = i
        · rw [if_pos h3]
          subst h3
          exact hg p j hc hj hjn hl
        · rw [if_neg h3]
          exact h p c hc hcn hl h1
  · intro p c hx hc hcn hl
    have hpi : p = i := by omega
    subst hpi
    rw [hk p, hk c, if_neg (by omega), if_pos rfl, if_neg (by omega), if_neg (by omega)]
    exact h j c hc hcn (by omega) (by omega)
theorem swp_perm (ps : List Pc) (i j : Nat) (hi : i < ps.length) (hj : j < ps.length) : (swp ps i j).Perm ps := by
  unfold swp
  rw [show ps.getD i dpc = ps[i] by simp [List.getD_eq_getElem?_getD, hi], show ps.getD j dpc = ps[j] by simp [List.getD_eq_getElem?_getD, hj]]
  exact List.set_set_perm hi hj
end Go.Proofs.YtkjebacpmmfflaaDoor
