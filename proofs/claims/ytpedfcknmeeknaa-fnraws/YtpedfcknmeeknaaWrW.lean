/-
  RawWrite of the model.
-/
import Derived.Test.YtpedfcknmeeknaaRwOkI
namespace Go.Proofs.Ytpedfcknmeeknaa
open Go.RowKit
set_option linter.unusedVariables false
set_option linter.unusedSimpArgs false

/-- Whether something is written, and what there is then. -/
def wrB (ss ps : List El) (x : Int) (ds : List Int) : Bool := rok ss ps && decide (0 ≤ x ∧ x < (ss.length : Int) ∧ ds.length = 256 ∧ ps.length < 60)
def wrS (ss ps : List El) (x : Int) (ds : List Int) : List (Int × List Int) := if wrB ss ps x ds = true then ss.map El.ct else []
def wrP (ss ps : List El) (x : Int) (ds : List Int) : List (Int × List Int) := if wrB ss ps x ds = true then ps.map El.ct ++ [(x, ds)] else []
theorem wr_ct {ss ps ts qs : List El} (h1 : ts.map El.ct = ss.map El.ct) (h2 : qs.map El.ct = ps.map El.ct) (x : Int) (ds : List Int) : wrB ts qs x ds = wrB ss ps x ds ∧ wrS ts qs x ds = wrS ss ps x ds ∧ wrP ts qs x ds = wrP ss ps x ds := by
  have h3 : wrB ts qs x ds = wrB ss ps x ds := by unfold wrB; rw [rok_ct h1 h2, len_ctE h1, len_ctE h2]
  exact ⟨h3, by unfold wrS; rw [h3, h1], by unfold wrP; rw [h3, h2]⟩
theorem wr_yes {ss ps : List El} {x : Int} {ds : List Int} (h : rok ss ps = true) (hx : 0 ≤ x ∧ x < (ss.length : Int) ∧ ds.length = 256 ∧ ps.length < 60) : wrB ss ps x ds = true ∧ wrS ss ps x ds = ss.map El.ct ∧ wrP ss ps x ds = ps.map El.ct ++ [(x, ds)] := by
  have h3 : wrB ss ps x ds = true := by unfold wrB; rw [h, decide_eq_true hx]; rfl
  exact ⟨h3, by unfold wrS; rw [if_pos h3], by unfold wrP; rw [if_pos h3]⟩
theorem wr_no {ss ps : List El} {x : Int} {ds : List Int} (h : ¬ (rok ss ps = true ∧ 0 ≤ x ∧ x < (ss.length : Int) ∧ ds.length = 256 ∧ ps.length < 60)) : wrB ss ps x ds = false ∧ wrS ss ps x ds = [] ∧ wrP ss ps x ds = [] := by
  have h3 : wrB ss ps x ds = false := by
    unfold wrB
    cases hr : rok ss ps with
    | false => rfl
    | true => rw [decide_eq_false (fun h2 => h ⟨hr, h2⟩)]; rfl
  exact ⟨h3, by unfold wrS; rw [h3]; rfl, by unfold wrP; rw [h3]; rfl⟩
theorem Rok.lens {ss ps : List El} (h : Rok ss ps) : (∀ s ∈ ss, s.ls.length = 256) ∧ ∀ s ∈ ps, s.ls.length = 256 := by
  refine ⟨fun s hs => ?_, fun s hs => ?_⟩
  · obtain ⟨i, hi, rfl⟩ := memE_get hs
    exact h.2.2.2.1 i hi
  · obtain ⟨i, hi, rfl⟩ := memE_get hs
    exact (h.2.2.2.2 i hi).2.2

theorem len_of_ct {ms ss : List El} (h : ms.map El.ct = ss.map El.ct) (hs : ∀ e ∈ ss, e.ls.length = 256) : ∀ e ∈ ms, e.ls.length = 256 := by
  intro e he
  obtain ⟨i, hi, rfl⟩ := memE_get he
  have h1 := ctE_get h i
  have h2 := hs _ (getD_memE (k := i) (by rw [← len_ctE h]; exact hi))
  simp only [El.ct, Prod.mk.injEq] at h1
  rw [h1.2]
  exact h2
end Go.Proofs.Ytpedfcknmeeknaa
