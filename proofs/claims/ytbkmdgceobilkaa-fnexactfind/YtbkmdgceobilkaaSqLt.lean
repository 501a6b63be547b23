/-
  How many letters sequences have.
-/
import Derived.Test.YtbkmdgceobilkaaSqP
namespace Go.Proofs.Ytbkmdgceobilkaa
open Go.RowKit
set_option linter.unusedVariables false

/-- How many letters there are in all. -/
def lets : List Sq → Nat
  | [] => 0
  | s :: ss => s.ls.length + lets ss
theorem lets_app (a b : List Sq) : lets (a ++ b) = lets a + lets b := by
  induction a with
  | nil => simp [lets]
  | cons s a ih => simp only [List.cons_append, lets, ih]; omega
theorem lets_take_succ (ss : List Sq) (k : Nat) (h : k < ss.length) : lets (ss.take (k + 1)) = lets (ss.take k) + (ss.getD k dq).ls.length := by
  rw [List.take_succ_eq_append_getElem h, lets_app]
  simp [lets, List.getD_eq_getElem?_getD, List.getElem?_eq_getElem h]
theorem lets_mem {s : Sq} {ss : List Sq} (h : s ∈ ss) : s.ls.length ≤ lets ss := by
  induction ss with
  | nil => cases h
  | cons x ss ih =>
    rcases List.mem_cons.1 h with rfl | h
    · simp only [lets]; omega
    · have := ih h; simp only [lets]; omega
theorem lets_ct (ss ts : List Sq) (h : ss.map Sq.ct = ts.map Sq.ct) : lets ss = lets ts := by
  induction ss generalizing ts with
  | nil => cases ts with
    | nil => rfl
    | cons t ts => simp at h
  | cons s ss ih => cases ts with
    | nil => simp at h
    | cons t ts =>
      simp only [List.map_cons, List.cons.injEq] at h
      have h1 : s.ls = t.ls := by have := congrArg Prod.fst h.1; exact this
      simp only [lets, h1, ih ts h.2]
end Go.Proofs.Ytbkmdgceobilkaa
