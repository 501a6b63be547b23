/-
  laws.toSeq and laws.toSeqS copy sequences into memory of their own.
-/
import Derived.Test.YtbkmdgceobilkaaSqP
import Derived.Test.YtbkmdgceobilkaaCopy
namespace Go.Proofs.Ytbkmdgceobilkaa
open Go.RowKit
set_option linter.unusedVariables false

theorem Try.infoSeq : (Try.prog.info? 43).map (fun i => (i.zero, i.size, i.bytes)) = some (some (.agg #[.slice none 0 0, .int .i64 0, .int .i64 0]), 3, 40) := by kernel_rfl
theorem made_seqs (n : Nat) : (madeCells (Value.agg #[.slice none 0 0, .int .i64 0, .int .i64 0]).cells (n * 3)).toList = (List.replicate n dq).flatMap Sq.cells := by
  apply List.ext_getElem?
  intro i
  by_cases hi : i < n * 3
  · have hd : i / 3 < (List.replicate n dq).length := by simp; omega
    have hg : (List.replicate n dq).getD (i / 3) dq = dq := by
      rw [List.getD_eq_getElem?_getD, List.getElem?_replicate]; split <;> rfl
    obtain ⟨f0, f1, f2⟩ := flat_get (List.replicate n dq) (i / 3) hd
    rw [hg] at f0 f1 f2
    simp only [madeCells, Array.toList_map, Array.toList_range, List.getElem?_map, List.getElem?_range hi, Option.map_some]
    have h3 : i % 3 = 0 ∨ i % 3 = 1 ∨ i % 3 = 2 := by omega
    rcases h3 with h3 | h3 | h3
    · rw [show i / 3 * 3 = i from by omega] at f0
      rw [f0]
      simp [Value.cells, h3, dq]
    · rw [show i / 3 * 3 + 1 = i from by omega] at f1
      rw [f1]
      simp [Value.cells, h3, dq]
    · rw [show i / 3 * 3 + 2 = i from by omega] at f2
      rw [f2]
      simp [Value.cells, h3, dq]
  · rw [List.getElem?_eq_none (by simp [madeCells]; omega), List.getElem?_eq_none (by rw [flat_len]; simp; omega)]

theorem getD_app_repl (bs : List Sq) (m i : Nat) (h : bs.length ≤ i) : (bs ++ List.replicate m dq).getD i dq = dq := by
  rw [List.getD_eq_getElem?_getD, List.getElem?_append_right h, List.getElem?_replicate]; split <;> rfl
theorem set_app_repl (bs : List Sq) (m k : Nat) (s : Sq) (h : bs.length = k) (hk : 0 < m) : (bs ++ List.replicate m dq).set k s = (bs ++ [s]) ++ List.replicate (m - 1) dq := by
  rw [List.set_append_right _ _ (by omega), h, Nat.sub_self, show m = (m - 1) + 1 from by omega, List.replicate_succ, List.set_cons_zero, List.append_assoc]
  rfl
theorem ct_take_succ (ss : List Sq) (k : Nat) (h : k < ss.length) : (ss.take (k + 1)).map Sq.ct = (ss.take k).map Sq.ct ++ [(ss.getD k dq).ct] := by
  rw [List.take_succ_eq_append_getElem h, List.map_append]
  simp [List.getD_eq_getElem?_getD, List.getElem?_eq_getElem h]
end Go.Proofs.Ytbkmdgceobilkaa
