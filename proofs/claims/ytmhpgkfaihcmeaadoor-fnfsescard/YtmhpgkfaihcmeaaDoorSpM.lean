/-
  The places of a table: numbers.
-/
import Derived.Test.YtmhpgkfaihcmeaaDoorINormI
import Derived.Test.YtmhpgkfaihcmeaaDoorIBase
namespace Go.Proofs.YtmhpgkfaihcmeaaDoor
open Go.RowKit
set_option linter.unusedVariables false

/-- Each symbol, as often as its share says. -/
def fl : Nat → List Int → List Int
  | _, [] => []
  | i, z :: zs => List.replicate z.toNat (i : Int) ++ fl (i + 1) zs
theorem sum_nn {zs : List Int} (h : ∀ z ∈ zs, 0 ≤ z) (j : Nat) : 0 ≤ (zs.take j).sum := by
  induction zs generalizing j with
  | nil => simp
  | cons z zs ih =>
    cases j with
    | zero => simp
    | succ j =>
      have h1 := h z (by simp)
      have h2 := ih (fun y hy => h y (by simp [hy])) j
      simp only [List.take_succ_cons, List.sum_cons]
      omega
theorem fl_at (zs : List Int) : ∀ (i j k : Nat), (∀ z ∈ zs, 0 ≤ z) → j < zs.length → (k : Int) < zs.getD j 0 → (fl i zs).getD ((zs.take j).sum.toNat + k) 0 = ((i + j : Nat) : Int) := by
  induction zs with
  | nil => intro i j k _ hj; simp at hj
  | cons z zs ih =>
    intro i j k h hj hk
    cases j with
    | zero =>
      simp only [List.getD_cons_zero] at hk
      simp only [fl, List.take_zero, List.sum_nil, Int.toNat_zero, Nat.zero_add, Nat.add_zero]
      rw [List.getD_eq_getElem?_getD, List.getElem?_append_left (by rw [List.length_replicate]; omega), List.getElem?_replicate, if_pos (by omega)]
      rfl
    | succ j =>
      have h1 := h z (by simp)
      have h2 := sum_nn (fun y hy => h y (by simp [hy])) j (zs := zs)
      have := ih (i + 1) j k (fun y hy => h y (by simp [hy])) (by simpa using hj) (by simpa using hk)
      simp only [fl, List.take_succ_cons, List.sum_cons]
      rw [List.getD_eq_getElem?_getD, List.getElem?_append_right (by rw [List.length_replicate]; omega), List.length_replicate, ← List.getD_eq_getElem?_getD, show (z + (zs.take j).sum).toNat + k - z.toNat = (zs.take j).sum.toNat + k from by omega, this]
      congr 1
      omega

/-- The table of symbols when places have come, in their order. -/
def pl (F : List Int) (ps : List Nat) : List Int := ps.zipIdx.foldl (fun r pj => r.set pj.1 (F.getD pj.2 0)) (List.replicate 64 0)
theorem pl_snoc (F : List Int) (ps : List Nat) (x : Nat) : pl F (ps ++ [x]) = (pl F ps).set x (F.getD ps.length 0) := by
  unfold pl
  rw [List.zipIdx_append, List.foldl_append]
  simp
theorem pl_len (F : List Int) (ps : List Nat) : (pl F ps).length = 64 := by
  unfold pl
  generalize ps.zipIdx = l
  have : ∀ (l : List (Nat × Nat)) (r : List Int), r.length = 64 → (l.foldl (fun r pj => r.set pj.1 (F.getD pj.2 0)) r).length = 64 := by
    intro l
    induction l with
    | nil => intro r h; simpa using h
    | cons p l ih => intro r h; simp only [List.foldl_cons]; exact ih _ (by rw [List.length_set]; exact h)
  exact this l _ (by simp)
def plc (m : Nat) : List Nat := (List.range m).map fun j => 43 * j % 64
theorem plc_succ (m : Nat) : plc (m + 1) = plc m ++ [43 * m % 64] := by simp [plc, List.range_succ]
theorem plc_len (m : Nat) : (plc m).length = m := by simp [plc]

theorem made_rowI {w : World} {B g n : Nat} (hown : w.ownsRow B 3 1 (.slice (some ⟨g, 0, none⟩) n n) n (madeCells (Value.int .i64 0).cells (n * 1)).toList) : OwI w B g n (List.replicate n 0) := by
  refine ⟨?_, by intro z hz; simp at hz; omega⟩
  rw [made_zeroI] at hown
  simpa using hown

end Go.Proofs.YtmhpgkfaihcmeaaDoor
