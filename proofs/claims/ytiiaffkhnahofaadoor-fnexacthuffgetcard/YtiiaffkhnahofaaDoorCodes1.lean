/-
  Codes by lengths: what both make of the symbols in order.
-/
import Derived.Test.YtiiaffkhnahofaaDoorSyms
namespace Go.Proofs.YtiiaffkhnahofaaDoor
open Go.RowKit
set_option linter.unusedVariables false

def zN (zs : List Int) (s : Int) : Nat := (zs.getD s.toNat 0).toNat
/-- The next code, the length that it has, the codes so far: behind one symbol more. -/
def cst (zs : List Int) (st : Nat × Nat × List Int) (s : Int) : Nat × Nat × List Int :=
  (st.1 * 2 ^ (zN zs s - st.2.1) + 1, zN zs s, st.2.2.set s.toNat ((st.1 * 2 ^ (zN zs s - st.2.1) : Nat) : Int))
def crun (zs l : List Int) : Nat × Nat × List Int := l.foldl (cst zs) (0, 0, List.replicate zs.length 0)
theorem crun_nil (zs : List Int) : crun zs [] = (0, 0, List.replicate zs.length 0) := rfl
theorem crun_snoc (zs l : List Int) (s : Int) : crun zs (l ++ [s]) = cst zs (crun zs l) s := by simp [crun, List.foldl_append]
theorem crun_len (zs l : List Int) : (crun zs l).2.2.length = zs.length := by
  have : ∀ (l : List Int) (st : Nat × Nat × List Int), (l.foldl (cst zs) st).2.2.length = st.2.2.length := by
    intro l
    induction l with
    | nil => intro st; rfl
    | cons s l ih => intro st; rw [List.foldl_cons, ih]; simp [cst]
  unfold crun
  rw [this]
  simp
def asc (zs l : List Int) : Prop := l.Pairwise (fun a b => zN zs a ≤ zN zs b)
theorem asc_same (zs : List Int) (m : Nat) (l : List Int) (h : ∀ a ∈ l, zN zs a = m) : asc zs l := by
  unfold asc
  induction l with
  | nil => exact List.Pairwise.nil
  | cons a l ih =>
    refine List.Pairwise.cons (fun b hb => ?_) (ih (fun x hx => h x (by simp [hx])))
    rw [h a (by simp), h b (by simp [hb])]
    exact Nat.le_refl _
theorem zN_at (zs : List Int) (L i : Nat) : ∀ a ∈ atL zs L i, zN zs a = L := by
  intro a ha
  obtain ⟨s, rfl, _, h⟩ := atL_mem zs L i a ha
  unfold zN
  rw [Int.toNat_natCast, h]
  simp
theorem zN_sb (zs : List Int) (l : Nat) : ∀ a ∈ sbL zs l, zN zs a ≤ l := by
  intro a ha
  obtain ⟨s, rfl, _, h1, h2⟩ := sbL_mem zs l a ha
  unfold zN
  rw [Int.toNat_natCast]
  omega
theorem asc_sb (zs : List Int) (l : Nat) : asc zs (sbL zs l) := by
  induction l with
  | zero => exact List.Pairwise.nil
  | succ l ih =>
    simp only [sbL]
    refine List.pairwise_append.2 ⟨ih, asc_same zs (l + 1) _ (zN_at zs (l + 1) _), fun a ha b hb => ?_⟩
    rw [zN_at zs (l + 1) _ b hb]
    have := zN_sb zs l a ha
    omega
theorem asc_part (zs : List Int) (l i : Nat) : asc zs (sbL zs l ++ atL zs (l + 1) i) := by
  refine List.pairwise_append.2 ⟨asc_sb zs l, asc_same zs (l + 1) _ (zN_at zs (l + 1) _), fun a ha b hb => ?_⟩
  rw [zN_at zs (l + 1) _ b hb]
  have := zN_sb zs l a ha
  omega
theorem take_snoc (l : List Int) (t : Nat) (h : t < l.length) : l.take (t + 1) = l.take t ++ [l.getD t 0] := by
  rw [List.take_succ_eq_append_getElem h]
  simp [List.getD_eq_getElem?_getD, List.getElem?_eq_getElem h]
theorem cr_step (nx ln z t : Nat) (hl : ln ≤ z) (h : nx ≤ t * 2 ^ ln) : nx * 2 ^ (z - ln) ≤ t * 2 ^ z ∧ nx * 2 ^ (z - ln) + 1 ≤ (t + 1) * 2 ^ z := by
  have h1 : nx * 2 ^ (z - ln) ≤ t * 2 ^ ln * 2 ^ (z - ln) := Nat.mul_le_mul_right _ h
  rw [Nat.mul_assoc, ← Nat.pow_add, show ln + (z - ln) = z from by omega] at h1
  have h2 : 0 < 2 ^ z := Nat.pow_pos (by omega)
  rw [Nat.add_mul]
  omega
theorem cr_bound (zs l : List Int) (h : asc zs l) (t : Nat) (ht : t ≤ l.length) : (crun zs (l.take t)).1 ≤ t * 2 ^ (crun zs (l.take t)).2.1 ∧ (t < l.length → (crun zs (l.take t)).2.1 ≤ zN zs (l.getD t 0)) := by
  induction t with
  | zero => simp [crun_nil]
  | succ t ih =>
    obtain ⟨i1, i2⟩ := ih (by omega)
    rw [take_snoc l t (by omega), crun_snoc]
    simp only [cst]
    refine ⟨(cr_step _ _ _ t (i2 (by omega)) i1).2, fun ht2 => ?_⟩
    have hp := List.pairwise_iff_getElem.1 h t (t + 1) (by omega) ht2 (by omega)
    simpa [List.getD_eq_getElem?_getD, List.getElem?_eq_getElem (show t < l.length by omega), List.getElem?_eq_getElem ht2] using hp
theorem cr_full (zs l : List Int) (h : asc zs l) : (crun zs l).1 ≤ l.length * 2 ^ (crun zs l).2.1 := by
  have := (cr_bound zs l h l.length (Nat.le_refl _)).1
  rw [List.take_length] at this
  exact this
theorem cr_ln (zs l : List Int) (m : Nat) (h : ∀ a ∈ l, zN zs a ≤ m) : (crun zs l).2.1 ≤ m := by
  by_cases h0 : l = []
  · subst h0; simp [crun_nil]
  · have hl : 0 < l.length := List.length_pos_iff.2 h0
    have e : l = l.take (l.length - 1) ++ [l.getD (l.length - 1) 0] := by
      rw [← take_snoc l (l.length - 1) (by omega), show l.length - 1 + 1 = l.length from by omega, List.take_length]
    rw [e, crun_snoc]
    simp only [cst]
    exact h _ (getD_mem (by omega))
theorem crun_rng (zs l : List Int) (h : asc zs l) (hb : ∀ a ∈ l, zN zs a ≤ 12) (hl : l.length ≤ 2000) : ∀ z ∈ (crun zs l).2.2, -9223372036854775808 ≤ z ∧ z ≤ 9223372036854775807 := by
  have key : ∀ t, t ≤ l.length → ∀ z ∈ (crun zs (l.take t)).2.2, 0 ≤ z ∧ z ≤ 8192000 := by
    intro t
    induction t with
    | zero => intro _ z hz; simp [crun_nil] at hz; omega
    | succ t ih =>
      intro ht z hz
      rw [take_snoc l t (by omega), crun_snoc] at hz
      simp only [cst] at hz
      rcases List.mem_or_eq_of_mem_set hz with hz | rfl
      · exact ih (by omega) z hz
      · obtain ⟨b1, b2⟩ := cr_bound zs l h t (by omega)
        have b3 := (cr_step _ _ _ t (b2 (by omega)) b1).1
        have b4 := hb _ (getD_mem (zs := l) (k := t) (by omega))
        have b5 : 2 ^ zN zs (l.getD t 0) ≤ 2 ^ 12 := Nat.pow_le_pow_right (by omega) b4
        have b6 : t * 2 ^ zN zs (l.getD t 0) ≤ 2000 * 2 ^ 12 := Nat.mul_le_mul (by omega) b5
        omega
  intro z hz
  have := key l.length (Nat.le_refl _) z (by rw [List.take_length]; exact hz)
  omega
end Go.Proofs.YtiiaffkhnahofaaDoor
