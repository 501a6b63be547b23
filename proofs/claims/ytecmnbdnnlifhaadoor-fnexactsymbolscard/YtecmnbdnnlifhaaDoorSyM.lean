/-
  Symbols of sequences and the bits beside, as numbers.
-/
import Derived.Test.YtecmnbdnnlifhaaDoorBLen
import Derived.Test.YtecmnbdnnlifhaaDoorSqOk
import Derived.Test.YtecmnbdnnlifhaaDoorSqSz
namespace Go.Proofs.YtecmnbdnnlifhaaDoor
open Go.RowKit
set_option linter.unusedVariables false

/-- The class of a number from 1 on. -/
def cl (n : Nat) : Nat := bl n - 1
theorem cl_fact {n : Nat} (h1 : 1 ≤ n) (h : n < 256) : 2 ^ cl n ≤ n ∧ n < 2 ^ (cl n + 1) ∧ cl n ≤ 7 ∧ bl n = cl n + 1 := by
  have hb : 1 ≤ bl n := by unfold bl; rw [if_neg (by omega)]; omega
  have e : cl n + 1 = bl n := by unfold cl; omega
  refine ⟨bl_ge n (cl n) h (by unfold cl; omega), by rw [e]; exact bl_lt n h, by have := bl_le n h; unfold cl; omega, e.symm⟩
/-- Symbols, how many bits are beside, and these as a number. -/
abbrev SyT := List Int × Nat × Nat
def putL (st : SyT) (z : Int) : SyT := (st.1 ++ [z / 16], st.2.1 + 4, st.2.2 + (z % 16).toNat * 2 ^ st.2.1)
def putN (base n : Nat) (st : SyT) : SyT := (st.1 ++ [((base + cl n : Nat) : Int)], st.2.1 + cl n, st.2.2 + (n - 2 ^ cl n) * 2 ^ st.2.1)
def putLs (ls : List Int) (st : SyT) : SyT := ls.foldl putL st
def putQ (st : SyT) (s : Sq) : SyT := if s.n = 0 then putLs s.ls st else putN 28 s.d.toNat (putN 16 (s.n.toNat - 2) (putLs s.ls st))
def syOf (ss : List Sq) : SyT := ss.foldl putQ ([], 0, 0)
theorem putLs_take (ls : List Int) (st : SyT) (k : Nat) (h : k < ls.length) : putLs (ls.take (k + 1)) st = putL (putLs (ls.take k) st) (ls.getD k 0) := by
  unfold putLs
  rw [List.take_add_one, List.foldl_append, List.getD_eq_getElem?_getD, List.getElem?_eq_getElem h]
  rfl
theorem syOf_take (ss : List Sq) (k : Nat) (h : k < ss.length) : syOf (ss.take (k + 1)) = putQ (syOf (ss.take k)) (ss.getD k dq) := by
  unfold syOf
  rw [List.take_add_one, List.foldl_append, List.getD_eq_getElem?_getD, List.getElem?_eq_getElem h]
  rfl
theorem putLs_len (ls : List Int) (st : SyT) : (putLs ls st).1.length = st.1.length + ls.length ∧ (putLs ls st).2.1 = st.2.1 + 4 * ls.length := by
  unfold putLs
  induction ls generalizing st with
  | nil => simp
  | cons z t ih =>
    rw [List.foldl_cons]
    have := ih (putL st z)
    simp only [putL, List.length_append, List.length_cons, List.length_nil] at this ⊢
    omega
/-- Sequences that are right have few letters, and numbers that are in range. -/
theorem sqc_lets {ss : List Sq} (k m : Nat) (h : sqc ss k = some m) (hk : k ≤ ss.length) : lets (ss.take k) ≤ m ∧ ∀ j, j < k → (ss.getD j dq).n = 0 ∨ (3 ≤ (ss.getD j dq).n ∧ (ss.getD j dq).n ≤ 64 ∧ 1 ≤ (ss.getD j dq).d ∧ (ss.getD j dq).d ≤ 64) := by
  induction k generalizing m with
  | zero => exact ⟨by simp [lets], fun j hj => by omega⟩
  | succ k ih =>
    cases hm : sqc ss k with
    | none =>
      rw [sqc_none hm (k + 1) (by omega)] at h
      cases h
    | some m0 =>
      obtain ⟨i1, i2⟩ := ih m0 hm (by omega)
      rw [sqc_step hm] at h
      have hl := lets_take_succ ss k (by omega)
      by_cases ho : 64 < m0 + (ss.getD k dq).ls.length
      · rw [stp_over ho] at h
        cases h
      · by_cases h0 : (ss.getD k dq).n = 0
        · rw [stp_rest ho h0] at h
          split at h
          · simp only [Option.some.injEq] at h
            refine ⟨by omega, fun j hj => ?_⟩
            by_cases he : j = k
            · rw [he]; exact .inl h0
            · exact i2 j (by omega)
          · cases h
        · rw [stp_piece ho h0] at h
          split at h
          · rename_i hh
            simp only [Option.some.injEq] at h
            refine ⟨by omega, fun j hj => ?_⟩
            by_cases he : j = k
            · rw [he]; exact .inr (by omega)
            · exact i2 j (by omega)
          · cases h
theorem sqn_lets {ss : List Sq} (h : (sqn ss).isSome = true) : ss.length ≤ 40 ∧ lets ss ≤ 64 ∧ ∀ j, j < ss.length → (ss.getD j dq).n = 0 ∨ (3 ≤ (ss.getD j dq).n ∧ (ss.getD j dq).n ≤ 64 ∧ 1 ≤ (ss.getD j dq).d ∧ (ss.getD j dq).d ≤ 64) := by
  cases hs : sqn ss with
  | none => rw [hs] at h; cases h
  | some m =>
    unfold sqn at hs
    split at hs
    · cases hs
    · rename_i hl
      have := sqc_lets ss.length m hs (Nat.le_refl _)
      have hm := sqc_le hs
      rw [List.take_length] at this
      exact ⟨by omega, by omega, this.2⟩
theorem putQ_len (st : SyT) (s : Sq) (h : s.n = 0 ∨ (3 ≤ s.n ∧ s.n ≤ 64 ∧ 1 ≤ s.d ∧ s.d ≤ 64)) : (putQ st s).1.length ≤ st.1.length + s.ls.length + 2 ∧ (putQ st s).2.1 ≤ st.2.1 + 4 * s.ls.length + 14 := by
  have hp := putLs_len s.ls st
  unfold putQ
  split
  · omega
  · rename_i h0
    have hr := h.resolve_left h0
    have c1 := cl_fact (n := s.n.toNat - 2) (by omega) (by omega)
    have c2 := cl_fact (n := s.d.toNat) (by omega) (by omega)
    simp only [putN, List.length_append, List.length_cons, List.length_nil]
    omega
/-- How much there is. -/
theorem syOf_len {ss : List Sq} (h : ∀ j, j < ss.length → (ss.getD j dq).n = 0 ∨ (3 ≤ (ss.getD j dq).n ∧ (ss.getD j dq).n ≤ 64 ∧ 1 ≤ (ss.getD j dq).d ∧ (ss.getD j dq).d ≤ 64)) (k : Nat) (hk : k ≤ ss.length) : (syOf (ss.take k)).1.length ≤ lets (ss.take k) + 2 * k ∧ (syOf (ss.take k)).2.1 ≤ 4 * lets (ss.take k) + 14 * k := by
  induction k with
  | zero => simp [syOf, lets]
  | succ k ih =>
    have i := ih (by omega)
    have hl := lets_take_succ ss k (by omega)
    rw [syOf_take ss k (by omega)]
    have hq := putQ_len (syOf (ss.take k)) (ss.getD k dq) (h k (by omega))
    omega
theorem lets_take_le (ss : List Sq) (k : Nat) : lets (ss.take k) ≤ lets ss := by
  have h1 := lets_app (ss.take k) (ss.drop k)
  rw [List.take_append_drop] at h1
  omega
end Go.Proofs.YtecmnbdnnlifhaaDoor
