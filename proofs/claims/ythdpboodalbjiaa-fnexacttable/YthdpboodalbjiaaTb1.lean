/-
  markCellS and heldCellS of the law.
-/
import Derived.Test.YthdpboodalbjiaaTb0
namespace Go.Proofs.Ythdpboodalbjiaa
open Go.RowKit
set_option linter.unusedVariables false

theorem marksI_rng (k : Int) (n : Nat) (h0 : 0 ≤ k) (h1 : k ≤ 2097152) (hn : n ≤ 4194304) : ∀ z ∈ marksI k n, -9223372036854775808 ≤ z ∧ z ≤ 9223372036854775807 := by
  intro z hz
  obtain ⟨i, hi, rfl⟩ := List.getElem_of_mem hz
  have hi' : i < n := by rw [marksI_len] at hi; exact hi
  have := marksI_get k n i hi'
  rw [List.getD_eq_getElem?_getD, List.getElem?_eq_getElem hi] at this
  simp at this
  omega
theorem marks3 (k : Int) (fs : List Int) (m : Nat) (h : m + 3 ≤ fs.length) : (((marksI k m ++ fs.drop m).set m (k + m)).set (m + 1) (k + m + 1)).set (m + 2) (k + m + 2) = marksI k (m + 3) ++ fs.drop (m + 3) := by
  rw [marksI_step k fs m (by omega)]
  have e1 : k + m + 1 = k + ((m + 1 : Nat) : Int) := by omega
  have e2 : k + m + 2 = k + ((m + 2 : Nat) : Int) := by omega
  rw [e1, marksI_step k fs (m + 1) (by omega), e2, marksI_step k fs (m + 2) (by omega)]

set_option maxRecDepth 20000 in
set_option maxHeartbeats 1600000 in
theorem markCellS_arr (a : Option Addr) (B U cap n : Nat) (fs : List Int) (k : Int) (w : World) (h : ArI w B U a fs) (hl : fs.length = n * 3) (hn : n ≤ 1048576) (h0 : 0 ≤ k) (h1 : k ≤ 2097152) :
    Calls Try.prog 20 #[.slice a n cap, .int .i64 k] w fun e w' => e = .returned (.int .i64 (k + (n * 3 : Nat))) ∧ ArI w' B U a (marksI k (n * 3)) ∧ Only (rowOf a) w w' := by
  have HMR : Hid (∀ z ∈ marksI k (n * 3), -9223372036854775808 ≤ z ∧ z ≤ 9223372036854775807) := marksI_rng k (n * 3) h0 h1 (by omega)
  rcases h.2 with ⟨rfl, rfl⟩ | ⟨g, T, rfl, g1, g2, h⟩
  · obtain rfl : n = 0 := by simp at hl; omega
    go_enter Try.func20, Try.ntmps20
    go_wp2
    refine wp_loop_rounds 1 ?_
    rw [rounds_succ]
    go_wp2
    go_ret
    exact ⟨by simp, ⟨by simp [marksI], .inl ⟨rfl, rfl⟩⟩, Only.refl _ _⟩
  · have HL : Hid (fs.length = n * 3) := hl
    clear hl
    have HO : Hid (w.heap[g]? = some (.cells (fs.map (Value.int .i64)).toArray T (0, 0))) := h
    clear h
    go_enter Try.func20, Try.ntmps20
    go_wp2
    go_loopw [1, 5] (fun q i wr => ∃ (j : Nat) (y : Int), j ≤ n ∧ i = .int .i64 j ∧ q = .int .i64 y ∧ y = k + (j * 3 : Nat) ∧ wr.heap[g]? = some (.cells ((marksI k (j * 3) ++ fs.drop (j * 3)).map (Value.int .i64)).toArray T (0, 0)) ∧ Only (· = g) w wr) (fun _ i _ => n - (intOf i).toNat)
    case atStart => exact ⟨0, k, Nat.zero_le _, rfl, rfl, by simp, by simpa [marksI] using HO.out, Only.refl _ _⟩
    case round =>
      obtain ⟨j, y, hj, rfl, rfl, hy, hown, honly⟩ := hrel
      have HY : Hid (y = k + (j * 3 : Nat)) := hy
      have hyb : 0 ≤ y ∧ y ≤ 6000000 := by omega
      by_cases hlt : j < n
      · have hl : (marksI k (j * 3) ++ fs.drop (j * 3)).length = n * 3 := by rw [List.length_append, marksI_len, List.length_drop, HL.out]; omega
        have c0 := arr_cell hown (j * 3) (by omega)
        have c1 := arr_cell hown (j * 3 + 1) (by omega)
        have c2 := arr_cell hown (j * 3 + 2) (by omega)
        have f0 := frozen_of_row wr _ (j * 3) _ _ hown
        have f1 := frozen_of_row wr _ (j * 3 + 1) _ _ hown
        have f2 := frozen_of_row wr _ (j * 3 + 2) _ _ hown
        have R : (((wr.setCell ⟨g, j * 3, none⟩ (.int .i64 y)).setCell ⟨g, j * 3 + 1, none⟩ (.int .i64 (y + 1))).setCell ⟨g, j * 3 + 2, none⟩ (.int .i64 (y + 1 + 1))).heap[g]? = some (.cells ((marksI k ((j + 1) * 3) ++ fs.drop ((j + 1) * 3)).map (Value.int .i64)).toArray T (0, 0)) := by
          rw [heap_setCell_same _ _ (j * 3 + 2) _ _ _ (heap_setCell_same _ _ (j * 3 + 1) _ _ _ (heap_setCell_same _ _ (j * 3) _ _ _ hown)), show (j + 1) * 3 = j * 3 + 3 from by omega, ← marks3 k fs (j * 3) (by rw [HL.out]; omega), hy]
          simp [List.map_set, Int.add_assoc]
        have HR : Hid _ := R
        have HB : Hid (Only (· = g) w (((wr.setCell ⟨g, j * 3, none⟩ (.int .i64 y)).setCell ⟨g, j * 3 + 1, none⟩ (.int .i64 (y + 1))).setCell ⟨g, j * 3 + 2, none⟩ (.int .i64 (y + 1 + 1)))) := ((honly.setCell (.inl rfl) _).setCell (.inl rfl) _).setCell (.inl rfl) _
        generalize (marksI k (j * 3) ++ fs.drop (j * 3)).getD (j * 3) 0 = o0 at *
        generalize (marksI k (j * 3) ++ fs.drop (j * 3)).getD (j * 3 + 1) 0 = o1 at *
        generalize (marksI k (j * 3) ++ fs.drop (j * 3)).getD (j * 3 + 2) 0 = o2 at *
        clear R hown honly hl hy
        go_wp2
        go_roundw
        case rel => exact ⟨j + 1, y + 1 + 1 + 1, by omega, by go_num, by go_num, by rw [HY.out]; omega, HR.out, HB.out⟩
        case measure => simp [intOf]; omega
      · have hjn : j = n := by omega
        subst hjn
        have hown' := hown
        rw [List.drop_of_length_le (by rw [HL.out]; exact Nat.le_refl _), List.append_nil] at hown'
        have HF : Hid _ := hown'
        clear hown hown' hy
        go_wp2
        go_ret
        exact ⟨by rw [← HY.out]; rfl, ⟨HMR.out, .inr ⟨g, T, rfl, g1, g2, HF.out⟩⟩, honly.mono (fun k _ hk => ⟨_, rfl, hk.symm⟩)⟩

set_option maxRecDepth 20000 in
set_option maxHeartbeats 1600000 in
theorem heldCellS_any (a : Option Addr) (cap n : Nat) (k : Int) (w : World) (h : Ins w a (marksI k (n * 3))) (hn : n ≤ 1048576) (h0 : 0 ≤ k) (h1 : k ≤ 2097152) :
    Calls Try.prog 21 #[.slice a n cap, .int .i64 k] w fun e w' => e = .returned (.int .i64 (k + (n * 3 : Nat))) ∧ w' = w := by
  have HB : Hid (Ins w a (marksI k (n * 3))) := h
  clear h
  go_enter Try.func21, Try.ntmps21
  go_wp2
  go_loop [1, 5] (fun q i => ∃ (j : Nat) (y : Int), j ≤ n ∧ i = .int .i64 j ∧ q = .int .i64 y ∧ y = k + (j * 3 : Nat)) (fun _ i => n - (intOf i).toNat)
  case atStart => exact ⟨0, k, Nat.zero_le _, rfl, rfl, by simp⟩
  case round =>
    obtain ⟨j, y, hj, rfl, rfl, hy⟩ := hrel
    have HY : Hid (y = k + (j * 3 : Nat)) := hy
    have hyb : 0 ≤ y ∧ y ≤ 6000000 := by omega
    by_cases hlt : j < n
    · have hml := marksI_len k (n * 3)
      obtain ⟨b1, o1, rfl, hb1, hc1⟩ := HB.out.len_pos (j * 3) (by omega)
      have c0 := hc1 (j * 3) (by omega)
      have c1 := hc1 (j * 3 + 1) (by omega)
      have c2 := hc1 (j * 3 + 2) (by omega)
      rw [marksI_get k _ _ (by omega)] at c0 c1 c2
      rw [show k + ((j * 3 : Nat) : Int) = y from by omega] at c0
      rw [show k + ((j * 3 + 1 : Nat) : Int) = y + 1 from by omega, ← Nat.add_assoc] at c1
      rw [show k + ((j * 3 + 2 : Nat) : Int) = y + 1 + 1 from by omega, ← Nat.add_assoc] at c2
      have n0 : (y != y) = false := by simp
      have n1 : (y + 1 != y + 1) = false := by simp
      have n2 : (y + 1 + 1 != y + 1 + 1) = false := by simp
      clear hc1 hml hy
      go_wp2
      go_round
      case rel => exact ⟨j + 1, y + 1 + 1 + 1, by omega, by go_num, by go_num, by rw [HY.out]; omega⟩
      case measure => simp [intOf]; omega
    · have hjn : j = n := by omega
      subst hjn
      clear hy
      go_wp2
      go_ret
      have e : k + (j : Int) * 3 = y := by have := HY.out; omega
      rw [e]
      exact ⟨rfl, rfl⟩
end Go.Proofs.Ythdpboodalbjiaa
