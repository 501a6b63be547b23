/-
  What writing marksI into a row of numbers does, and that they are found again.
-/
import Derived.Test.YtpoonklhdkhdcaaIBase
namespace Go.Proofs.Ytpoonklhdkhdcaa
open Go.RowKit
set_option linter.unusedVariables false

/-- Marks from k on. -/
def marksI (k : Int) : Nat → List Int
  | 0 => []
  | n + 1 => marksI k n ++ [k + n]
theorem marksI_len (k : Int) (n : Nat) : (marksI k n).length = n := by
  induction n with
  | zero => rfl
  | succ n ih => simp [marksI, ih]
theorem marksI_get (k : Int) (n i : Nat) (h : i < n) : (marksI k n).getD i 0 = k + i := by
  induction n with
  | zero => omega
  | succ n ih =>
    simp only [marksI, List.getD_eq_getElem?_getD, List.getElem?_append, marksI_len]
    by_cases hi : i < n
    · rw [if_pos hi, ← List.getD_eq_getElem?_getD]; exact ih hi
    · have : i = n := by omega
      subst this
      simp
theorem marksI_step (k : Int) (zs : List Int) (j : Nat) (h : j < zs.length) : (marksI k j ++ zs.drop j).set j (k + j) = marksI k (j + 1) ++ zs.drop (j + 1) := by
  rw [List.set_append_right _ _ (by rw [marksI_len]; exact Nat.le_refl _), marksI_len, Nat.sub_self, List.drop_eq_getElem_cons h, List.set_cons_zero]
  simp [marksI]

set_option maxHeartbeats 400000 in
theorem markIntS_own (B g cap : Nat) (zs : List Int) (k : Int) (w : World) (h : OwI w B g cap zs) (hn : zs.length ≤ 2097152) (h0 : 0 ≤ k) (h1 : k ≤ 4194304) :
    Calls Try.prog 8 #[.slice (some ⟨g, 0, none⟩) zs.length cap, .int .i64 k] w fun e w' => e = .returned (.int .i64 (k + zs.length)) ∧ OwI w' B g cap (marksI k zs.length) ∧ Only (· = g) w w' := by
  generalize hlen : zs.length = n at *
  have HL : Hid (zs.length = n) := hlen
  clear hlen
  have HO : Hid (OwI w B g cap zs) := h
  clear h
  go_enter Try.func8, Try.ntmps8
  go_wp2
  go_loopw [1, 5] (fun q i wr => ∃ j : Nat, j ≤ n ∧ i = .int .i64 j ∧ q = .int .i64 (k + j) ∧ OwI wr B g cap (marksI k j ++ zs.drop j) ∧ Only (· = g) w wr) (fun _ i _ => n - (intOf i).toNat)
  case atStart => exact ⟨0, Nat.zero_le _, rfl, by simp, by simpa [marksI] using HO.out, Only.refl _ _⟩
  case round =>
    obtain ⟨j, hj, rfl, rfl, hown, honly⟩ := hrel
    by_cases hlt : j < n
    · have hl : (marksI k j ++ zs.drop j).length = n := by rw [List.length_append, marksI_len, List.length_drop, HL.out]; omega
      have hdst := hown.cell j (by omega)
      have hfz := hown.frozen j
      have R := hown.store j (k + j) (by omega)
      rw [marksI_step k zs j (by rw [HL.out]; exact hlt)] at R
      have HR : Hid (OwI (wr.setCell ⟨g, j, none⟩ (.int .i64 (k + j))) B g cap (marksI k (j + 1) ++ zs.drop (j + 1))) := R
      have HB : Hid (Only (· = g) w (wr.setCell ⟨g, j, none⟩ (.int .i64 (k + j)))) := honly.setCell (.inl rfl) _
      generalize (marksI k j ++ zs.drop j).getD j 0 = old at *
      clear R hown honly hl
      go_wp2
      go_roundw
      case rel => exact ⟨j + 1, by omega, by go_num, by go_num, HR.out, HB.out⟩
      case measure => simp [intOf]; omega
    · have hjn : j = n := by omega
      subst hjn
      have hown' := hown
      rw [List.drop_of_length_le (by rw [HL.out]; exact Nat.le_refl _), List.append_nil] at hown'
      have HF : Hid (OwI wr B g cap (marksI k j)) := hown'
      clear hown hown'
      go_wp2
      go_ret
      exact ⟨rfl, HF.out, honly⟩

theorem markIntS_any (a : Option Addr) (B U cap : Nat) (zs : List Int) (k : Int) (w : World) (h : MinI w B U a cap zs) (hn : zs.length ≤ 2097152) (h0 : 0 ≤ k) (h1 : k ≤ 4194304) :
    Calls Try.prog 8 #[.slice a zs.length cap, .int .i64 k] w fun e w' => e = .returned (.int .i64 (k + zs.length)) ∧ MinI w' B U a cap (marksI k zs.length) ∧ Only (rowOf a) w w' := by
  rcases h with ⟨rfl, rfl, rfl⟩ | ⟨g, rfl, g1, g2, h⟩
  · go_enter Try.func8, Try.ntmps8
    go_wp2
    refine wp_loop_rounds 1 ?_
    rw [rounds_succ]
    go_wp2
    go_ret
    exact ⟨by simp, .inl ⟨rfl, rfl, rfl⟩, Only.refl _ _⟩
  · refine (markIntS_own B g cap zs k w h hn h0 h1).mono ?_
    rintro e w' ⟨rfl, ho, hy⟩
    exact ⟨rfl, .inr ⟨g, rfl, g1, g2, ho⟩, hy.mono (fun k _ hk => ⟨_, rfl, hk.symm⟩)⟩
end Go.Proofs.Ytpoonklhdkhdcaa
