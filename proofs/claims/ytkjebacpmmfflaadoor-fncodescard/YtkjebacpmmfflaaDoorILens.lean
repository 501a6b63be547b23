/-
  LensOk of the model: sums over lengths.
-/
import Derived.Test.YtkjebacpmmfflaaDoorISum
namespace Go.Proofs.YtkjebacpmmfflaaDoor
open Go.RowKit
set_option linter.unusedVariables false

/-- What a code takes of 2^12. -/
def share (z : Int) : Int := if 0 < z then 2 ^ (12 - z).toNat else 0
theorem pow_bnd (n : Nat) (h : n ≤ 12) : (1 : Int) ≤ 2 ^ n ∧ (2 : Int) ^ n ≤ 4096 := by
  have h1 : 1 ≤ 2 ^ n := Nat.pow_pos (by omega)
  have h2 : 2 ^ n ≤ 2 ^ 12 := Nat.pow_le_pow_right (by omega) h
  have e : ((2 : Int) ^ n) = ((2 ^ n : Nat) : Int) := by simp
  rw [e]
  omega
theorem share_bnd (z : Int) : 0 ≤ share z ∧ share z ≤ 4096 := by
  unfold share
  split
  · have := pow_bnd (12 - z).toNat (by omega); omega
  · omega
theorem wrapPow (n : Nat) (h : n ≤ 12) : wrap64 (2 ^ n) = 2 ^ n := by
  have := pow_bnd n h
  generalize (2 : Int) ^ n = y at *
  exact IntWalk.wrap64_in _ (by omega)

/-- What LensOk tells. -/
def lensB (zs : List Int) : Bool := decide (1 ≤ zs.length ∧ zs.length ≤ 80 ∧ (∀ z ∈ zs, 0 ≤ z ∧ z ≤ 12) ∧ (sumF one zs = 1 ∧ sumF share zs = 2048 ∨ 1 < sumF one zs ∧ sumF share zs = 4096))
theorem lensB_bad {zs : List Int} {k : Nat} (hk : k < zs.length) (h : ¬ (0 ≤ zs.getD k 0 ∧ zs.getD k 0 ≤ 12)) : lensB zs = false := by
  simp only [lensB, decide_eq_false_iff_not]
  exact fun h' => h (h'.2.2.1 _ (getD_mem hk))
theorem lensB_len {zs : List Int} (h : ¬ (1 ≤ zs.length ∧ zs.length ≤ 80)) : lensB zs = false := by
  simp only [lensB, decide_eq_false_iff_not]
  exact fun h' => h ⟨h'.1, h'.2.1⟩
theorem lensB_all {zs : List Int} (h1 : 1 ≤ zs.length) (h2 : zs.length ≤ 80) (h : ∀ z ∈ zs.take zs.length, 0 ≤ z ∧ z ≤ 12) : lensB zs = decide (sumF one zs = 1 ∧ sumF share zs = 2048 ∨ 1 < sumF one zs ∧ sumF share zs = 4096) := by
  rw [List.take_length] at h
  simp only [lensB]
  apply decide_eq_decide.2
  exact ⟨fun h' => h'.2.2.2, fun h' => ⟨h1, h2, h, h'⟩⟩

set_option maxHeartbeats 800000 in
theorem l2full_any (a : Option Addr) (cap : Nat) (zs : List Int) (w : World) (hb : Ins w a zs) (h80 : zs.length ≤ 80) (hok : ∀ z ∈ zs, 0 ≤ z ∧ z ≤ 12) :
    Calls Tryd.prog 47 #[.slice a zs.length cap] w fun e w' => e = .returned (.int .i64 (sumF share zs)) ∧ w' = w := by
  have HOK : Hid (∀ z ∈ zs, 0 ≤ z ∧ z ≤ 12) := hok
  clear hok
  generalize hlen : zs.length = n at *
  have HL : Hid (zs.length = n) := hlen
  clear hlen
  go_enter Tryd.func47, Tryd.ntmps47
  go_wp2
  go_loop [3, 4] (fun x i => ∃ k : Nat, k ≤ n ∧ i = .int .i64 k ∧ x = .int .i64 (sumF share (zs.take k))) (fun _ i => n - (intOf i).toNat)
  case atStart => exact ⟨0, Nat.zero_le _, rfl, by simp [sumF]⟩
  case round =>
    obtain ⟨k, hk, rfl, rfl⟩ := hrel
    by_cases hlt : k < n
    · obtain ⟨b1, o1, rfl, hb1, hc1⟩ := hb.len_pos k (by rw [HL.out]; exact hlt)
      have hs1 := hc1 k (by rw [HL.out]; exact hlt)
      have g1 := HOK.out _ (getD_mem (k := k) (by rw [HL.out]; exact hlt))
      have hF := sumF_bnd share 4096 share_bnd (zs.take k)
      have hF2 : (zs.take k).length ≤ 80 := by rw [List.length_take, HL.out]; omega
      have HS : Hid (sumF share (zs.take (k + 1)) = sumF share (zs.take k) + share (zs.getD k 0)) := sumF_succ share zs k (by rw [HL.out]; exact hlt)
      clear hc1 hb
      generalize zs.getD k 0 = x at *
      generalize hFF : sumF share (zs.take k) = F at *
      have hFb : 0 ≤ F ∧ F ≤ 327680 := by omega
      clear hF hF2 hFF
      by_cases h3 : 0 < x
      · have hp := pow_bnd (12 - x).toNat (by omega)
        have hw := wrapPow (12 - x).toNat (by omega)
        have HP : Hid (share x = 2 ^ (12 - x).toNat) := by simp [Hid, share, h3]
        have HW : Hid (wrap64 (F + 2 ^ (12 - x).toNat) = F + 2 ^ (12 - x).toNat) := IntWalk.wrap64_in _ (by omega)
        clear hp
        have HWP : Hid _ := hw
        clear hw
        go_wp2
        go_round
        case rel => exact ⟨k + 1, by omega, by go_num, by rw [HS.out, HP.out, HWP.out, HW.out]⟩
        case measure => simp [intOf]; omega
      · have HP : Hid (share x = 0) := by simp [Hid, share, h3]
        go_wp2
        go_round
        case rel => exact ⟨k + 1, by omega, by go_num, by rw [HS.out, HP.out]; simp⟩
        case measure => simp [intOf]; omega
    · have hkn : k = n := by omega
      subst hkn
      have e : zs.take k = zs := List.take_of_length_le (by rw [HL.out]; exact Nat.le_refl _)
      rw [e]
      go_wp2
      go_ret
      exact ⟨rfl, rfl⟩

theorem lensB_ok {zs : List Int} (h : lensB zs = true) : 1 ≤ zs.length ∧ zs.length ≤ 80 ∧ ∀ z ∈ zs, 0 ≤ z ∧ z ≤ 12 := by
  simp only [lensB, decide_eq_true_eq] at h
  exact ⟨h.1, h.2.1, h.2.2.1⟩
end Go.Proofs.YtkjebacpmmfflaaDoor
