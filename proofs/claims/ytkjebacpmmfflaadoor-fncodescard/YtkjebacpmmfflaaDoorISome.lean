/-
  How many are there, in the model.
-/
import Derived.Test.YtkjebacpmmfflaaDoorISum
namespace Go.Proofs.YtkjebacpmmfflaaDoor
open Go.RowKit
set_option linter.unusedVariables false

set_option maxHeartbeats 800000 in
theorem l2some_any (a : Option Addr) (cap : Nat) (cs : List Int) (w : World) (hb : Ins w a cs) (hn : cs.length ≤ 80) :
    Calls Tryd.prog 36 #[.slice a cs.length cap] w fun e w' => e = .returned (.int .i64 (sumF one cs)) ∧ w' = w := by
  generalize hlen : cs.length = n at *
  have HL : Hid (cs.length = n) := hlen
  clear hlen
  go_enter Tryd.func36, Tryd.ntmps36
  go_wp2
  go_loop [3, 4] (fun x i => ∃ k : Nat, k ≤ n ∧ i = .int .i64 k ∧ x = .int .i64 (sumF one (cs.take k))) (fun _ i => n - (intOf i).toNat)
  case atStart => exact ⟨0, Nat.zero_le _, rfl, by simp [sumF]⟩
  case round =>
    obtain ⟨k, hk, rfl, rfl⟩ := hrel
    by_cases hlt : k < n
    · obtain ⟨b1, o1, rfl, hb1, hc1⟩ := hb.len_pos k (by rw [HL.out]; exact hlt)
      have hs1 := hc1 k (by rw [HL.out]; exact hlt)
      have g1 := getD_rngI hb.1 k
      have hF := sumF_bnd one 1 one_bnd (cs.take k)
      have hF2 : (cs.take k).length ≤ 80 := by rw [List.length_take, HL.out]; omega
      have HS : Hid (sumF one (cs.take (k + 1)) = sumF one (cs.take k) + one (cs.getD k 0)) := sumF_succ one cs k (by rw [HL.out]; exact hlt)
      clear hc1 hb
      generalize cs.getD k 0 = x at *
      generalize hFF : sumF one (cs.take k) = F at *
      have hFb : 0 ≤ F ∧ F ≤ 80 := by omega
      clear hF hF2 hFF
      by_cases h5 : 0 < x
      · have HP : Hid (one x = 1) := by simp [Hid, one, h5]
        go_wp2
        go_round
        case rel => exact ⟨k + 1, by omega, by go_num, by rw [HS.out, HP.out]⟩
        case measure => simp [intOf]; omega
      · have HP : Hid (one x = 0) := by simp [Hid, one, h5]
        go_wp2
        go_round
        case rel => exact ⟨k + 1, by omega, by go_num, by rw [HS.out, HP.out]; simp⟩
        case measure => simp [intOf]; omega
    · have hkn : k = n := by omega
      subst hkn
      have e : cs.take k = cs := List.take_of_length_le (by rw [HL.out]; exact Nat.le_refl _)
      rw [e]
      go_wp2
      go_ret
      exact ⟨rfl, rfl⟩

end Go.Proofs.YtkjebacpmmfflaaDoor
