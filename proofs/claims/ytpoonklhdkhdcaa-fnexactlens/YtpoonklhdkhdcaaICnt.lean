/-
  CountsOk of the model.
-/
import Derived.Test.YtpoonklhdkhdcaaICntI
namespace Go.Proofs.Ytpoonklhdkhdcaa
open Go.RowKit
set_option linter.unusedVariables false

set_option maxHeartbeats 800000 in
theorem specCnt_any (a : Option Addr) (cap : Nat) (zs : List Int) (w : World) (hb : Ins w a zs) (hn : zs.length ≤ 281474976710656) :
    Calls Try.prog 10 #[.slice a zs.length cap] w fun e w' => e = .returned (.bool (cntB zs)) ∧ ∃ n, w' = w.drewN n := by
  by_cases h1 : 1 ≤ zs.length
  · by_cases h2 : zs.length ≤ 80
    · generalize hlen : zs.length = n at *
      have HL : Hid (zs.length = n) := hlen
      clear hlen
      go_enter Try.func10, Try.ntmps10
      go_wp2
      go_loopw [3] (fun i wr => ∃ k m : Nat, k ≤ n ∧ i = .int .i64 k ∧ wr = w.drewN m ∧ ∀ z ∈ zs.take k, 0 ≤ z ∧ z ≤ 1000000) (fun i _ => n - (intOf i).toNat)
      case atStart => exact ⟨0, 0, Nat.zero_le _, rfl, rfl, by simp⟩
      case round =>
        obtain ⟨k, m, hk, rfl, rfl, htk⟩ := hrel
        have HT : Hid (∀ z ∈ zs.take k, 0 ≤ z ∧ z ≤ 1000000) := htk
        clear htk
        by_cases hlt : k < n
        · obtain ⟨b1, o1, rfl, hb1, hc1⟩ := hb.len_pos k (by rw [HL.out]; exact hlt)
          have hs1 := hc1 k (by rw [HL.out]; exact hlt)
          have g1 := getD_rngI hb.1 k
          clear hc1 hb
          generalize hx : zs.getD k 0 = x at *
          have HX : Hid (zs.getD k 0 = x) := hx
          clear hx
          by_cases h3 : 0 ≤ x
          · by_cases h4 : x ≤ 1000000
            · have HT' : Hid (∀ z ∈ zs.take (k + 1), 0 ≤ z ∧ z ≤ 1000000) := all_take_succ HT.out (by rw [HL.out]; exact hlt) (by rw [HX.out]; exact ⟨h3, h4⟩)
              go_wp2
              go_roundw
              case rel => exact ⟨k + 1, _, by omega, by go_num, rfl, HT'.out⟩
              case measure => simp [intOf]; omega
            · have HN : Hid (cntB zs = false) := cntB_bad (by rw [HL.out]; exact hlt) (by rw [HX.out]; omega)
              go_wp2
              go_ret
              exact ⟨by simp [HN.out], _, rfl⟩
          · have HN : Hid (cntB zs = false) := cntB_bad (by rw [HL.out]; exact hlt) (by rw [HX.out]; omega)
            go_wp2
            go_ret
            exact ⟨by simp [HN.out], _, rfl⟩
        · have hkn : k = n := by omega
          subst hkn
          have HE : Hid (cntB zs = true) := cntB_all (by rw [HL.out]; exact h1) (by rw [HL.out]; exact h2) (by rw [HL.out]; exact HT.out)
          go_wp2
          go_ret
          exact ⟨by simp [HE.out], _, rfl⟩
    · rw [cntB_len (by omega)]
      go_enter Try.func10, Try.ntmps10
      go_wp2
      go_ret
      exact ⟨rfl, 0, rfl⟩
  · rw [cntB_len (by omega)]
    go_enter Try.func10, Try.ntmps10
    go_wp2
    go_ret
    exact ⟨rfl, 0, rfl⟩
end Go.Proofs.Ytpoonklhdkhdcaa
