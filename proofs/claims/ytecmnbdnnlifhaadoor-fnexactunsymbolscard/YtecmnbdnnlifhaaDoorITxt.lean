/-
  What a text is, for the model.
-/
import Derived.Test.YtecmnbdnnlifhaaDoorITxtI
namespace Go.Proofs.YtecmnbdnnlifhaaDoor
open Go.RowKit
set_option linter.unusedVariables false

set_option maxHeartbeats 800000 in
theorem specTxt_any (a : Option Addr) (cap : Nat) (zs : List Int) (s : Int) (w : World) (hb : Ins w a zs) (hn : zs.length ≤ 281474976710656) :
    Calls Tryd.prog 35 #[.slice a zs.length cap, .int .i64 s] w fun e w' => e = .returned (.bool (txtB zs s)) ∧ w' = w := by
  by_cases h : 1 ≤ s ∧ s ≤ 80 ∧ zs.length ≤ 300
  · obtain ⟨h1, h2, h5⟩ := h
    generalize hlen : zs.length = n at *
    have HL : Hid (zs.length = n) := hlen
    clear hlen
    go_enter Tryd.func35, Tryd.ntmps35
    go_wp2
    go_loop [5] (fun i => ∃ k : Nat, k ≤ n ∧ i = .int .i64 k ∧ ∀ z ∈ zs.take k, 0 ≤ z ∧ z < s) (fun i => n - (intOf i).toNat)
    case atStart => exact ⟨0, Nat.zero_le _, rfl, by simp⟩
    case round =>
      obtain ⟨k, hk, rfl, htk⟩ := hrel
      have HT : Hid (∀ z ∈ zs.take k, 0 ≤ z ∧ z < s) := htk
      clear htk
      by_cases hlt : k < n
      · obtain ⟨b1, o1, rfl, hb1, hc1⟩ := hb.len_pos k (by rw [HL.out]; exact hlt)
        have hs1 := hc1 k (by rw [HL.out]; exact hlt)
        have g1 := getD_rngI hb.1 k
        clear hc1 hb
        generalize hx : zs.getD k 0 = x at *
        have HX : Hid (zs.getD k 0 = x) := hx
        clear hx
        by_cases h3 : 0 ≤ x
        · by_cases h4 : x < s
          · have HT' : Hid (∀ z ∈ zs.take (k + 1), 0 ≤ z ∧ z < s) := all_take_succ HT.out (by rw [HL.out]; exact hlt) (by rw [HX.out]; exact ⟨h3, h4⟩)
            go_wp2
            go_round
            case rel => exact ⟨k + 1, by omega, by go_num, HT'.out⟩
            case measure => simp [intOf]; omega
          · have HN : Hid (txtB zs s = false) := txtB_bad (by rw [HL.out]; exact hlt) (by rw [HX.out]; omega)
            go_wp2
            go_ret
            exact ⟨by simp [HN.out], rfl⟩
        · have HN : Hid (txtB zs s = false) := txtB_bad (by rw [HL.out]; exact hlt) (by rw [HX.out]; omega)
          go_wp2
          go_ret
          exact ⟨by simp [HN.out], rfl⟩
      · have hkn : k = n := by omega
        subst hkn
        have HE : Hid (txtB zs s = true) := txtB_all h1 h2 (by rw [HL.out]; exact h5) (by rw [HL.out]; exact HT.out)
        go_wp2
        go_ret
        exact ⟨by simp [HE.out], rfl⟩
  · rw [txtB_len h]
    go_enter Tryd.func35, Tryd.ntmps35
    by_cases c1 : s < 1
    · go_wp2
      go_ret
      exact ⟨rfl, rfl⟩
    · by_cases c2 : 80 < s
      · go_wp2
        go_ret
        exact ⟨rfl, rfl⟩
      · have c3 : 300 < zs.length := by omega
        go_wp2
        go_ret
        exact ⟨rfl, rfl⟩
end Go.Proofs.YtecmnbdnnlifhaaDoor
