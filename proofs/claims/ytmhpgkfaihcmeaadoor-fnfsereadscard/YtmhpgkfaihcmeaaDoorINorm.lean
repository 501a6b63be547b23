/-
  NormOk of the model.
-/
import Derived.Test.YtmhpgkfaihcmeaaDoorIBump
namespace Go.Proofs.YtmhpgkfaihcmeaaDoor
open Go.RowKit
set_option linter.unusedVariables false

set_option maxHeartbeats 800000 in
theorem specNormOk_any (a : Option Addr) (cap : Nat) (zs : List Int) (w : World) (hb : Ins w a zs) (hn : zs.length ≤ 281474976710656) :
    Calls Tryd.prog 16 #[.slice a zs.length cap] w fun e w' => e = .returned (.bool (normB zs)) ∧ w' = w := by
  by_cases h1 : 1 ≤ zs.length
  · by_cases h2 : zs.length ≤ 80
    · generalize hlen : zs.length = n at *
      have HL : Hid (zs.length = n) := hlen
      clear hlen
      go_enter Tryd.func16, Tryd.ntmps16
      go_wp2
      go_loop [3, 4] (fun x i => ∃ k : Nat, k ≤ n ∧ i = .int .i64 k ∧ x = .int .i64 (zs.take k).sum ∧ ∀ z ∈ zs.take k, 0 ≤ z ∧ z ≤ 64) (fun _ i => n - (intOf i).toNat)
      case atStart => exact ⟨0, Nat.zero_le _, rfl, by simp, by simp⟩
      case round =>
        obtain ⟨k, hk, rfl, rfl, htk⟩ := hrel
        have hF := sum_bnd htk
        have hF2 : (zs.take k).length ≤ 80 := by rw [List.length_take, HL.out]; omega
        have HT : Hid (∀ z ∈ zs.take k, 0 ≤ z ∧ z ≤ 64) := htk
        clear htk
        by_cases hlt : k < n
        · obtain ⟨b1, o1, rfl, hb1, hc1⟩ := hb.len_pos k (by rw [HL.out]; exact hlt)
          have hs1 := hc1 k (by rw [HL.out]; exact hlt)
          have g1 := getD_rngI hb.1 k
          have HS : Hid ((zs.take (k + 1)).sum = (zs.take k).sum + zs.getD k 0) := sum_succ zs k (by rw [HL.out]; exact hlt)
          clear hc1 hb
          generalize hx : zs.getD k 0 = x at *
          have HX : Hid (zs.getD k 0 = x) := hx
          clear hx
          generalize hFF : (zs.take k).sum = F at *
          have hFb : 0 ≤ F ∧ F ≤ 5120 := by omega
          clear hF hF2 hFF
          by_cases h3 : 0 ≤ x
          · by_cases h4 : x ≤ 64
            · have HT' : Hid (∀ z ∈ zs.take (k + 1), 0 ≤ z ∧ z ≤ 64) := all_take_succ HT.out (by rw [HL.out]; exact hlt) (by rw [HX.out]; exact ⟨h3, h4⟩)
              go_wp2
              go_round
              case rel => exact ⟨k + 1, by omega, by go_num, by rw [HS.out], HT'.out⟩
              case measure => simp [intOf]; omega
            · have HN : Hid (normB zs = false) := normB_bad (by rw [HL.out]; exact hlt) (by rw [HX.out]; omega)
              go_wp2
              go_ret
              exact ⟨by simp [HN.out], rfl⟩
          · have HN : Hid (normB zs = false) := normB_bad (by rw [HL.out]; exact hlt) (by rw [HX.out]; omega)
            go_wp2
            go_ret
            exact ⟨by simp [HN.out], rfl⟩
        · have hkn : k = n := by omega
          subst hkn
          have e : zs.take k = zs := List.take_of_length_le (by rw [HL.out]; exact Nat.le_refl _)
          have HE : Hid (normB zs = _) := normB_all (by rw [HL.out]; exact h1) (by rw [HL.out]; exact h2) (by rw [HL.out]; exact HT.out)
          rw [e] at hF hF2 ⊢
          clear HT
          generalize zs.sum = F at *
          go_wp2
          go_ret
          exact ⟨by rw [HE.out]; by_cases g : F = 64 <;> simp [g], rfl⟩
    · rw [normB_len (by omega)]
      go_enter Tryd.func16, Tryd.ntmps16
      go_wp2
      go_ret
      exact ⟨rfl, rfl⟩
  · rw [normB_len (by omega)]
    go_enter Tryd.func16, Tryd.ntmps16
    go_wp2
    go_ret
    exact ⟨rfl, rfl⟩
end Go.Proofs.YtmhpgkfaihcmeaaDoor
