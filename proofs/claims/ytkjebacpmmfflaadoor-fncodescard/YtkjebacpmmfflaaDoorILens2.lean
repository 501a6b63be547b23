/-
  LensOk of the model.
-/
import Derived.Test.YtkjebacpmmfflaaDoorILens
namespace Go.Proofs.YtkjebacpmmfflaaDoor
open Go.RowKit
set_option linter.unusedVariables false

set_option maxHeartbeats 1600000 in
theorem specLens_any (a : Option Addr) (cap : Nat) (zs : List Int) (w : World) (hb : Ins w a zs) (hn : zs.length ≤ 281474976710656) :
    Calls Tryd.prog 20 #[.slice a zs.length cap] w fun e w' => e = .returned (.bool (lensB zs)) ∧ w' = w := by
  by_cases h : 1 ≤ zs.length ∧ zs.length ≤ 80
  · obtain ⟨h1, h2⟩ := h
    have HF := fun h => l2full_any a cap zs w hb h2 h
    generalize hlen : zs.length = n at *
    have HL : Hid (zs.length = n) := hlen
    have HFF : Hid _ := HF
    clear hlen HF
    go_enter Tryd.func20, Tryd.ntmps20
    go_wp2
    go_loop [3, 4] (fun x i => ∃ k : Nat, k ≤ n ∧ i = .int .i64 k ∧ x = .int .i64 (sumF one (zs.take k)) ∧ ∀ z ∈ zs.take k, 0 ≤ z ∧ z ≤ 12) (fun _ i => n - (intOf i).toNat)
    case atStart => exact ⟨0, Nat.zero_le _, rfl, by simp [sumF], by simp⟩
    case round =>
      obtain ⟨k, hk, rfl, rfl, htk⟩ := hrel
      have HT : Hid (∀ z ∈ zs.take k, 0 ≤ z ∧ z ≤ 12) := htk
      clear htk
      by_cases hlt : k < n
      · obtain ⟨b1, o1, rfl, hb1, hc1⟩ := hb.len_pos k (by rw [HL.out]; exact hlt)
        have hs1 := hc1 k (by rw [HL.out]; exact hlt)
        have g1 := getD_rngI hb.1 k
        have hF := sumF_bnd one 1 one_bnd (zs.take k)
        have hF2 : (zs.take k).length ≤ 80 := by rw [List.length_take, HL.out]; omega
        have HS : Hid (sumF one (zs.take (k + 1)) = sumF one (zs.take k) + one (zs.getD k 0)) := sumF_succ one zs k (by rw [HL.out]; exact hlt)
        clear hc1 hb HFF
        generalize hx : zs.getD k 0 = x at *
        have HX : Hid (zs.getD k 0 = x) := hx
        clear hx
        generalize hFF : sumF one (zs.take k) = F at *
        have hFb : 0 ≤ F ∧ F ≤ 80 := by omega
        clear hF hF2 hFF
        by_cases h3 : 0 ≤ x
        · by_cases h4 : x ≤ 12
          · have HT' : Hid (∀ z ∈ zs.take (k + 1), 0 ≤ z ∧ z ≤ 12) := all_take_succ HT.out (by rw [HL.out]; exact hlt) (by rw [HX.out]; exact ⟨h3, h4⟩)
            by_cases h5 : 0 < x
            · have HP : Hid (one x = 1) := by simp [Hid, one, h5]
              go_wp2
              go_round
              case rel => exact ⟨k + 1, by omega, by go_num, by rw [HS.out, HP.out], HT'.out⟩
              case measure => simp [intOf]; omega
            · have HP : Hid (one x = 0) := by simp [Hid, one, h5]
              go_wp2
              go_round
              case rel => exact ⟨k + 1, by omega, by go_num, by rw [HS.out, HP.out]; simp, HT'.out⟩
              case measure => simp [intOf]; omega
          · have HN : Hid (lensB zs = false) := lensB_bad (by rw [HL.out]; exact hlt) (by rw [HX.out]; omega)
            go_wp2
            go_ret
            exact ⟨by simp [HN.out], rfl⟩
        · have HN : Hid (lensB zs = false) := lensB_bad (by rw [HL.out]; exact hlt) (by rw [HX.out]; omega)
          go_wp2
          go_ret
          exact ⟨by simp [HN.out], rfl⟩
      · have hkn : k = n := by omega
        subst hkn
        have e : zs.take k = zs := List.take_of_length_le (by rw [HL.out]; exact Nat.le_refl _)
        have HE : Hid (lensB zs = _) := lensB_all (by rw [HL.out]; exact h1) (by rw [HL.out]; exact h2) (by rw [HL.out]; exact HT.out)
        have HC : Hid (Calls Tryd.prog 47 #[.slice a k cap] w fun e w' => e = .returned (.int .i64 (sumF share zs)) ∧ w' = w) := HFF.out (by have := HT.out; rw [e] at this; exact this)
        have hF := sumF_bnd one 1 one_bnd zs
        have hG := sumF_bnd share 4096 share_bnd zs
        rw [HL.out] at hF hG
        rw [e]
        clear e HFF HT
        generalize sumF one zs = F at *
        generalize sumF share zs = G at *
        by_cases c1 : F = 1
        · subst c1
          go_wp2_with fail
          refine HC.out.mono ?_
          rintro e' w' ⟨rfl, rfl⟩
          go_wp2
          go_ret
          exact ⟨by rw [HE.out]; by_cases g : G = 2048 <;> simp [g], rfl⟩
        · by_cases c2 : 1 < F
          · go_wp2_with fail
            refine HC.out.mono ?_
            rintro e' w' ⟨rfl, rfl⟩
            go_wp2
            go_ret
            exact ⟨by rw [HE.out]; by_cases g : G = 4096 <;> simp [g, c1, c2], rfl⟩
          · go_wp2
            go_ret
            exact ⟨by rw [HE.out, decide_eq_false (p := F = 1 ∧ G = 2048 ∨ 1 < F ∧ G = 4096) (by omega)]; rfl, rfl⟩
  · rw [lensB_len h]
    by_cases c1 : 1 ≤ zs.length
    · have c2 : 80 < zs.length := by omega
      go_enter Tryd.func20, Tryd.ntmps20
      go_wp2
      go_ret
      exact ⟨rfl, rfl⟩
    · go_enter Tryd.func20, Tryd.ntmps20
      go_wp2
      go_ret
      exact ⟨rfl, rfl⟩
end Go.Proofs.YtkjebacpmmfflaaDoor
