/-
  CountsOk of the program.
-/
import Derived.Test.YtkjebacpmmfflaaDoorIList
namespace Go.Proofs.YtkjebacpmmfflaaDoor
open Go.RowKit
set_option linter.unusedVariables false

/-- What CountsOk tells. -/
def cntB (zs : List Int) : Bool := decide (1 ≤ zs.length ∧ zs.length ≤ 80 ∧ ∀ z ∈ zs, 0 ≤ z ∧ z ≤ 1000000)

theorem cntB_bad {zs : List Int} {k : Nat} (hk : k < zs.length) (h : ¬ (0 ≤ zs.getD k 0 ∧ zs.getD k 0 ≤ 1000000)) : cntB zs = false := by
  simp only [cntB, decide_eq_false_iff_not]
  exact fun h' => h (h'.2.2 _ (getD_mem hk))
theorem cntB_all {zs : List Int} (h1 : 1 ≤ zs.length) (h2 : zs.length ≤ 80) (h : ∀ z ∈ zs.take zs.length, 0 ≤ z ∧ z ≤ 1000000) : cntB zs = true := by
  rw [List.take_length] at h
  simp only [cntB, decide_eq_true_eq]
  exact ⟨h1, h2, h⟩
theorem cntB_len {zs : List Int} (h : ¬ (1 ≤ zs.length ∧ zs.length ≤ 80)) : cntB zs = false := by
  simp only [cntB, decide_eq_false_iff_not]
  exact fun h' => h ⟨h'.1, h'.2.1⟩

set_option maxHeartbeats 800000 in
theorem implCnt_any (a : Option Addr) (cap : Nat) (zs : List Int) (w : World) (hb : Ins w a zs) (hn : zs.length ≤ 281474976710656) :
    Calls Tryd.prog 29 #[.slice a zs.length cap] w fun e w' => e = .returned (.bool (cntB zs)) ∧ w' = w := by
  by_cases h1 : 1 ≤ zs.length
  · by_cases h2 : zs.length ≤ 80
    · generalize hlen : zs.length = n at *
      have HL : Hid (zs.length = n) := hlen
      clear hlen
      go_enter Tryd.func29, Tryd.ntmps29
      go_wp2
      go_loop [15] (fun i => ∃ k : Nat, k ≤ n ∧ i = .int .i64 k ∧ ∀ z ∈ zs.take k, 0 ≤ z ∧ z ≤ 1000000) (fun i => n - (intOf i).toNat)
      case atStart => exact ⟨0, Nat.zero_le _, rfl, by simp⟩
      case round =>
        obtain ⟨k, hk, rfl, htk⟩ := hrel
        have HT : Hid (∀ z ∈ zs.take k, 0 ≤ z ∧ z ≤ 1000000) := htk
        clear htk
        by_cases hlt : k < n
        · obtain ⟨b1, o1, rfl, hb1, hc1⟩ := hb.len_pos k (by rw [HL.out]; exact hlt)
          have hs1 := hc1 k (by rw [HL.out]; exact hlt)
          have g1 := getD_rngI hb.1 k
          clear hc1 hb
          generalize hx : zs.getD k 0 = x at *
          have HX : Hid (zs.getD k 0 = x) := hx
          clear hx
          by_cases h3 : 0 ≤ x
          · by_cases h4 : x ≤ 1000000
            · have HT' : Hid (∀ z ∈ zs.take (k + 1), 0 ≤ z ∧ z ≤ 1000000) := all_take_succ HT.out (by rw [HL.out]; exact hlt) (by rw [HX.out]; exact ⟨h3, h4⟩)
              go_wp2
              go_round
              case rel => exact ⟨k + 1, by omega, by go_num, HT'.out⟩
              case measure => simp [intOf]; omega
            · have HN : Hid (cntB zs = false) := cntB_bad (by rw [HL.out]; exact hlt) (by rw [HX.out]; omega)
              go_wp2
              go_ret
              exact ⟨by simp [HN.out], rfl⟩
          · have HN : Hid (cntB zs = false) := cntB_bad (by rw [HL.out]; exact hlt) (by rw [HX.out]; omega)
            go_wp2
            go_ret
            exact ⟨by simp [HN.out], rfl⟩
        · have hkn : k = n := by omega
          subst hkn
          have HE : Hid (cntB zs = true) := cntB_all (by rw [HL.out]; exact h1) (by rw [HL.out]; exact h2) (by rw [HL.out]; exact HT.out)
          go_wp2
          go_ret
          exact ⟨by simp [HE.out], rfl⟩
    · rw [cntB_len (by omega)]
      go_enter Tryd.func29, Tryd.ntmps29
      go_wp2
      go_ret
      exact ⟨rfl, rfl⟩
  · rw [cntB_len (by omega)]
    go_enter Tryd.func29, Tryd.ntmps29
    go_wp2
    go_ret
    exact ⟨rfl, rfl⟩
end Go.Proofs.YtkjebacpmmfflaaDoor
