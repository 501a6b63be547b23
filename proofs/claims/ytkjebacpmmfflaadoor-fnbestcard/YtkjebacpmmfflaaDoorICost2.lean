/-
  Cost of the program.
-/
import Derived.Test.YtkjebacpmmfflaaDoorICostI
namespace Go.Proofs.YtkjebacpmmfflaaDoor
open Go.RowKit
set_option linter.unusedVariables false

set_option maxHeartbeats 2000000 in
theorem implCost_any (a : Option Addr) (cap : Nat) (cs : List Int) (b : Option Addr) (cb : Nat) (ls : List Int) (w : World) (ha : Ins w a cs) (hb : Ins w b ls) (hn : cs.length ≤ 281474976710656) (hn2 : ls.length ≤ 281474976710656) (h4 : Four w) (hE : ErrT w) :
    Calls Tryd.prog 13 #[.slice a cs.length cap, .slice b ls.length cb] w fun e w' => e = .returned (.tuple #[.int .i64 (costN cs ls), .bool (costB cs ls)]) ∧ Below w.heap.size w w' := by
  by_cases hc : cntB cs = true
  · by_cases hl : lensB ls = true
    · by_cases hq : ls.length = cs.length
      · have HPB : Hid _ := fun k hk => pays_bnd hc hl hq k hk
        have HCG : Hid _ := fun k hk => cntB_get hc k hk
        have HLG : Hid _ := fun k hk => lensB_get hl k hk
        have h80 := cntB_bnd hc
        have HC : Hid (cntB cs = true) := hc
        have HLB : Hid (lensB ls = true) := hl
        have HQ : Hid (ls.length = cs.length) := hq
        rw [hq]
        generalize hlen : cs.length = n at *
        have HL : Hid (cs.length = n) := hlen
        clear hlen hc hl hq
        have hnn : ((n : Int) != (n : Int)) = false := by simp
        go_enter Tryd.func13, Tryd.ntmps13
        go_wp2_with fail
        rw [← HL.out]
        refine (implCnt_any a cap cs _ ha (by rw [HL.out]; exact hn)).mono ?_
        rintro e w1 ⟨rfl, rfl⟩
        rw [HC.out, HL.out]
        go_wp2_with fail
        have hsl := implLens_any b cb ls w1 hb (by rw [HQ.out]; exact hn) h4 hE
        rw [HQ.out] at hsl
        refine hsl.mono ?_
        clear hsl
        rintro e w2 ⟨rfl, hb2⟩
        rw [HLB.out]
        have ha2 := ha.below hb2 (Nat.le_refl _)
        have hbx := hb.below hb2 (Nat.le_refl _)
        have HB2 : Hid (Below w1.heap.size w1 w2) := hb2
        clear ha hb hb2 h4 hE
        go_wp2_with fail
        go_loop [6, 26] (fun x i => ∃ k : Nat, k ≤ n ∧ i = .int .i64 k ∧ x = .int .i64 (pays cs ls k) ∧ ∀ i, i < k → ¬ (0 < cs.getD i 0 ∧ ls.getD i 0 = 0)) (fun _ i => n - (intOf i).toNat)
        case atStart => exact ⟨0, Nat.zero_le _, rfl, rfl, fun i hi => by omega⟩
        case round =>
          obtain ⟨k, hk, rfl, rfl, hbad⟩ := hrel
          have HBAD : Hid (∀ i, i < k → ¬ (0 < cs.getD i 0 ∧ ls.getD i 0 = 0)) := hbad
          clear hbad
          by_cases hlt : k < n
          · obtain ⟨b1, o1, rfl, hb1, hc1⟩ := ha2.len_pos k (by rw [HL.out]; exact hlt)
            obtain ⟨b2, o2, rfl, hb2', hc2⟩ := hbx.len_pos k (by rw [HQ.out]; exact hlt)
            have hs1 := hc1 k (by rw [HL.out]; exact hlt)
            have hs2 := hc2 k (by rw [HQ.out]; exact hlt)
            have hx := HCG.out k hlt
            have hy := HLG.out k (by rw [HQ.out]; exact hlt)
            have hF := HPB.out k hk
            have hxy := mul_bnd hx hy
            have HS : Hid (pays cs ls (k + 1) = pays cs ls k + cs.getD k 0 * ls.getD k 0) := rfl
            clear hc1 hc2
            generalize hxx : cs.getD k 0 = x at *
            generalize hyy : ls.getD k 0 = y at *
            have HX : Hid (cs.getD k 0 = x ∧ ls.getD k 0 = y) := ⟨hxx, hyy⟩
            clear hxx hyy
            generalize hFF : pays cs ls k = F at *
            clear hFF
            have HW1 : Hid (wrap64 (x * y) = x * y) := IntWalk.wrap64_in _ (by omega)
            have HW2 : Hid (wrap64 (F + x * y) = F + x * y) := IntWalk.wrap64_in _ (by omega)
            clear hF hxy
            by_cases c1 : 0 < x
            · by_cases c2 : y = 0
              · have HN : Hid _ := cost_no (cs := cs) (ls := ls) (fun h => h.2.2.2 k (by rw [HL.out]; exact hlt) (by rw [HX.out.1, HX.out.2]; exact ⟨c1, c2⟩))
                subst c2
                clear HW1 HW2 HS
                go_wp2
                exact bodyPost_ret (v := .tuple #[.int .i64 0, .bool false]) (by simp [results, Tryd.results13, go_sem]) rfl ⟨by rw [HN.out.1, HN.out.2], HB2.out⟩
              · have HB' : Hid (∀ i, i < k + 1 → ¬ (0 < cs.getD i 0 ∧ ls.getD i 0 = 0)) := fun i hi => by
                  by_cases hik : i = k
                  · subst hik; rw [HX.out.1, HX.out.2]; omega
                  · exact HBAD.out i (by omega)
                go_wp2
                go_round
                case rel => exact ⟨k + 1, by omega, by go_num, by rw [HS.out, HW1.out, HW2.out], HB'.out⟩
                case measure => simp [intOf]; omega
            · have HB' : Hid (∀ i, i < k + 1 → ¬ (0 < cs.getD i 0 ∧ ls.getD i 0 = 0)) := fun i hi => by
                by_cases hik : i = k
                · subst hik; rw [HX.out.1, HX.out.2]; omega
                · exact HBAD.out i (by omega)
              go_wp2
              go_round
              case rel => exact ⟨k + 1, by omega, by go_num, by rw [HS.out, HW1.out, HW2.out], HB'.out⟩
              case measure => simp [intOf]; omega
          · have hkn : k = n := by omega
            subst hkn
            have HY : Hid _ := cost_yes (cs := cs) (ls := ls) ⟨HC.out, HLB.out, HQ.out.trans HL.out.symm, fun i hi => HBAD.out i (by rw [HL.out] at hi; exact hi)⟩
            go_wp2
            exact bodyPost_ret (v := .tuple #[.int .i64 (pays cs ls k), .bool true]) (by simp [results, Tryd.results13, go_sem]) rfl ⟨by rw [HY.out.1, HY.out.2, HL.out], HB2.out⟩
      · have HN : Hid _ := cost_no (cs := cs) (ls := ls) (fun h => hq h.2.2.1)
        have hne : ((ls.length : Int) != (cs.length : Int)) = true := by rw [bne_iff_ne]; omega
        have HC : Hid (cntB cs = true) := hc
        have HLB : Hid (lensB ls = true) := hl
        clear hc hl
        go_enter Tryd.func13, Tryd.ntmps13
        go_wp2_with fail
        refine (implCnt_any a cap cs _ ha hn).mono ?_
        rintro e w1 ⟨rfl, rfl⟩
        rw [HC.out]
        go_wp2_with fail
        refine (implLens_any b cb ls w1 hb hn2 h4 hE).mono ?_
        rintro e w2 ⟨rfl, hb2⟩
        rw [HLB.out]
        go_wp2
        exact bodyPost_ret (v := .tuple #[.int .i64 0, .bool false]) (by simp [results, Tryd.results13, go_sem]) rfl ⟨by rw [HN.out.1, HN.out.2], hb2⟩
    · have HN : Hid _ := cost_no (cs := cs) (ls := ls) (fun h => hl h.2.1)
      have HC : Hid (cntB cs = true) := hc
      have HLB : Hid (lensB ls = false) := by simpa [Hid] using hl
      clear hc hl
      go_enter Tryd.func13, Tryd.ntmps13
      go_wp2_with fail
      refine (implCnt_any a cap cs _ ha hn).mono ?_
      rintro e w1 ⟨rfl, rfl⟩
      rw [HC.out]
      go_wp2_with fail
      refine (implLens_any b cb ls w1 hb hn2 h4 hE).mono ?_
      rintro e w2 ⟨rfl, hb2⟩
      rw [HLB.out]
      go_wp2
      exact bodyPost_ret (v := .tuple #[.int .i64 0, .bool false]) (by simp [results, Tryd.results13, go_sem]) rfl ⟨by rw [HN.out.1, HN.out.2], hb2⟩
  · have HN : Hid _ := cost_no (cs := cs) (ls := ls) (fun h => hc h.1)
    have HC : Hid (cntB cs = false) := by simpa [Hid] using hc
    clear hc
    go_enter Tryd.func13, Tryd.ntmps13
    go_wp2_with fail
    refine (implCnt_any a cap cs _ ha hn).mono ?_
    rintro e w1 ⟨rfl, rfl⟩
    rw [HC.out]
    go_wp2
    exact bodyPost_ret (v := .tuple #[.int .i64 0, .bool false]) (by simp [results, Tryd.results13, go_sem]) rfl ⟨by rw [HN.out.1, HN.out.2], Below.refl _ _⟩
end Go.Proofs.YtkjebacpmmfflaaDoor
