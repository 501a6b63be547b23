/-
  Cost, of the model and of the program.
-/
import Derived.Test.YtaiikncdghjmjaaDoorICnt
import Derived.Test.YtaiikncdghjmjaaDoorILens2
import Derived.Test.YtaiikncdghjmjaaDoorILens3
namespace Go.Proofs.YtaiikncdghjmjaaDoor
open Go.RowKit
set_option linter.unusedVariables false

/-- What the first k symbols cost. -/
def pays (cs ls : List Int) : Nat → Int
  | 0 => 0
  | k + 1 => pays cs ls k + cs.getD k 0 * ls.getD k 0
/-- What makes Cost answer. -/
def costYes (cs ls : List Int) : Prop := cntB cs = true ∧ lensB ls = true ∧ ls.length = cs.length ∧ ∀ i, i < cs.length → ¬ (0 < cs.getD i 0 ∧ ls.getD i 0 = 0)
noncomputable def costB (cs ls : List Int) : Bool := @decide (costYes cs ls) (Classical.propDecidable _)
noncomputable def costN (cs ls : List Int) : Int := if costB cs ls = true then pays cs ls cs.length else 0
theorem cost_yes {cs ls : List Int} (h : costYes cs ls) : costB cs ls = true ∧ costN cs ls = pays cs ls cs.length := by
  have e : costB cs ls = true := by simp [costB, h]
  exact ⟨e, by simp [costN, e]⟩
theorem cost_no {cs ls : List Int} (h : ¬ costYes cs ls) : costB cs ls = false ∧ costN cs ls = 0 := by
  have e : costB cs ls = false := by simp [costB, h]
  exact ⟨e, by simp [costN, e]⟩

theorem cntB_get {zs : List Int} (h : cntB zs = true) (k : Nat) (hk : k < zs.length) : 0 ≤ zs.getD k 0 ∧ zs.getD k 0 ≤ 1000000 := by
  simp only [cntB, decide_eq_true_eq] at h
  exact h.2.2 _ (getD_mem hk)
theorem cntB_bnd {zs : List Int} (h : cntB zs = true) : 1 ≤ zs.length ∧ zs.length ≤ 80 := by
  simp only [cntB, decide_eq_true_eq] at h
  exact ⟨h.1, h.2.1⟩
theorem lensB_get {zs : List Int} (h : lensB zs = true) (k : Nat) (hk : k < zs.length) : 0 ≤ zs.getD k 0 ∧ zs.getD k 0 ≤ 12 := by
  simp only [lensB, decide_eq_true_eq] at h
  exact h.2.2.1 _ (getD_mem hk)
theorem mul_bnd {x y : Int} (hx : 0 ≤ x ∧ x ≤ 1000000) (hy : 0 ≤ y ∧ y ≤ 12) : 0 ≤ x * y ∧ x * y ≤ 12000000 := by
  refine ⟨Int.mul_nonneg hx.1 hy.1, ?_⟩
  have h1 : x * y ≤ 1000000 * y := Int.mul_le_mul_of_nonneg_right hx.2 hy.1
  omega
theorem pays_bnd {cs ls : List Int} (hc : cntB cs = true) (hl : lensB ls = true) (hlen : ls.length = cs.length) (k : Nat) (hk : k ≤ cs.length) : 0 ≤ pays cs ls k ∧ pays cs ls k ≤ 12000000 * k := by
  induction k with
  | zero => simp [pays]
  | succ k ih =>
    have h1 := ih (by omega)
    have h2 := mul_bnd (cntB_get hc k (by omega)) (lensB_get hl k (by omega))
    simp only [pays]
    omega

set_option maxHeartbeats 2000000 in
theorem specCost_any (a : Option Addr) (cap : Nat) (cs : List Int) (b : Option Addr) (cb : Nat) (ls : List Int) (w : World) (ha : Ins w a cs) (hb : Ins w b ls) (hn : cs.length ≤ 281474976710656) (hn2 : ls.length ≤ 281474976710656) :
    Calls Tryd.prog 14 #[.slice a cs.length cap, .slice b ls.length cb] w fun e w' => e = .returned (.tuple #[.int .i64 (costN cs ls), .bool (costB cs ls)]) ∧ ∃ m, w' = w.drewN m := by
  by_cases hc : cntB cs = true
  · by_cases hl : lensB ls = true
    · by_cases hq : ls.length = cs.length
      · have HPB : Hid _ := fun k hk => pays_bnd hc hl hq k hk
        have HCG : Hid _ := fun k hk => cntB_get hc k hk
        have HLG : Hid _ := fun k hk => lensB_get hl k hk
        have h80 := cntB_bnd hc
        have HC : Hid (cntB cs = true) := hc
        have HLB : Hid (lensB ls = true) := hl
        have HQ : Hid (ls.length = cs.length) := hq
        rw [hq]
        generalize hlen : cs.length = n at *
        have HL : Hid (cs.length = n) := hlen
        clear hlen hc hl hq
        have hnn : ((n : Int) != (n : Int)) = false := by simp
        go_enter Tryd.func14, Tryd.ntmps14
        go_wp2_with fail
        rw [← HL.out]
        refine (specCnt_any a cap cs _ ha (by rw [HL.out]; exact hn)).mono ?_
        rintro e w1 ⟨rfl, m1, rfl⟩
        rw [HC.out, HL.out]
        go_wp2_with fail
        have hsl := specLens_any b cb ls (w.drewN m1) hb (by rw [HQ.out]; exact hn)
        rw [HQ.out] at hsl
        refine hsl.mono ?_
        clear hsl
        rintro e w2 ⟨rfl, rfl⟩
        rw [HLB.out]
        go_wp2_with fail
        go_loopw [6, 7] (fun x i wr => ∃ k m : Nat, k ≤ n ∧ i = .int .i64 k ∧ x = .int .i64 (pays cs ls k) ∧ wr = w.drewN m ∧ ∀ i, i < k → ¬ (0 < cs.getD i 0 ∧ ls.getD i 0 = 0)) (fun _ i _ => n - (intOf i).toNat)
        case atStart => exact ⟨0, m1, Nat.zero_le _, rfl, rfl, rfl, fun i hi => by omega⟩
        case round =>
          obtain ⟨k, m, hk, rfl, rfl, rfl, hbad⟩ := hrel
          have HBAD : Hid (∀ i, i < k → ¬ (0 < cs.getD i 0 ∧ ls.getD i 0 = 0)) := hbad
          clear hbad
          by_cases hlt : k < n
          · obtain ⟨b1, o1, rfl, hb1, hc1⟩ := ha.len_pos k (by rw [HL.out]; exact hlt)
            obtain ⟨b2, o2, rfl, hb2, hc2⟩ := hb.len_pos k (by rw [HQ.out]; exact hlt)
            have hs1 := hc1 k (by rw [HL.out]; exact hlt)
            have hs2 := hc2 k (by rw [HQ.out]; exact hlt)
            have hx := HCG.out k hlt
            have hy := HLG.out k (by rw [HQ.out]; exact hlt)
            have hF := HPB.out k hk
            have hxy := mul_bnd hx hy
            have HS : Hid (pays cs ls (k + 1) = pays cs ls k + cs.getD k 0 * ls.getD k 0) := rfl
            clear hc1 hc2
            generalize hxx : cs.getD k 0 = x at *
            generalize hyy : ls.getD k 0 = y at *
            have HX : Hid (cs.getD k 0 = x ∧ ls.getD k 0 = y) := ⟨hxx, hyy⟩
            clear hxx hyy
            generalize hFF : pays cs ls k = F at *
            clear hFF
            have HW1 : Hid (wrap64 (x * y) = x * y) := IntWalk.wrap64_in _ (by omega)
            have HW2 : Hid (wrap64 (F + x * y) = F + x * y) := IntWalk.wrap64_in _ (by omega)
            clear hF hxy
            by_cases c1 : 0 < x
            · by_cases c2 : y = 0
              · have HN : Hid _ := cost_no (cs := cs) (ls := ls) (fun h => h.2.2.2 k (by rw [HL.out]; exact hlt) (by rw [HX.out.1, HX.out.2]; exact ⟨c1, c2⟩))
                subst c2
                clear HW1 HW2 HS
                go_wp2
                exact bodyPost_ret (v := .tuple #[.int .i64 0, .bool false]) (by simp [results, Tryd.results14, go_sem]) rfl ⟨by rw [HN.out.1, HN.out.2], _, rfl⟩
              · have HB' : Hid (∀ i, i < k + 1 → ¬ (0 < cs.getD i 0 ∧ ls.getD i 0 = 0)) := fun i hi => by
                  by_cases hik : i = k
                  · subst hik; rw [HX.out.1, HX.out.2]; omega
                  · exact HBAD.out i (by omega)
                go_wp2
                go_quiet (fail)
                go_wp2
                go_roundw
                case rel => exact ⟨k + 1, _, by omega, by go_num, by rw [HS.out, HW1.out, HW2.out], rfl, HB'.out⟩
                case measure => simp [intOf]; omega
            · have HB' : Hid (∀ i, i < k + 1 → ¬ (0 < cs.getD i 0 ∧ ls.getD i 0 = 0)) := fun i hi => by
                by_cases hik : i = k
                · subst hik; rw [HX.out.1, HX.out.2]; omega
                · exact HBAD.out i (by omega)
              go_wp2
              go_quiet (fail)
              go_wp2
              go_roundw
              case rel => exact ⟨k + 1, _, by omega, by go_num, by rw [HS.out, HW1.out, HW2.out], rfl, HB'.out⟩
              case measure => simp [intOf]; omega
          · have hkn : k = n := by omega
            subst hkn
            have HY : Hid _ := cost_yes (cs := cs) (ls := ls) ⟨HC.out, HLB.out, HQ.out.trans HL.out.symm, fun i hi => HBAD.out i (by rw [HL.out] at hi; exact hi)⟩
            go_wp2
            exact bodyPost_ret (v := .tuple #[.int .i64 (pays cs ls k), .bool true]) (by simp [results, Tryd.results14, go_sem]) rfl ⟨by rw [HY.out.1, HY.out.2, HL.out], _, rfl⟩
      · have HN : Hid _ := cost_no (cs := cs) (ls := ls) (fun h => hq h.2.2.1)
        have hne : ((ls.length : Int) != (cs.length : Int)) = true := by rw [bne_iff_ne]; omega
        have HC : Hid (cntB cs = true) := hc
        have HLB : Hid (lensB ls = true) := hl
        clear hc hl
        go_enter Tryd.func14, Tryd.ntmps14
        go_wp2_with fail
        refine (specCnt_any a cap cs _ ha hn).mono ?_
        rintro e w1 ⟨rfl, m1, rfl⟩
        rw [HC.out]
        go_wp2_with fail
        refine (specLens_any b cb ls (w.drewN m1) hb hn2).mono ?_
        rintro e w2 ⟨rfl, rfl⟩
        rw [HLB.out]
        go_wp2
        exact bodyPost_ret (v := .tuple #[.int .i64 0, .bool false]) (by simp [results, Tryd.results14, go_sem]) rfl ⟨by rw [HN.out.1, HN.out.2], _, rfl⟩
    · have HN : Hid _ := cost_no (cs := cs) (ls := ls) (fun h => hl h.2.1)
      have HC : Hid (cntB cs = true) := hc
      have HLB : Hid (lensB ls = false) := by simpa [Hid] using hl
      clear hc hl
      go_enter Tryd.func14, Tryd.ntmps14
      go_wp2_with fail
      refine (specCnt_any a cap cs _ ha hn).mono ?_
      rintro e w1 ⟨rfl, m1, rfl⟩
      rw [HC.out]
      go_wp2_with fail
      refine (specLens_any b cb ls (w.drewN m1) hb hn2).mono ?_
      rintro e w2 ⟨rfl, rfl⟩
      rw [HLB.out]
      go_wp2
      exact bodyPost_ret (v := .tuple #[.int .i64 0, .bool false]) (by simp [results, Tryd.results14, go_sem]) rfl ⟨by rw [HN.out.1, HN.out.2], _, rfl⟩
  · have HN : Hid _ := cost_no (cs := cs) (ls := ls) (fun h => hc h.1)
    have HC : Hid (cntB cs = false) := by simpa [Hid] using hc
    clear hc
    go_enter Tryd.func14, Tryd.ntmps14
    go_wp2_with fail
    refine (specCnt_any a cap cs _ ha hn).mono ?_
    rintro e w1 ⟨rfl, m1, rfl⟩
    rw [HC.out]
    go_wp2
    exact bodyPost_ret (v := .tuple #[.int .i64 0, .bool false]) (by simp [results, Tryd.results14, go_sem]) rfl ⟨by rw [HN.out.1, HN.out.2], _, rfl⟩
end Go.Proofs.YtaiikncdghjmjaaDoor
