/-
  Norm of the model, and both.
-/
import Derived.Test.YtmhpgkfaihcmeaaDoorINorm3
namespace Go.Proofs.YtmhpgkfaihcmeaaDoor
open Go.RowKit
set_option linter.unusedVariables false

theorem cntB_getN {zs : List Int} (h : cntB zs = true) (k : Nat) (hk : k < zs.length) : 0 ≤ zs.getD k 0 ∧ zs.getD k 0 ≤ 1000000 := by
  simp only [cntB, decide_eq_true_eq] at h
  exact h.2.2 _ (getD_mem hk)
theorem cntB_bndN {zs : List Int} (h : cntB zs = true) : 1 ≤ zs.length ∧ zs.length ≤ 80 := by
  simp only [cntB, decide_eq_true_eq] at h
  exact ⟨h.1, h.2.1⟩
theorem below_drewNN {B : Nat} {a b : World} (h : Below B a b) (n : Nat) : Below B a (b.drewN n) := ⟨h.os, h.tape, h.output, h.size, h.block⟩
theorem implNorm_bad (a : Option Addr) (cap : Nat) (cs : List Int) (w : World) (hb : Ins w a cs) (hn : cs.length ≤ 281474976710656) (hc : cntB cs = false) :
    Calls Tryd.prog 8 #[.slice a cs.length cap] w fun e w' => e = .returned (.tuple #[.slice none 0 0, .bool false]) ∧ w' = w := by
  have HT := implCnt_any a cap cs w hb hn
  rw [hc] at HT
  go_enter Tryd.func8, Tryd.ntmps8
  go_wp2_with fail
  refine HT.mono ?_
  rintro e w0 ⟨rfl, rfl⟩
  clear HT
  go_wp2
  exact bodyPost_ret (v := .tuple #[.slice none 0 0, .bool false]) (by simp [results, Tryd.results8, go_sem]) rfl ⟨rfl, rfl⟩

/-- There is room for those that are there. -/
def roomy (cs : List Int) : Prop := 1 ≤ sumF one cs ∧ sumF one cs ≤ 64
/-- How many are given behind the first ones. -/
def rest (cs : List Int) : Nat := (64 - sumF one cs).toNat

set_option maxHeartbeats 3200000 in
theorem implNorm_ok (a : Option Addr) (cap : Nat) (cs : List Int) (w : World) (hb : Ins w a cs) (hc : cntB cs = true) :
    Calls Tryd.prog 8 #[.slice a cs.length cap] w fun e w' => Below w.heap.size w w' ∧
      (¬ roomy cs → e = .returned (.tuple #[.slice none 0 0, .bool false])) ∧
      (roomy cs → e = .returned (.tuple #[.slice (some ⟨w.heap.size, 0, none⟩) cs.length cs.length, .bool true]) ∧ OwI w' w.heap.size w.heap.size cs.length (shares cs (rest cs))) := by
  obtain ⟨i0, hi, hz0, hz1, hz2⟩ := info_parts Tryd.infoI64
  obtain ⟨hn1, hn2⟩ := cntB_bndN hc
  have HG : Hid (∀ i, i < cs.length → 0 ≤ cs.getD i 0 ∧ cs.getD i 0 ≤ 1000000) := fun i hi => cntB_getN hc i hi
  have HT := implCnt_any a cap cs w hb (by omega)
  rw [hc] at HT
  have HND : Hid (∀ (b : Option Addr) (cb : Nat) (ns : List Int) (j : Nat) (w : World), Ins w a cs → Ins w b ns → j ≤ 64 → Fair cs ns j → Calls Tryd.prog 29 #[.slice a cs.length cap, .slice b cs.length cb] w fun e w' => e = .returned (.int .i64 (pick cs ns cs.length)) ∧ ∃ m, w' = w.drewN m) := fun b cb ns j w h1 h2 h3 h4 => needy_any a cap cs b cb ns j w h1 h2 hn2 HG.out h3 h4
  clear hc
  generalize hlen : cs.length = n at *
  have HL : Hid (cs.length = n) := hlen
  clear hlen
  go_enter Tryd.func8, Tryd.ntmps8
  go_wp2_with fail
  refine HT.mono ?_
  rintro e w0 ⟨rfl, rfl⟩
  clear HT
  go_wp2_with (at_make; refine wpList_make_full _ rfl _ _ 23 rfl w0.heap.size 3 i0 (.int .i64 0) 1 Tryd.underlying23 hi hz0 hz1 .i64 .i64 _ _ n rfl rfl rfl rfl (by rw [hz2]; omega) (by unfold maxLen; omega) (Nat.le_refl _) ?_; intro w1 hown hgrow)
  have h0 : OwI w1 w0.heap.size w0.heap.size n (part (cs.map one) 0) := by
    rw [part_zero, List.length_map, HL.out]
    refine ⟨?_, by intro z hz; simp at hz; omega⟩
    rw [made_zeroI] at hown
    simpa using hown
  have hbw : Below w0.heap.size w0 w1 := (Below.refl _ _).grown hgrow (Nat.le_refl _) (by intro k hk; cases hk)
  have H0 : Hid (OwI w1 w0.heap.size w0.heap.size n (part (cs.map one) 0)) := h0
  clear h0 hown hgrow hi hz0 hz1 hz2
  go_loopw [5, 16] (fun x i wr => ∃ k : Nat, k ≤ n ∧ i = .int .i64 k ∧ x = .int .i64 (sumF one (cs.take k)) ∧ OwI wr w0.heap.size w0.heap.size n (part (cs.map one) k) ∧ Below w0.heap.size w0 wr) (fun _ i _ => n - (intOf i).toNat)
  case atStart => exact ⟨0, Nat.zero_le _, rfl, by simp [sumF], H0.out, hbw⟩
  case round =>
    obtain ⟨k, hk, rfl, rfl, hown, hbel⟩ := hrel
    have HO : Hid (OwI wr w0.heap.size w0.heap.size n (part (cs.map one) k)) := hown
    clear hown hbw H0
    by_cases hlt : k < n
    · obtain ⟨b, off, rfl, hbl, hcells⟩ := hb.len_pos k (by rw [HL.out]; exact hlt)
      have hsrc : wr.cell? ⟨b, off + k, none⟩ = some (.int .i64 (cs.getD k 0)) := (hbel.cell (p := ⟨b, off + k, none⟩) hbl).trans (hcells k (by rw [HL.out]; exact hlt))
      have hx := HG.out k hlt
      have hF := sumF_bnd one 1 one_bnd (cs.take k)
      have hF2 : (cs.take k).length ≤ 80 := by rw [List.length_take, HL.out]; omega
      have HS : Hid (sumF one (cs.take (k + 1)) = sumF one (cs.take k) + one (cs.getD k 0)) := sumF_succ one cs k (by rw [HL.out]; exact hlt)
      have hdst := HO.out.cell k (by rw [part_len _ _ (by rw [List.length_map, HL.out]; omega), List.length_map, HL.out]; exact hlt)
      have hfz := HO.out.frozen k
      have HP1 : Hid _ := one_part_set cs k (by rw [HL.out]; exact hlt)
      have HP0 : Hid _ := one_part_skip cs k (by rw [HL.out]; exact hlt)
      generalize cs.getD k 0 = x at *
      generalize hFF : sumF one (cs.take k) = F at *
      have hFb : 0 ≤ F ∧ F ≤ 80 := by omega
      clear hF hF2 hFF hcells hb
      by_cases h5 : 0 < x
      · have HP : Hid (one x = 1) := by simp [Hid, one, h5]
        have R := HO.out.store k 1 (by omega)
        rw [HP1.out h5] at R
        have HR : Hid (OwI (wr.setCell ⟨w0.heap.size, k, none⟩ (.int .i64 1)) w0.heap.size w0.heap.size n (part (cs.map one) (k + 1))) := R
        have HB : Hid (Below w0.heap.size w0 (wr.setCell ⟨w0.heap.size, k, none⟩ (.int .i64 1))) := hbel.setCell (p := ⟨w0.heap.size, k, none⟩) (Nat.le_refl _) (.int .i64 1)
        clear R HP1 HP0
        go_wp2
        go_roundw
        case rel => exact ⟨k + 1, by omega, by go_num, by rw [HS.out, HP.out], by simpa using HR.out, by simpa using HB.out⟩
        case measure => simp [intOf]; omega
      · have HP : Hid (one x = 0) := by simp [Hid, one, h5]
        have HR : Hid (OwI wr w0.heap.size w0.heap.size n (part (cs.map one) (k + 1))) := by rw [← HP0.out h5]; exact HO.out
        clear HP1 HP0
        go_wp2
        go_roundw
        case rel => exact ⟨k + 1, by omega, by go_num, by rw [HS.out, HP.out]; simp, HR.out, hbel⟩
        case measure => simp [intOf]; omega
    · have hkn : k = n := by omega
      subst hkn
      have hall := HO.out
      have el : (cs.map one).length = k := by rw [List.length_map]; exact HL.out
      rw [show part (cs.map one) k = cs.map one from by rw [← el]; exact part_all _] at hall
      have HA : Hid (OwI wr w0.heap.size w0.heap.size k (shares cs 0)) := hall
      have e : cs.take k = cs := List.take_of_length_le (by rw [HL.out]; exact Nat.le_refl _)
      have hF := sumF_bnd one 1 one_bnd cs
      rw [HL.out] at hF
      rw [e]
      clear hall HO el e
      generalize hS : sumF one cs = S at *
      have HS : Hid (sumF one cs = S) := hS
      clear hS
      by_cases hsm : 1 ≤ S ∧ S ≤ 64
      · have HFA : Hid (∀ j, Fair cs (shares cs j) j) := fun j => fair_all (some1_of (by rw [HS.out]; exact hsm.1)) j
        have HPI : Hid (∀ ns, 0 ≤ pick cs ns k ∧ (pick cs ns k).toNat < k) := fun ns => by have := pick_in (ns := ns) (some1_of (cs := cs) (by rw [HS.out]; exact hsm.1)); rw [HL.out] at this; exact ⟨this.1, this.2.1⟩
        have HPS : Hid (roomy cs) := by unfold Hid roomy; rw [HS.out]; exact hsm
        have HR : Hid (rest cs = (64 - S).toNat) := by unfold Hid rest; rw [HS.out]
        go_wp2
        go_loopw [5] (fun x wr => ∃ j : Nat, S + j ≤ 64 ∧ x = .int .i64 (S + j) ∧ OwI wr w0.heap.size w0.heap.size k (shares cs j) ∧ Below w0.heap.size w0 wr) (fun x _ => 64 - (intOf x).toNat)
        case atStart => exact ⟨0, by omega, by simp, HA.out, hbel⟩
        case round =>
          obtain ⟨j, hj, rfl, hown, hbel2⟩ := hrel
          have HO : Hid (OwI wr w0.heap.size w0.heap.size k (shares cs j)) := hown
          clear hown
          by_cases hlt2 : S + j < 64
          · go_wp2_with fail
            refine (HND.out _ _ (shares cs j) j wr (hb.below hbel2 (Nat.le_refl _)) HO.out.byt (by omega) (HFA.out j)).mono ?_
            rintro e w3 ⟨rfl, m3, rfl⟩
            have hbel3 : Below w0.heap.size w0 (wr.drewN m3) := below_drewNN hbel2 m3
            have HO3 : Hid (OwI (wr.drewN m3) w0.heap.size w0.heap.size k (shares cs j)) := HO.out.drewN m3
            clear hbel2 HO
            generalize wr.drewN m3 = w3 at *
            have hpi := HPI.out (shares cs j)
            have hbn := (HFA.out j).bnd (pick cs (shares cs j) k).toNat
            have hst : shares cs (j + 1) = (shares cs j).set (pick cs (shares cs j) k).toNat ((shares cs j).getD (pick cs (shares cs j) k).toNat 0 + 1) := by
              show give cs (shares cs j) = _
              unfold give bump
              rw [HL.out]
            generalize pick cs (shares cs j) k = p at *
            obtain ⟨q, rfl⟩ : ∃ q : Nat, p = q := ⟨p.toNat, by omega⟩
            simp only [Int.toNat_natCast] at *
            have hdst := HO3.out.cell q (by rw [(HFA.out j).1, HL.out]; omega)
            have hfz := HO3.out.frozen q
            have R := HO3.out.store q ((shares cs j).getD q 0 + 1) (by omega)
            rw [← hst] at R
            clear hst
            generalize (shares cs j).getD q 0 = v at *
            have HR2 : Hid (OwI (w3.setCell ⟨w0.heap.size, q, none⟩ (.int .i64 (v + 1))) w0.heap.size w0.heap.size k (shares cs (j + 1))) := R
            have HB : Hid (Below w0.heap.size w0 (w3.setCell ⟨w0.heap.size, q, none⟩ (.int .i64 (v + 1)))) := hbel3.setCell (p := ⟨w0.heap.size, q, none⟩) (Nat.le_refl _) (.int .i64 (v + 1))
            clear R
            go_wp2
            go_roundw
            case rel => exact ⟨j + 1, by omega, by go_num, by simpa using HR2.out, by simpa using HB.out⟩
            case measure => simp [intOf]; omega
          · have hje : (64 - S).toNat = j := by omega
            have HF2 : Hid (OwI wr w0.heap.size w0.heap.size k (shares cs (rest cs))) := by rw [HR.out, hje]; exact HO.out
            go_wp2
            exact bodyPost_ret (v := .tuple #[.slice (some ⟨w0.heap.size, 0, none⟩) k k, .bool true]) (by simp [results, Tryd.results8, go_sem]) rfl ⟨hbel2, fun h => absurd HPS.out h, fun _ => ⟨rfl, HF2.out⟩⟩
      · have HNS : Hid (¬ roomy cs) := by unfold Hid roomy; rw [HS.out]; exact hsm
        by_cases hs0 : S < 1
        · go_wp2
          exact bodyPost_ret (v := .tuple #[.slice none 0 0, .bool false]) (by simp [results, Tryd.results8, go_sem]) rfl ⟨hbel, fun _ => rfl, fun h => absurd h HNS.out⟩
        · have hs64 : 64 < S := by omega
          go_wp2
          exact bodyPost_ret (v := .tuple #[.slice none 0 0, .bool false]) (by simp [results, Tryd.results8, go_sem]) rfl ⟨hbel, fun _ => rfl, fun h => absurd h HNS.out⟩
end Go.Proofs.YtmhpgkfaihcmeaaDoor
namespace Go.Proofs.YtmhpgkfaihcmeaaDoor
open Go.RowKit
set_option linter.unusedVariables false

set_option maxHeartbeats 800000 in
theorem l2some_any (a : Option Addr) (cap : Nat) (cs : List Int) (w : World) (hb : Ins w a cs) (hn : cs.length ≤ 80) :
    Calls Tryd.prog 52 #[.slice a cs.length cap] w fun e w' => e = .returned (.int .i64 (sumF one cs)) ∧ w' = w := by
  generalize hlen : cs.length = n at *
  have HL : Hid (cs.length = n) := hlen
  clear hlen
  go_enter Tryd.func52, Tryd.ntmps52
  go_wp2
  go_loop [3, 4] (fun x i => ∃ k : Nat, k ≤ n ∧ i = .int .i64 k ∧ x = .int .i64 (sumF one (cs.take k))) (fun _ i => n - (intOf i).toNat)
  case atStart => exact ⟨0, Nat.zero_le _, rfl, by simp [sumF]⟩
  case round =>
    obtain ⟨k, hk, rfl, rfl⟩ := hrel
    by_cases hlt : k < n
    · obtain ⟨b1, o1, rfl, hb1, hc1⟩ := hb.len_pos k (by rw [HL.out]; exact hlt)
      have hs1 := hc1 k (by rw [HL.out]; exact hlt)
      have g1 := getD_rngI hb.1 k
      have hF := sumF_bnd one 1 one_bnd (cs.take k)
      have hF2 : (cs.take k).length ≤ 80 := by rw [List.length_take, HL.out]; omega
      have HS : Hid (sumF one (cs.take (k + 1)) = sumF one (cs.take k) + one (cs.getD k 0)) := sumF_succ one cs k (by rw [HL.out]; exact hlt)
      clear hc1 hb
      generalize cs.getD k 0 = x at *
      generalize hFF : sumF one (cs.take k) = F at *
      have hFb : 0 ≤ F ∧ F ≤ 80 := by omega
      clear hF hF2 hFF
      by_cases h5 : 0 < x
      · have HP : Hid (one x = 1) := by simp [Hid, one, h5]
        go_wp2
        go_round
        case rel => exact ⟨k + 1, by omega, by go_num, by rw [HS.out, HP.out]⟩
        case measure => simp [intOf]; omega
      · have HP : Hid (one x = 0) := by simp [Hid, one, h5]
        go_wp2
        go_round
        case rel => exact ⟨k + 1, by omega, by go_num, by rw [HS.out, HP.out]; simp⟩
        case measure => simp [intOf]; omega
    · have hkn : k = n := by omega
      subst hkn
      have e : cs.take k = cs := List.take_of_length_le (by rw [HL.out]; exact Nat.le_refl _)
      rw [e]
      go_wp2
      go_ret
      exact ⟨rfl, rfl⟩

theorem csum_bnd {cs : List Int} (hc : ∀ i, i < cs.length → 0 ≤ cs.getD i 0 ∧ cs.getD i 0 ≤ 1000000) (k : Nat) (hk : k ≤ cs.length) : 0 ≤ (cs.take k).sum ∧ (cs.take k).sum ≤ 1000000 * k := by
  induction k with
  | zero => simp
  | succ k ih =>
    have h1 := ih (by omega)
    have h2 := hc k (by omega)
    rw [sum_succ cs k (by omega)]
    omega

set_option maxHeartbeats 4000000 in
theorem l3norm_any (a : Option Addr) (cap : Nat) (cs : List Int) (w : World) (hb : Ins w a cs) (hc : cntB cs = true) (hr : roomy cs) :
    Calls Tryd.prog 53 #[.slice a cs.length cap] w fun e w' => e = .returned (.slice (some ⟨w.heap.size, 0, none⟩) cs.length cs.length) ∧ OwI w' w.heap.size w.heap.size cs.length (shares cs (rest cs)) ∧ Below w.heap.size w w' := by
  obtain ⟨i0, hi, hz0, hz1, hz2⟩ := info_parts Tryd.infoI64
  obtain ⟨hn1, hn2⟩ := cntB_bndN hc
  have HG : Hid (∀ i, i < cs.length → 0 ≤ cs.getD i 0 ∧ cs.getD i 0 ≤ 1000000) := fun i hi => cntB_getN hc i hi
  have HSB : Hid _ := fun k hk => csum_bnd HG.out k hk
  clear hc
  generalize hlen : cs.length = n at *
  have HL : Hid (cs.length = n) := hlen
  clear hlen
  have HRO : Hid (roomy cs) := hr
  clear hr
  go_enter Tryd.func53, Tryd.ntmps53
  go_wp2_with (at_make; refine wpList_make_full _ rfl _ _ 23 rfl w.heap.size 3 i0 (.int .i64 0) 1 Tryd.underlying23 hi hz0 hz1 .i64 .i64 _ _ n rfl rfl rfl rfl (by rw [hz2]; omega) (by unfold maxLen; omega) (Nat.le_refl _) ?_; intro w1 hown hgrow)
  have h0 : OwI w1 w.heap.size w.heap.size n (part (cs.map one) 0) := by
    rw [part_zero, List.length_map, HL.out]
    refine ⟨?_, by intro z hz; simp at hz; omega⟩
    rw [made_zeroI] at hown
    simpa using hown
  have hbw : Below w.heap.size w w1 := (Below.refl _ _).grown hgrow (Nat.le_refl _) (by intro k hk; cases hk)
  have H0 : Hid (OwI w1 w.heap.size w.heap.size n (part (cs.map one) 0)) := h0
  clear h0 hown hgrow hi hz0 hz1 hz2
  go_loopw [4, 5, 6] (fun t x i wr => ∃ k : Nat, k ≤ n ∧ i = .int .i64 k ∧ t = .int .i64 (cs.take k).sum ∧ x = .int .i64 (64 - sumF one (cs.take k)) ∧ OwI wr w.heap.size w.heap.size n (part (cs.map one) k) ∧ Below w.heap.size w wr) (fun _ _ i _ => n - (intOf i).toNat)
  case atStart => exact ⟨0, Nat.zero_le _, rfl, by simp, by simp [sumF], H0.out, hbw⟩
  case round =>
    obtain ⟨k, hk, rfl, rfl, rfl, hown, hbel⟩ := hrel
    have HO : Hid (OwI wr w.heap.size w.heap.size n (part (cs.map one) k)) := hown
    have hT := HSB.out k hk
    clear hown hbw H0
    by_cases hlt : k < n
    · obtain ⟨b, off, rfl, hbl, hcells⟩ := hb.len_pos k (by rw [HL.out]; exact hlt)
      have hsrc : wr.cell? ⟨b, off + k, none⟩ = some (.int .i64 (cs.getD k 0)) := (hbel.cell (p := ⟨b, off + k, none⟩) hbl).trans (hcells k (by rw [HL.out]; exact hlt))
      have hx := HG.out k hlt
      have hF := sumF_bnd one 1 one_bnd (cs.take k)
      have hF2 : (cs.take k).length ≤ 80 := by rw [List.length_take, HL.out]; omega
      have HS : Hid (sumF one (cs.take (k + 1)) = sumF one (cs.take k) + one (cs.getD k 0)) := sumF_succ one cs k (by rw [HL.out]; exact hlt)
      have HU : Hid ((cs.take (k + 1)).sum = (cs.take k).sum + cs.getD k 0) := sum_succ cs k (by rw [HL.out]; exact hlt)
      have hdst := HO.out.cell k (by rw [part_len _ _ (by rw [List.length_map, HL.out]; omega), List.length_map, HL.out]; exact hlt)
      have hfz := HO.out.frozen k
      have HP1 : Hid _ := one_part_set cs k (by rw [HL.out]; exact hlt)
      have HP0 : Hid _ := one_part_skip cs k (by rw [HL.out]; exact hlt)
      generalize cs.getD k 0 = x at *
      generalize hFF : sumF one (cs.take k) = F at *
      generalize hTT : (cs.take k).sum = T at *
      have hFb : 0 ≤ F ∧ F ≤ 80 := by omega
      clear hF hF2 hFF hTT hcells hb
      by_cases h5 : 0 < x
      · have HP : Hid (one x = 1) := by simp [Hid, one, h5]
        have R := HO.out.store k 1 (by omega)
        rw [HP1.out h5] at R
        have HR : Hid (OwI (wr.setCell ⟨w.heap.size, k, none⟩ (.int .i64 1)) w.heap.size w.heap.size n (part (cs.map one) (k + 1))) := R
        have HB : Hid (Below w.heap.size w (wr.setCell ⟨w.heap.size, k, none⟩ (.int .i64 1))) := hbel.setCell (p := ⟨w.heap.size, k, none⟩) (Nat.le_refl _) (.int .i64 1)
        clear R HP1 HP0
        go_wp2
        go_roundw
        case rel => exact ⟨k + 1, by omega, by go_num, by rw [HU.out], by rw [HS.out, HP.out]; go_num, by simpa using HR.out, by simpa using HB.out⟩
        case measure => simp [intOf]; omega
      · have HP : Hid (one x = 0) := by simp [Hid, one, h5]
        have HR : Hid (OwI wr w.heap.size w.heap.size n (part (cs.map one) (k + 1))) := by rw [← HP0.out h5]; exact HO.out
        clear HP1 HP0
        go_wp2
        go_roundw
        case rel => exact ⟨k + 1, by omega, by go_num, by rw [HU.out], by rw [HS.out, HP.out]; simp, HR.out, hbel⟩
        case measure => simp [intOf]; omega
    · have hkn : k = n := by omega
      subst hkn
      have hall := HO.out
      have el : (cs.map one).length = k := by rw [List.length_map]; exact HL.out
      rw [show part (cs.map one) k = cs.map one from by rw [← el]; exact part_all _] at hall
      have HA : Hid (OwI wr w.heap.size w.heap.size k (shares cs 0)) := hall
      have e : cs.take k = cs := List.take_of_length_le (by rw [HL.out]; exact Nat.le_refl _)
      rw [e] at hT ⊢
      clear hall HO el e
      have hsm : 1 ≤ sumF one cs ∧ sumF one cs ≤ 64 := HRO.out
      generalize hS : sumF one cs = S at *
      have HS : Hid (sumF one cs = S) := hS
      clear hS
      generalize cs.sum = T at *
      have HFA : Hid (∀ j, Fair cs (shares cs j) j) := fun j => fair_all (some1_of (by rw [HS.out]; exact hsm.1)) j
      have HPI : Hid (∀ ns, 0 ≤ pick cs ns k ∧ (pick cs ns k).toNat < k) := fun ns => by have := pick_in (ns := ns) (some1_of (cs := cs) (by rw [HS.out]; exact hsm.1)); rw [HL.out] at this; exact ⟨this.1, this.2.1⟩
      have HR : Hid (rest cs = (64 - S).toNat) := by unfold Hid rest; rw [HS.out]
      go_wp2
      go_loopw [5] (fun x wr => ∃ j : Nat, S + j ≤ 64 ∧ x = .int .i64 (64 - S - j) ∧ OwI wr w.heap.size w.heap.size k (shares cs j) ∧ Below w.heap.size w wr) (fun x _ => (intOf x).toNat)
      case atStart => exact ⟨0, by omega, by simp, HA.out, hbel⟩
      case round =>
        clear HA hbel
        obtain ⟨j, hj, rfl, hown, hbel⟩ := hrel
        have HO : Hid (OwI wr w.heap.size w.heap.size k (shares cs j)) := hown
        clear hown
        by_cases hlt2 : S + j < 64
        · have hf : Fair cs (shares cs j) j := HFA.out j
          have HF : Hid (Fair cs (shares cs j) j) := hf
          have HQ : Hid ((shares cs j).length = k) := by have := hf.1; rw [HL.out] at this; exact this
          have hia : Ins wr a cs := hb.below hbel (Nat.le_refl _)
          have hin : Ins wr (some ⟨w.heap.size, 0, none⟩) (shares cs j) := HO.out.byt
          have HPS : Hid (pick cs (shares cs j) k = pick cs (shares cs j) k) := rfl
          have HGV : Hid (give cs (shares cs j) = shares cs (j + 1)) := rfl
          have HSO : Hid (∀ q, (shares cs j).getD q 0 = (shares cs j).getD q 0) := fun _ => rfl
          clear hf
          generalize hns : shares cs j = ns at *
          go_wp2
          go_loopw [7, 8] (fun x i wi => ∃ k' m : Nat, k' ≤ k ∧ i = .int .i64 k' ∧ x = .int .i64 (pick cs ns k') ∧ wi = wr.drewN m) (fun _ i _ => k - (intOf i).toNat)
          case atStart => exact ⟨0, 0, Nat.zero_le _, rfl, rfl, rfl⟩
          case round =>
            obtain ⟨k', m, hk', rfl, rfl, rfl⟩ := hrel
            by_cases hlt : k' < k
            · obtain ⟨b1, o1, rfl, hb1, hc1⟩ := hia.len_pos k' (by rw [HL.out]; exact hlt)
              have hs1 := hc1 k' (by rw [HL.out]; exact hlt)
              have hs2 := HO.out.cell k' (by rw [HQ.out]; exact hlt)
              have hx := HG.out k' hlt
              have hy := HF.out.bnd k'
              have hp := pick_rng cs ns k'
              by_cases hpos : 0 < cs.getD k' 0
              · by_cases hpn : pick cs ns k' < 0
                · have HP : Hid (pick cs ns (k' + 1) = k') := pick_yes ⟨hpos, .inl hpn⟩
                  clear hc1
                  generalize pick cs ns k' = p at *
                  generalize cs.getD k' 0 = x at *
                  generalize ns.getD k' 0 = y at *
                  go_wp2
                  go_quiet (fail)
                  go_wp2
                  go_roundw
                  case rel => exact ⟨k' + 1, _, by omega, by go_num, by rw [HP.out], rfl⟩
                  case measure => simp [intOf]; omega
                · have HPY : Hid _ := @pick_yes cs ns k'
                  have HPN : Hid _ := @pick_no cs ns k'
                  have HPP : Hid (ahead cs ns (pick cs ns k') k' ↔ cs.getD (pick cs ns k').toNat 0 * ns.getD k' 0 < cs.getD k' 0 * ns.getD (pick cs ns k').toNat 0) := by
                    unfold Hid ahead
                    constructor
                    · rintro ⟨_, h | h⟩
                      · exact absurd h hpn
                      · exact h
                    · exact fun h => ⟨hpos, .inr h⟩
                  generalize pick cs ns k' = p at *
                  obtain ⟨q, rfl⟩ : ∃ q : Nat, p = q := ⟨p.toNat, by omega⟩
                  simp only [Int.toNat_natCast] at HPP
                  have hs3 := hc1 q (by rw [HL.out]; omega)
                  have hs4 := HO.out.cell q (by rw [HQ.out]; omega)
                  have hu := HG.out q (by omega)
                  have hqn : q < k := by omega
                  have hv := HF.out.bnd q
                  clear hc1 hp hpn
                  generalize cs.getD k' 0 = x at *
                  generalize ns.getD k' 0 = y at *
                  generalize cs.getD q 0 = u at *
                  generalize ns.getD q 0 = v at *
                  have m1 := mulb hx (show 0 ≤ v ∧ v ≤ 65 by omega)
                  have m2 := mulb hu (show 0 ≤ y ∧ y ≤ 65 by omega)
                  have hw1 : IntKind.i64.wrap (x * v) = x * v := IntWalk.i64_in _ (by omega)
                  have hw2 : IntKind.i64.wrap (u * y) = u * y := IntWalk.i64_in _ (by omega)
                  by_cases hcmp : u * y < x * v
                  · have HP : Hid (pick cs ns (k' + 1) = k') := HPY.out (HPP.out.2 hcmp)
                    clear HPY HPN HPP
                    go_wp2
                    go_quiet (fail)
                    go_wp2
                    go_roundw
                    case rel => exact ⟨k' + 1, _, by omega, by go_num, by rw [HP.out], rfl⟩
                    case measure => simp [intOf]; omega
                  · have HP : Hid (pick cs ns (k' + 1) = q) := HPN.out (fun h => hcmp (HPP.out.1 h))
                    clear HPY HPN HPP
                    go_wp2
                    go_quiet (fail)
                    go_wp2
                    go_roundw
                    case rel => exact ⟨k' + 1, _, by omega, by go_num, by rw [HP.out], rfl⟩
                    case measure => simp [intOf]; omega
              · have HP : Hid (pick cs ns (k' + 1) = pick cs ns k') := pick_no (fun h => hpos h.1)
                clear hc1
                generalize pick cs ns k' = p at *
                generalize cs.getD k' 0 = x at *
                obtain rfl : x = 0 := by omega
                clear hpos hx
                generalize ns.getD k' 0 = y at *
                go_wp2
                go_quiet (fail)
                go_wp2
                go_roundw
                case rel => exact ⟨k' + 1, _, by omega, by go_num, by rw [HP.out], rfl⟩
                case measure => simp [intOf]; omega
            · have hkk : k' = k := by omega
              subst hkk
              have hbel3 : Below w.heap.size w (wr.drewN m) := below_drewNN hbel m
              have HO3 : Hid (OwI (wr.drewN m) w.heap.size w.heap.size k' ns) := HO.out.drewN m
              have hpi := HPI.out ns
              have hbn := HF.out.bnd (pick cs ns k').toNat
              have hst : shares cs (j + 1) = ns.set (pick cs ns k').toNat (ns.getD (pick cs ns k').toNat 0 + 1) := by
                rw [← HGV.out]
                unfold give bump
                rw [HL.out]
              clear hbel HO hia hin hns
              generalize wr.drewN m = w3 at *
              generalize pick cs ns k' = p at *
              obtain ⟨q, rfl⟩ : ∃ q : Nat, p = q := ⟨p.toNat, by omega⟩
              simp only [Int.toNat_natCast] at hpi hbn hst
              have hdst := HO3.out.cell q (by rw [HQ.out]; omega)
              have hfz := HO3.out.frozen q
              have R := HO3.out.store q (ns.getD q 0 + 1) (by omega)
              rw [← hst] at R
              clear hst
              generalize ns.getD q 0 = v at *
              have HR2 : Hid (OwI (w3.setCell ⟨w.heap.size, q, none⟩ (.int .i64 (v + 1))) w.heap.size w.heap.size k' (shares cs (j + 1))) := R
              have HB : Hid (Below w.heap.size w (w3.setCell ⟨w.heap.size, q, none⟩ (.int .i64 (v + 1)))) := hbel3.setCell (p := ⟨w.heap.size, q, none⟩) (Nat.le_refl _) (.int .i64 (v + 1))
              clear R
              go_wp2
              go_roundw
              case rel => exact ⟨j + 1, by omega, by go_num, by simpa using HR2.out, by simpa using HB.out⟩
              case measure => simp [intOf]; omega
        · have hje : (64 - S).toNat = j := by omega
          have HF2 : Hid (OwI wr w.heap.size w.heap.size k (shares cs (rest cs))) := by rw [HR.out, hje]; exact HO.out
          go_wp2
          go_ret
          exact ⟨rfl, HF2.out, hbel⟩
end Go.Proofs.YtmhpgkfaihcmeaaDoor
