/-
  Cost of the program.
-/
import Derived.Test.YtkjebacpmmfflaaDoorHPut3
import Derived.Test.YtkjebacpmmfflaaDoorITxtI
import Derived.Test.YtkjebacpmmfflaaDoorICostI
namespace Go.Proofs.YtkjebacpmmfflaaDoor
open Go.RowKit
set_option linter.unusedVariables false

set_option maxHeartbeats 4000000 in
theorem implHuffPut_no (a : Option Addr) (ca : Nat) (ls : List Int) (b : Option Addr) (cb : Nat) (ts : List Int) (w : World) (ha : Ins w a ls) (hb : Ins w b ts) (hl1 : ls.length ≤ 281474976710656) (hl2 : ts.length ≤ 281474976710656) (hno : ¬ (lensB ls = true ∧ txtB ts ls.length = true)) (h4 : Four w) (hE : ErrT w) :
    Calls Tryd.prog 15 #[.slice a ls.length ca, .slice b ts.length cb] w fun e w' => e = .returned (.tuple #[.agg #[.slice none 0 0, .int .i64 0], .bool false]) ∧ Below w.heap.size w w' := by
  have hw : Below w.heap.size w (w.alloc (Obj.cells #[Value.slice none 0 0, Value.int IntKind.i64 0] 36)) := (Below.refl _ _).alloc (Nat.le_refl _) _
  have HT := implLens_any a ca ls _ (ha.below hw (Nat.le_refl _)) hl1 (h4.below hw) (hE.below hw)
  have r0 : (w.alloc (Obj.cells #[Value.slice none 0 0, Value.int IntKind.i64 0] 36)).cell? ⟨w.heap.size, 0, none⟩ = some (.slice none 0 0) := by simp
  have r1 : (w.alloc (Obj.cells #[Value.slice none 0 0, Value.int IntKind.i64 0] 36)).cell? ⟨w.heap.size, 1, none⟩ = some (.int .i64 0) := by simp
  have t0 : (w.alloc (Obj.cells #[Value.slice none 0 0, Value.int IntKind.i64 0] 36)).frozen? ⟨w.heap.size, 0, none⟩ = false := by simp
  have t1 : (w.alloc (Obj.cells #[Value.slice none 0 0, Value.int IntKind.i64 0] 36)).frozen? ⟨w.heap.size, 1, none⟩ = false := by simp
  have HSZ : Hid (w.heap.size < (w.alloc (Obj.cells #[Value.slice none 0 0, Value.int IntKind.i64 0] 36)).heap.size) := by simp [Hid]
  go_enter Tryd.func15, Tryd.ntmps15
  go_wp2_with fail
  generalize w.alloc (Obj.cells #[Value.slice none 0 0, Value.int IntKind.i64 0] 36) = W at *
  refine HT.mono ?_
  rintro e w1 ⟨rfl, hb1⟩
  clear HT
  have u0 := keep hb1 HSZ.out r0
  have u1 := keep hb1 HSZ.out r1
  have v0 : w1.frozen? ⟨w.heap.size, 0, none⟩ = false := (hb1.frozen (p := ⟨w.heap.size, 0, none⟩) HSZ.out).trans t0
  have v1 : w1.frozen? ⟨w.heap.size, 1, none⟩ = false := (hb1.frozen (p := ⟨w.heap.size, 1, none⟩) HSZ.out).trans t1
  have HBB : Hid (Below w.heap.size w w1) := hw.trans (hb1.mono (Nat.le_of_lt HSZ.out))
  have hib : Ins w1 b ts := hb.below HBB.out (Nat.le_refl _)
  clear hb1 r0 r1 t0 t1 hw
  cases hlb : lensB ls with
  | false =>
    go_wp2
    exact bodyPost_ret (v := .tuple #[.agg #[.slice none 0 0, .int .i64 0], .bool false]) (by simp [results, Tryd.results15, go_sem, u0, u1]) rfl ⟨rfl, by repeat (first | exact HBB.out | refine Below.setCell ?_ (by simp) _)⟩
  | true =>
    have htf : txtB ts ls.length = false := by
      cases h : txtB ts ls.length with
      | false => rfl
      | true => exact absurd ⟨hlb, h⟩ hno
    have HXT := implTxt_any b cb ts (ls.length : Int) w1 hib hl2
    rw [htf] at HXT
    clear hlb htf hno
    go_wp2_with fail
    refine HXT.mono ?_
    rintro e w2 ⟨rfl, rfl⟩
    clear HXT
    go_wp2
    exact bodyPost_ret (v := .tuple #[.agg #[.slice none 0 0, .int .i64 0], .bool false]) (by simp [results, Tryd.results15, go_sem, u0, u1]) rfl ⟨rfl, by repeat (first | exact HBB.out | refine Below.setCell ?_ (by simp) _)⟩
theorem rngI_of {zs : List Int} {m : Int} (h : ∀ z ∈ zs, 0 ≤ z ∧ z ≤ m) (hm : m ≤ 9223372036854775807) : ∀ z ∈ zs, -9223372036854775808 ≤ z ∧ z ≤ 9223372036854775807 := fun z hz => by have := h z hz; omega

set_option maxHeartbeats 800000 in
theorem implCounts_yes (a : Option Addr) (cap : Nat) (zs : List Int) (n : Nat) (w : World) (hb : Ins w a zs) (ht : txtB zs n = true) :
    Calls Tryd.prog 18 #[.slice a zs.length cap, .int .i64 n] w fun e w' =>
      e = .returned (.tuple #[.slice (some ⟨w.heap.size, 0, none⟩) n n, .bool true]) ∧ OwI w' w.heap.size w.heap.size n (cnts zs n) ∧ Below w.heap.size w w' := by
  obtain ⟨i0, hi, hz0, hz1, hz2⟩ := info_parts Tryd.infoI64
  obtain ⟨hn1, hn2, hn3⟩ := txtB_bnd ht
  have HTX : Hid (txtB zs n = true) := ht
  clear ht
  have hL : zs.length ≤ 281474976710656 := by omega
  have HT := implTxt_any a cap zs (n : Int) w hb hL
  rw [HTX.out] at HT
  generalize hlen : zs.length = L at *
  have HL : Hid (zs.length = L) := hlen
  clear hlen
  go_enter Tryd.func18, Tryd.ntmps18
  go_wp2_with fail
  refine HT.mono ?_
  rintro e w0 ⟨rfl, rfl⟩
  clear HT
  go_wp2_with (at_make; refine wpList_make_full _ rfl _ _ 23 rfl w0.heap.size 3 i0 (.int .i64 0) 1 Tryd.underlying23 hi hz0 hz1 .i64 .i64 _ _ n rfl rfl rfl rfl (by rw [hz2]; omega) (by unfold maxLen; omega) (Nat.le_refl _) ?_; intro w1 hown hgrow)
  have h0 : OwI w1 w0.heap.size w0.heap.size n (cnts (zs.take 0) n) := by
    have e : cnts (zs.take 0) n = List.replicate n 0 := by simp [cnts]
    rw [e]
    refine ⟨?_, by intro z hz; simp at hz; omega⟩
    rw [made_zeroI] at hown
    simpa using hown
  have hbw : Below w0.heap.size w0 w1 := (Below.refl _ _).grown hgrow (Nat.le_refl _) (by intro k hk; cases hk)
  have H0 : Hid (OwI w1 w0.heap.size w0.heap.size n (cnts (zs.take 0) n)) := h0
  clear h0 hown hgrow hi hz0 hz1 hz2
  go_loopw [17] (fun i wr => ∃ k : Nat, k ≤ L ∧ i = .int .i64 k ∧ OwI wr w0.heap.size w0.heap.size n (cnts (zs.take k) n) ∧ Below w0.heap.size w0 wr) (fun i _ => L - (intOf i).toNat)
  case atStart => exact ⟨0, Nat.zero_le _, rfl, H0.out, hbw⟩
  case round =>
    obtain ⟨k, hk, rfl, hown, hbel⟩ := hrel
    have HO : Hid (OwI wr w0.heap.size w0.heap.size n (cnts (zs.take k) n)) := hown
    clear hown hbw
    by_cases hlt : k < L
    · obtain ⟨b, off, rfl, hbl, hcells⟩ := hb.len_pos k (by rw [HL.out]; exact hlt)
      have hsrc : wr.cell? ⟨b, off + k, none⟩ = some (.int .i64 (zs.getD k 0)) := (hbel.cell (p := ⟨b, off + k, none⟩) hbl).trans (hcells k (by rw [HL.out]; exact hlt))
      have hx := txtB_get HTX.out k (by rw [HL.out]; exact hlt)
      have HST : Hid (bump (cnts (zs.take k) n) (zs.getD k 0) = cnts (zs.take (k + 1)) n) := cnts_take_succ zs n k (by rw [HL.out]; exact hlt)
      generalize hxx : zs.getD k 0 = x at *
      obtain ⟨x, rfl⟩ : ∃ j : Nat, x = j := ⟨x.toNat, by omega⟩
      have hdst := HO.out.cell x (by rw [cnts_len]; omega)
      have hfz := HO.out.frozen x
      have hv : 0 ≤ (cnts (zs.take k) n).getD x 0 ∧ (cnts (zs.take k) n).getD x 0 ≤ 300 := by
        have := cnts_rng (zs.take k) n _ (getD_mem (zs := cnts (zs.take k) n) (k := x) (by rw [cnts_len]; omega))
        have h3 : (zs.take k).length ≤ 300 := by rw [List.length_take, HL.out]; omega
        omega
      have R := HO.out.store x ((cnts (zs.take k) n).getD x 0 + 1) (by omega)
      have e : (cnts (zs.take k) n).set x ((cnts (zs.take k) n).getD x 0 + 1) = cnts (zs.take (k + 1)) n := by rw [← HST.out]; simp [bump]
      rw [e] at R
      generalize (cnts (zs.take k) n).getD x 0 = v at *
      have HR : Hid (OwI (wr.setCell ⟨w0.heap.size, x, none⟩ (.int .i64 (v + 1))) w0.heap.size w0.heap.size n (cnts (zs.take (k + 1)) n)) := R
      have HB : Hid (Below w0.heap.size w0 (wr.setCell ⟨w0.heap.size, x, none⟩ (.int .i64 (v + 1)))) := hbel.setCell (p := ⟨w0.heap.size, x, none⟩) (Nat.le_refl _) (.int .i64 (v + 1))
      clear R e hcells hb hxx
      go_wp2
      go_roundw
      case rel => exact ⟨k + 1, by omega, by go_num, by simpa using HR.out, by simpa using HB.out⟩
      case measure => simp [intOf]; omega
    · have hkn : k = L := by omega
      subst hkn
      have hall := HO.out
      rw [List.take_of_length_le (by rw [HL.out]; exact Nat.le_refl _)] at hall
      have HA : Hid (OwI wr w0.heap.size w0.heap.size n (cnts zs n)) := hall
      clear hall
      go_wp2
      exact bodyPost_ret (v := .tuple #[.slice (some ⟨w0.heap.size, 0, none⟩) n n, .bool true]) (by simp [results, Tryd.results18, go_sem]) rfl ⟨rfl, HA.out, hbel⟩

theorem implCounts_no (a : Option Addr) (cap : Nat) (zs : List Int) (s : Int) (w : World) (hb : Ins w a zs) (hn : zs.length ≤ 281474976710656) (ht : txtB zs s = false) :
    Calls Tryd.prog 18 #[.slice a zs.length cap, .int .i64 s] w fun e w' => e = .returned (.tuple #[.slice none 0 0, .bool false]) ∧ w' = w := by
  have HT := implTxt_any a cap zs s w hb hn
  rw [ht] at HT
  go_enter Tryd.func18, Tryd.ntmps18
  go_wp2_with fail
  refine HT.mono ?_
  rintro e w0 ⟨rfl, rfl⟩
  clear HT
  go_wp2
  exact bodyPost_ret (v := .tuple #[.slice none 0 0, .bool false]) (by simp [results, Tryd.results18, go_sem]) rfl ⟨rfl, rfl⟩
set_option maxHeartbeats 2000000 in
theorem implCost_any (a : Option Addr) (cap : Nat) (cs : List Int) (b : Option Addr) (cb : Nat) (ls : List Int) (w : World) (ha : Ins w a cs) (hb : Ins w b ls) (hn : cs.length ≤ 281474976710656) (hn2 : ls.length ≤ 281474976710656) (h4 : Four w) (hE : ErrT w) :
    Calls Tryd.prog 13 #[.slice a cs.length cap, .slice b ls.length cb] w fun e w' => e = .returned (.tuple #[.int .i64 (costN cs ls), .bool (costB cs ls)]) ∧ Below w.heap.size w w' := by
  by_cases hc : cntB cs = true
  · by_cases hl : lensB ls = true
    · by_cases hq : ls.length = cs.length
      · have HPB : Hid _ := fun k hk => pays_bnd hc hl hq k hk
        have HCG : Hid _ := fun k hk => cntB_get hc k hk
        have HLG : Hid _ := fun k hk => lensB_get hl k hk
        have h80 := cntB_bnd hc
        have HC : Hid (cntB cs = true) := hc
        have HLB : Hid (lensB ls = true) := hl
        have HQ : Hid (ls.length = cs.length) := hq
        rw [hq]
        generalize hlen : cs.length = n at *
        have HL : Hid (cs.length = n) := hlen
        clear hlen hc hl hq
        have hnn : ((n : Int) != (n : Int)) = false := by simp
        go_enter Tryd.func13, Tryd.ntmps13
        go_wp2_with fail
        rw [← HL.out]
        refine (implCnt_any a cap cs _ ha (by rw [HL.out]; exact hn)).mono ?_
        rintro e w1 ⟨rfl, rfl⟩
        rw [HC.out, HL.out]
        go_wp2_with fail
        have hsl := implLens_any b cb ls w1 hb (by rw [HQ.out]; exact hn) h4 hE
        rw [HQ.out] at hsl
        refine hsl.mono ?_
        clear hsl
        rintro e w2 ⟨rfl, hb2⟩
        rw [HLB.out]
        have ha2 := ha.below hb2 (Nat.le_refl _)
        have hbx := hb.below hb2 (Nat.le_refl _)
        have HB2 : Hid (Below w1.heap.size w1 w2) := hb2
        clear ha hb hb2 h4 hE
        go_wp2_with fail
        go_loop [6, 26] (fun x i => ∃ k : Nat, k ≤ n ∧ i = .int .i64 k ∧ x = .int .i64 (pays cs ls k) ∧ ∀ i, i < k → ¬ (0 < cs.getD i 0 ∧ ls.getD i 0 = 0)) (fun _ i => n - (intOf i).toNat)
        case atStart => exact ⟨0, Nat.zero_le _, rfl, rfl, fun i hi => by omega⟩
        case round =>
          obtain ⟨k, hk, rfl, rfl, hbad⟩ := hrel
          have HBAD : Hid (∀ i, i < k → ¬ (0 < cs.getD i 0 ∧ ls.getD i 0 = 0)) := hbad
          clear hbad
          by_cases hlt : k < n
          · obtain ⟨b1, o1, rfl, hb1, hc1⟩ := ha2.len_pos k (by rw [HL.out]; exact hlt)
            obtain ⟨b2, o2, rfl, hb2', hc2⟩ := hbx.len_pos k (by rw [HQ.out]; exact hlt)
            have hs1 := hc1 k (by rw [HL.out]; exact hlt)
            have hs2 := hc2 k (by rw [HQ.out]; exact hlt)
            have hx := HCG.out k hlt
            have hy := HLG.out k (by rw [HQ.out]; exact hlt)
            have hF := HPB.out k hk
            have hxy := mul_bnd hx hy
            have HS : Hid (pays cs ls (k + 1) = pays cs ls k + cs.getD k 0 * ls.getD k 0) := rfl
            clear hc1 hc2
            generalize hxx : cs.getD k 0 = x at *
            generalize hyy : ls.getD k 0 = y at *
            have HX : Hid (cs.getD k 0 = x ∧ ls.getD k 0 = y) := ⟨hxx, hyy⟩
            clear hxx hyy
            generalize hFF : pays cs ls k = F at *
            clear hFF
            have HW1 : Hid (wrap64 (x * y) = x * y) := IntWalk.wrap64_in _ (by omega)
            have HW2 : Hid (wrap64 (F + x * y) = F + x * y) := IntWalk.wrap64_in _ (by omega)
            clear hF hxy
            by_cases c1 : 0 < x
            · by_cases c2 : y = 0
              · have HN : Hid _ := cost_no (cs := cs) (ls := ls) (fun h => h.2.2.2 k (by rw [HL.out]; exact hlt) (by rw [HX.out.1, HX.out.2]; exact ⟨c1, c2⟩))
                subst c2
                clear HW1 HW2 HS
                go_wp2
                exact bodyPost_ret (v := .tuple #[.int .i64 0, .bool false]) (by simp [results, Tryd.results13, go_sem]) rfl ⟨by rw [HN.out.1, HN.out.2], HB2.out⟩
              · have HB' : Hid (∀ i, i < k + 1 → ¬ (0 < cs.getD i 0 ∧ ls.getD i 0 = 0)) := fun i hi => by
                  by_cases hik : i = k
                  · subst hik; rw [HX.out.1, HX.out.2]; omega
                  · exact HBAD.out i (by omega)
                go_wp2
                go_round
                case rel => exact ⟨k + 1, by omega, by go_num, by rw [HS.out, HW1.out, HW2.out], HB'.out⟩
                case measure => simp [intOf]; omega
            · have HB' : Hid (∀ i, i < k + 1 → ¬ (0 < cs.getD i 0 ∧ ls.getD i 0 = 0)) := fun i hi => by
                by_cases hik : i = k
                · subst hik; rw [HX.out.1, HX.out.2]; omega
                · exact HBAD.out i (by omega)
              go_wp2
              go_round
              case rel => exact ⟨k + 1, by omega, by go_num, by rw [HS.out, HW1.out, HW2.out], HB'.out⟩
              case measure => simp [intOf]; omega
          · have hkn : k = n := by omega
            subst hkn
            have HY : Hid _ := cost_yes (cs := cs) (ls := ls) ⟨HC.out, HLB.out, HQ.out.trans HL.out.symm, fun i hi => HBAD.out i (by rw [HL.out] at hi; exact hi)⟩
            go_wp2
            exact bodyPost_ret (v := .tuple #[.int .i64 (pays cs ls k), .bool true]) (by simp [results, Tryd.results13, go_sem]) rfl ⟨by rw [HY.out.1, HY.out.2, HL.out], HB2.out⟩
      · have HN : Hid _ := cost_no (cs := cs) (ls := ls) (fun h => hq h.2.2.1)
        have hne : ((ls.length : Int) != (cs.length : Int)) = true := by rw [bne_iff_ne]; omega
        have HC : Hid (cntB cs = true) := hc
        have HLB : Hid (lensB ls = true) := hl
        clear hc hl
        go_enter Tryd.func13, Tryd.ntmps13
        go_wp2_with fail
        refine (implCnt_any a cap cs _ ha hn).mono ?_
        rintro e w1 ⟨rfl, rfl⟩
        rw [HC.out]
        go_wp2_with fail
        refine (implLens_any b cb ls w1 hb hn2 h4 hE).mono ?_
        rintro e w2 ⟨rfl, hb2⟩
        rw [HLB.out]
        go_wp2
        exact bodyPost_ret (v := .tuple #[.int .i64 0, .bool false]) (by simp [results, Tryd.results13, go_sem]) rfl ⟨by rw [HN.out.1, HN.out.2], hb2⟩
    · have HN : Hid _ := cost_no (cs := cs) (ls := ls) (fun h => hl h.2.1)
      have HC : Hid (cntB cs = true) := hc
      have HLB : Hid (lensB ls = false) := by simpa [Hid] using hl
      clear hc hl
      go_enter Tryd.func13, Tryd.ntmps13
      go_wp2_with fail
      refine (implCnt_any a cap cs _ ha hn).mono ?_
      rintro e w1 ⟨rfl, rfl⟩
      rw [HC.out]
      go_wp2_with fail
      refine (implLens_any b cb ls w1 hb hn2 h4 hE).mono ?_
      rintro e w2 ⟨rfl, hb2⟩
      rw [HLB.out]
      go_wp2
      exact bodyPost_ret (v := .tuple #[.int .i64 0, .bool false]) (by simp [results, Tryd.results13, go_sem]) rfl ⟨by rw [HN.out.1, HN.out.2], hb2⟩
  · have HN : Hid _ := cost_no (cs := cs) (ls := ls) (fun h => hc h.1)
    have HC : Hid (cntB cs = false) := by simpa [Hid] using hc
    clear hc
    go_enter Tryd.func13, Tryd.ntmps13
    go_wp2_with fail
    refine (implCnt_any a cap cs _ ha hn).mono ?_
    rintro e w1 ⟨rfl, rfl⟩
    rw [HC.out]
    go_wp2
    exact bodyPost_ret (v := .tuple #[.int .i64 0, .bool false]) (by simp [results, Tryd.results13, go_sem]) rfl ⟨by rw [HN.out.1, HN.out.2], Below.refl _ _⟩
end Go.Proofs.YtkjebacpmmfflaaDoor
