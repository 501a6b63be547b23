/-
  l3put of the model.
-/
import Derived.Test.YtfeokafkhnbdiaaGreatDoorFg1
import Derived.Test.YtfeokafkhnbdiaaGreatDoorINorm4
import Derived.Laws.AppendOwn
import Derived.Test.YtfeokafkhnbdiaaGreatDoorSp3
import Derived.Test.YtfeokafkhnbdiaaGreatDoorFp7
namespace Go.Proofs.YtfeokafkhnbdiaaGreatDoor
open Go.RowKit
set_option linter.unusedVariables false

set_option maxRecDepth 20000 in
set_option maxHeartbeats 4000000 in
theorem l3spread_any (a : Option Addr) (cap : Nat) (zs : List Int) (w : World) (hb : Ins w a zs) (hn : normB zs = true) :
    Calls Tryz.prog 158 #[.slice a zs.length cap] w fun e w' => e = .returned (.slice (some ⟨w.heap.size, 0, none⟩) 64 64) ∧ OwI w' w.heap.size w.heap.size 64 (pl (fl 0 zs) (plc 64)) ∧ Below w.heap.size w w' := by
  obtain ⟨i0, hi, hz0, hz1, hz2⟩ := info_parts Tryz.infoI64
  have hbd := normB_bnd hn
  have hall : (∀ z ∈ zs, 0 ≤ z) ∧ zs.sum = 64 := by
    simp only [normB, decide_eq_true_eq] at hn
    exact ⟨fun z hz => (hn.2.2.1 z hz).1, hn.2.2.2⟩
  have HN : Hid (normB zs = true) := hn
  have HA : Hid ((∀ z ∈ zs, 0 ≤ z) ∧ zs.sum = 64) := hall
  have HB : Hid (Ins w a zs) := hb
  clear hn hall hb
  generalize hL : zs.length = n at *
  have HL : Hid (zs.length = n) := hL
  clear hL
  go_enter Tryz.func158, Tryz.ntmps158
  go_wp2_with (at_make; refine wpList_make_full _ rfl _ _ 38 rfl w.heap.size 3 i0 (.int .i64 0) 1 Tryz.underlying38 hi hz0 hz1 .i64 .i64 _ _ 64 rfl rfl rfl rfl (by rw [hz2]; omega) (by unfold maxLen; omega) (Nat.le_refl _) ?_; intro w1 hown hgrow)
  have HR1 : Hid (OwI w1 w.heap.size w.heap.size 64 (pl (fl 0 zs) (plc 0))) := made_rowI hown
  have HB1 : Hid (Below w.heap.size w w1) := (Below.refl _ _).grown hgrow (Nat.le_refl _) (fun k hk => by cases hk)
  clear hown hgrow
  generalize hG : w.heap.size = G at *
  have HG : Hid (w.heap.size = G) := hG
  clear hG
  go_loopw [4, 5] (fun at_ i wr => ∃ k M : Nat, k ≤ n ∧ i = .int .i64 k ∧ M = (zs.take k).sum.toNat ∧ at_ = .int .i64 ((43 * M % 64 : Nat) : Int) ∧ OwI wr G G 64 (pl (fl 0 zs) (plc M)) ∧ Below G w wr) (fun _ i _ => n - (intOf i).toNat)
  case atStart => exact ⟨0, 0, Nat.zero_le _, rfl, by simp, rfl, HR1.out, HB1.out⟩
  case round =>
    obtain ⟨k, M, hk, rfl, hM, rfl, hr, hbw⟩ := hrel
    by_cases hlt : k < n
    · obtain ⟨b1, o1, rfl, hb1, hc1⟩ := HB.out.len_pos k (by rw [HL.out]; exact hlt)
      have hs1 := hc1 k (by rw [HL.out]; exact hlt)
      have hg := normB_get HN.out k (by rw [HL.out]; exact hlt)
      obtain ⟨z, hz⟩ := Int.eq_ofNat_of_zero_le hg.1
      have HZ : Hid (zs.getD k 0 = (z : Int)) := hz
      have hsc := hs1
      rw [hz] at hsc hg
      have HS : Hid (w.cell? ⟨b1, o1 + k, none⟩ = some (.int .i64 z)) := hsc
      have HBW : Hid (Below G w wr) := hbw
      have HRR : Hid (OwI wr G G 64 (pl (fl 0 zs) (plc M))) := hr
      have HM : Hid (M = (zs.take k).sum.toNat) := hM
      rw [HG.out] at hb1
      have hz64 : z ≤ 64 := by omega
      clear hs1 hsc hc1 hz hbw hr hM hg
      generalize hq : 43 * M % 64 = q at *
      have HQ : Hid (43 * M % 64 = q) := hq
      clear hq
      go_wp2
      go_loopw [4, 6] (fun at_ j wr => ∃ m M' : Nat, m ≤ z ∧ j = .int .i64 m ∧ M' = M + m ∧ at_ = .int .i64 ((43 * M' % 64 : Nat) : Int) ∧ OwI wr G G 64 (pl (fl 0 zs) (plc M')) ∧ Below G w wr) (fun _ j _ => z - (intOf j).toNat)
      case atStart => exact ⟨0, M, Nat.zero_le _, rfl, by simp, by rw [HQ.out], HRR.out, HBW.out⟩
      case round =>
        obtain ⟨m, M', hm, rfl, hM', rfl, hr, hbw⟩ := hrel
        have hcell : wr.cell? ⟨b1, o1 + k, none⟩ = some (.int .i64 z) := keep hbw hb1 HS.out
        by_cases hmz : m < z
        · have HF : Hid ((fl 0 zs).getD M' 0 = ((k : Nat) : Int)) := by
            have := fl_at zs 0 k m HA.out.1 (by rw [HL.out]; exact hlt) (by rw [HZ.out]; omega)
            rw [← HM.out, ← hM', Nat.zero_add] at this
            exact this
          obtain ⟨q', hq'⟩ : ∃ q', 43 * M' % 64 = q' := ⟨_, rfl⟩
          have hq64 : q' < 64 := by omega
          have HP : Hid ((pl (fl 0 zs) (plc M')).set q' (k : Int) = pl (fl 0 zs) (plc (M' + 1))) := by
            unfold Hid
            rw [plc_succ, pl_snoc, plc_len, HF.out, hq']
          have hc2 := hr.cell q' (by rw [pl_len]; exact hq64)
          have hf2 := hr.frozen q'
          have HRW : Hid (OwI (wr.setCell ⟨G, q', none⟩ (.int .i64 k)) G G 64 (pl (fl 0 zs) (plc (M' + 1)))) := by
            have := hr.store q' (k : Int) (by omega)
            rw [HP.out] at this
            exact this
          have HBW2 : Hid (Below G w (wr.setCell ⟨G, q', none⟩ (.int .i64 k))) := hbw.setCell (by simp) _
          have HQ2 : Hid ((q' + 43) % 64 = 43 * (M' + 1) % 64) := by unfold Hid; omega
          have HM' : Hid (M' = M + m) := hM'
          generalize (pl (fl 0 zs) (plc M')).getD q' 0 = old at *
          rw [hq']
          clear hr hbw hM' hq' HP HF
          go_wp2
          go_roundw
          case rel => exact ⟨m + 1, M' + 1, by omega, by go_num, by rw [HM'.out, Nat.add_assoc], by rw [← HQ2.out]; simp; try omega, HRW.out, HBW2.out⟩
          case measure => simp [intOf]; omega
        · have hme : m = z := by omega
          subst hme
          have HRW : Hid (OwI wr G G 64 (pl (fl 0 zs) (plc M'))) := hr
          have HBW2 : Hid (Below G w wr) := hbw
          have HMS : Hid (M' = (zs.take (k + 1)).sum.toNat) := by
            unfold Hid
            have h1 := sum_succ zs k (by rw [HL.out]; exact hlt)
            have h2 := sum_nn HA.out.1 k
            rw [h1, HZ.out, hM', HM.out]
            omega
          generalize hq' : 43 * M' % 64 = q' at *
          have HQ2 : Hid (43 * M' % 64 = q') := hq'
          clear hr hbw hM' hq'
          go_wp2
          go_roundw
          case rel => exact ⟨k + 1, M', by omega, by go_num, HMS.out, by rw [HQ2.out], HRW.out, HBW2.out⟩
          case measure => simp [intOf]; omega
    · have hke : k = n := by omega
      subst hke
      have HM64 : Hid (M = 64) := by
        unfold Hid
        have h1 := HL.out
        rw [hM, ← h1, List.take_length, HA.out.2]
        rfl
      have HRR : Hid (OwI wr G G 64 (pl (fl 0 zs) (plc M))) := hr
      have HBW : Hid (Below G w wr) := hbw
      generalize hq : 43 * M % 64 = q at *
      clear hr hbw hM hq
      go_wp2
      go_ret
      have h64 := HM64.out
      subst h64
      rw [HG.out]
      exact ⟨rfl, HRR.out, HBW.out⟩
theorem Tryz.infoCell : (Tryz.prog.info? 177).map (fun i => (i.zero, i.size, i.bytes)) = some (some (.agg #[.int .i64 0, .int .i64 0, .int .i64 0]), 3, 24) := by kernel_rfl

/-- A slice of cells that the call itself made, from block B on: flat. -/
def CV (w : World) (B : Nat) (v : Value) (n : Nat) (fs : List Int) : Prop := w.ownsRow B 177 3 v n (fs.map (Value.int .i64))
theorem CV.only {S : Nat → Prop} {w w' : World} {B n : Nat} {v : Value} {fs : List Int} (h : CV w B v n fs) (ho : Only S w w') (hs : ∀ k, B ≤ k → ¬ S k) : CV w' B v n fs := by
  refine ⟨h.1, ?_⟩
  rcases h.2 with h' | ⟨g, cap, cur, rfl, hg, hh, r⟩
  · exact .inl h'
  · exact .inr ⟨g, cap, cur, rfl, hg, (ho.block g (Array.getElem?_eq_some_iff.1 hh).1 (hs g hg)).trans hh, r⟩

theorem cv_weak {w : World} {B B' n : Nat} {v : Value} {fs : List Int} (h : CV w B v n fs) (hB : B' ≤ B) : CV w B' v n fs := by
  refine ⟨h.1, ?_⟩
  rcases h.2 with h' | ⟨g, cap, cur, rfl, hg, r⟩
  · exact .inl h'
  · exact .inr ⟨g, cap, cur, rfl, by omega, r⟩
theorem cv_form {w : World} {B n : Nat} {v : Value} {xs : List Value} {e : TypeId} {sz : Nat} (h : w.ownsRow B e sz v n xs) : ∃ (a : Option Addr) (c : Nat), v = .slice a n c := by
  rcases h.2 with ⟨rfl, rfl⟩ | ⟨g, cap, cur, rfl, _⟩
  · exact ⟨none, 0, rfl⟩
  · exact ⟨_, cap, rfl⟩
theorem cv_blk {w : World} {B n : Nat} {v : Value} {xs : List Value} {e : TypeId} {sz b : Nat} (h : w.ownsRow B e sz v n xs) (hb : v.ownBlock = some b) : B ≤ b := by
  rcases h.2 with ⟨rfl, rfl⟩ | ⟨g, cap, cur, rfl, hg, _⟩
  · simp [Value.ownBlock] at hb
  · simp [Value.ownBlock] at hb
    omega
set_option maxRecDepth 20000 in
set_option maxHeartbeats 4000000 in
theorem l3table_any (a : Option Addr) (cap : Nat) (zs : List Int) (w : World) (hb : Ins w a zs) (hn : normB zs = true) :
    Calls Tryz.prog 141 #[.slice a zs.length cap] w fun e w' => ∃ a' c', e = .returned (.slice a' 64 c') ∧ CV w' w.heap.size (.slice a' 64 c') 64 (tb (pl (fl 0 zs) (plc 64)) zs 64) ∧ Below w.heap.size w w' := by
  obtain ⟨i0, hi, hz0, hz1, hz2⟩ := info_parts Tryz.infoI64
  obtain ⟨ic, hic, hc0, hc1, hc2⟩ := info_parts Tryz.infoCell
  have hbd := normB_bnd hn
  have HSP := l3spread_any a cap zs w hb hn
  have HSY : Hid (∀ p, p < 64 → ∃ s : Nat, (pl (fl 0 zs) (plc 64)).getD p 0 = (s : Int) ∧ s < zs.length ∧ 0 < zs.getD s 0 ∧ zs.getD s 0 ≤ 64) := fun p hp => sp_sym hn p hp
  have HSL : Hid ((pl (fl 0 zs) (plc 64)).length = 64) := pl_len _ _
  generalize pl (fl 0 zs) (plc 64) = SP at *
  have HN : Hid (normB zs = true) := hn
  clear hn
  obtain ⟨b1, o1, rfl, hb1, hcz⟩ := hb.len_pos 0 (by omega)
  have HB : Hid (Ins w (some ⟨b1, o1, none⟩) zs) := hb
  have HCZ : Hid (∀ i, i < zs.length → w.cell? ⟨b1, o1 + i, none⟩ = some (.int .i64 (zs.getD i 0))) := hcz
  clear hb hcz
  generalize hL : zs.length = L at *
  have HL : Hid (zs.length = L) := hL
  clear hL
  go_enter Tryz.func141, Tryz.ntmps141
  go_wp2_with fail
  refine HSP.mono ?_
  clear HSP
  rintro e w1 ⟨rfl, ho1, hb1'⟩
  have HO1 : Hid (OwI w1 w.heap.size w.heap.size 64 SP) := ho1
  have HB1 : Hid (Below w.heap.size w w1) := hb1'
  have hs1 := ho1.lt.2
  clear ho1 hb1'
  generalize hG : w.heap.size = G at *
  have HG : Hid (w.heap.size = G) := hG
  clear hG
  have HN0 : Hid ((w1.alloc (Obj.cells #[] 3)).ownsRow w1.heap.size 3 1 (.slice (some ⟨w1.heap.size, 0, none⟩) 0 0) 0 []) := ⟨rfl, .inr ⟨w1.heap.size, 0, #[], rfl, Nat.le_refl _, heap_alloc_new _ _, Nat.le_refl _, Nat.zero_le _, rfl, rfl⟩⟩
  have HNW : Hid (∀ j u, (zs.map (Value.int .i64))[j]? = some u → (w1.alloc (Obj.cells #[] 3)).cell? ((⟨b1, o1, none⟩ : Addr).add j) = some u) := by
    intro j u hu
    rw [List.getElem?_map] at hu
    cases hq : zs[j]? with
    | none => rw [hq] at hu; simp at hu
    | some z =>
      rw [hq] at hu
      simp at hu
      subst hu
      have hj : j < zs.length := (List.getElem?_eq_some_iff.1 hq).1
      have := HCZ.out j (by rw [← HL.out]; exact hj)
      rw [List.getD_eq_getElem?_getD, hq] at this
      have e : (⟨b1, o1, none⟩ : Addr).add j = ⟨b1, o1 + j, none⟩ := by unfold Addr.add; split <;> simp_all
      rw [e]
      exact keepA _ (by omega) (keep HB1.out hb1 this)
  have HZM : Hid ((zs.map (Value.int .i64)).length = L * 1) := by unfold Hid; rw [List.length_map, HL.out]; omega
  go_wp2_with (at_builtin; (refine wpList_append_own _ rfl _ _ 38 rfl w1.heap.size 3 i0 (.int .i64 0) 1 8 Tryz.underlying38 hi hz0 hz1 hz2 rfl (by decide) _ 0 [] rfl HN0.out ⟨b1, o1, none⟩ L cap (zs.map (Value.int .i64)) rfl HZM.out HNW.out (by intro u hu; simp at hu; obtain ⟨z, _, rfl⟩ := hu; rfl) (by unfold maxLen; omega) (by omega) (by simp) ?_; intro v2 w2 hov2 hgr2 hnil2))
  have ho2 : Only (fun k => w1.heap.size ≤ k) w1 w2 := ((Only.refl (fun k => w1.heap.size ≤ k) w1).alloc _).grown hgr2 (fun k hk => .inl (by cases hk; exact Nat.le_refl _))
  have hwz : G ≤ w1.heap.size := by omega
  have HB2 : Hid (Below G w w2) := HB1.out.trans (ho2.below hwz (fun k hk => by omega))
  have HP2 : Hid (OwI w2 G G 64 SP) := HO1.out.only ho2 (by omega)
  have hov2' : w2.ownsRow w1.heap.size 3 1 v2 L (zs.map (Value.int .i64)) := by simpa using hov2
  obtain ⟨g2, c2, rfl, hg2⟩ : ∃ g2 c2, v2 = .slice (some ⟨g2, 0, none⟩) L c2 ∧ w1.heap.size ≤ g2 := by
    rcases hov2'.2 with ⟨_, h0⟩ | ⟨g, cp, cur, rfl, hg, _⟩
    · omega
    · exact ⟨g, cp, rfl, hg⟩
  have HX2 : Hid (OwI w2 w1.heap.size g2 c2 (nx SP zs 0)) := ⟨by show w2.ownsRow _ _ _ (.slice _ zs.length c2) zs.length _; rw [HL.out]; exact hov2', HB.out.1⟩
  have hg2s := HX2.out.lt.2
  clear hov2 hov2' hgr2 hnil2 ho2 HO1 HB1 HN0 HNW HZM
  generalize hB3 : w2.heap.size = B3 at *
  have HB3 : Hid (w2.heap.size = B3) := hB3
  clear hB3
  generalize w1.heap.size = B2 at *
  go_loopw [5, 6] (fun v i wr => ∃ (k : Nat) (av : Option Addr) (cv : Nat), k ≤ 64 ∧ i = .int .i64 k ∧ v = .slice av k cv ∧ CV wr B3 (.slice av k cv) k (tb SP zs k) ∧ OwI wr B2 g2 c2 (nx SP zs k) ∧ OwI wr G G 64 SP ∧ Below G w wr ∧ B3 ≤ wr.heap.size) (fun _ i _ => 64 - (intOf i).toNat)
  case atStart => exact ⟨0, none, 0, Nat.zero_le _, rfl, rfl, ⟨rfl, .inl ⟨rfl, rfl⟩⟩, HX2.out, HP2.out, HB2.out, by rw [HB3.out]; exact Nat.le_refl _⟩
  case round =>
    obtain ⟨k, av, cv, hk, rfl, rfl, hcv, hnx, hsp, hbel, hsz⟩ := hrel
    by_cases hlt : k < 64
    · obtain ⟨s, hs, hsl, hzp, hz64⟩ := HSY.out k hlt
      have hbn := nx_bnd SP zs k s
      obtain ⟨X, hX⟩ := Int.eq_ofNat_of_zero_le (show 0 ≤ (nx SP zs k).getD s 0 by omega)
      have hX1 : 1 ≤ X := by omega
      have hX2 : X ≤ 127 := by omega
      have q0 := hsp.cell k (by rw [HSL.out]; exact hlt)
      rw [hs] at q0
      have q1 := hnx.cell s (by rw [nx_len, HL.out]; exact hsl)
      rw [hX] at q1
      have qf := hnx.frozen s
      have HNX : Hid (OwI (wr.setCell ⟨g2, s, none⟩ (.int .i64 ((X : Int) + 1))) B2 g2 c2 (nx SP zs (k + 1))) := by
        have := hnx.store s ((X : Int) + 1) (by omega)
        rw [show nx SP zs (k + 1) = (nx SP zs k).set s ((X : Int) + 1) from by rw [nx, hs, Int.toNat_natCast, hX]]
        exact this
      have hon : Only (fun b => b = g2) wr (wr.setCell ⟨g2, s, none⟩ (.int .i64 ((X : Int) + 1))) := (Only.refl (fun b => b = g2) wr).setCell (p := ⟨g2, s, none⟩) (.inl rfl) _
      have HCV : Hid (CV (wr.setCell ⟨g2, s, none⟩ (.int .i64 ((X : Int) + 1))) B3 (.slice av k cv) k (tb SP zs k)) := hcv.only hon (fun b hb => by omega)
      have HSPW : Hid (OwI (wr.setCell ⟨g2, s, none⟩ (.int .i64 ((X : Int) + 1))) G G 64 SP) := hsp.only hon (by omega)
      have HBW : Hid (Below G w (wr.setCell ⟨g2, s, none⟩ (.int .i64 ((X : Int) + 1)))) := hbel.trans (hon.below (by omega) (fun b hb => by omega))
      have HSZ : Hid (B3 ≤ (wr.setCell ⟨g2, s, none⟩ (.int .i64 ((X : Int) + 1))).heap.size) := Nat.le_trans hsz hon.size
      have HTB : Hid (tb SP zs (k + 1) = tb SP zs k ++ [(s : Int), ((wd X : Nat) : Int), ((X * 2 ^ wd X : Nat) : Int) - 64]) := by
        unfold Hid
        rw [tb, hs, Int.toNat_natCast, hX, Int.toNat_natCast]
      have HWD := wd_rng hX1 hX2
      have HWL : Hid (∀ b, b < wd X → X * 2 ^ b < 64) := fun b hb => wd_least hX1 hX2 hb
      have HWD' : Hid _ := HWD
      have hw6 := HWD.1
      clear hcv hnx hsp hbel hsz hon hbn hX hs HWD hzp hz64
      generalize hW : wd X = W at *
      clear hW
      have hsL : s < L := hsl
      go_wp2
      generalize wr.setCell ⟨g2, s, none⟩ (.int .i64 ((X : Int) + 1)) = wq at *
      go_loop [9] (fun b => ∃ j : Nat, j ≤ W ∧ b = .int .i64 j) (fun b => W - (intOf b).toNat)
      case atStart => exact ⟨0, Nat.zero_le _, rfl⟩
      case round =>
        obtain ⟨j, hj, rfl⟩ := hrel
        have hsh := shl_in X j (by omega) (by omega)
        by_cases hjW : j < W
        · have hp : wrap64 ((X : Int) * 2 ^ j) < 64 := by rw [hsh]; have := HWL.out j hjW; omega
          have hp2 : decide (wrap64 ((X : Int) * 2 ^ j) < 64) = true := by simpa using hp
          clear hsh hp
          go_wp2
          go_round
          case rel => exact ⟨j + 1, by omega, by go_num⟩
          case measure => simp [intOf]; omega
        · have hjw : j = W := by omega
          subst hjw
          obtain ⟨Y, hY⟩ : ∃ Y, X * 2 ^ j = Y := ⟨_, rfl⟩
          rw [hY] at hsh
          have HW2 := HWD'.out.2
          rw [hY] at HW2
          have hy1 : (64 : Int) ≤ Y := by omega
          have hy2 : (Y : Int) < 128 := by omega
          have hp2 : decide (wrap64 ((X : Int) * 2 ^ j) < 64) = false := by rw [hsh]; simpa using hy1
          have HT1 : Hid (tb SP zs (k + 1) = tb SP zs k ++ [(s : Int), (j : Int), (Y : Int) - 64]) := by
            have := HTB.out
            rw [hY] at this
            exact this
          have HCA : Hid ((wq.alloc (Obj.cells #[Value.int IntKind.i64 s, Value.int IntKind.i64 j, Value.int IntKind.i64 ((Y : Int) - 64)] 177)).ownsRow B3 177 3 (.slice av k cv) k ((tb SP zs k).map (Value.int .i64))) := HCV.out.only (S := fun _ => False) ((Only.refl (fun _ => False) wq).alloc _) (by simp)
          have HNE : Hid (∀ (i : Nat) (u : Value), [Value.int .i64 (s : Int), Value.int .i64 (j : Int), Value.int .i64 ((Y : Int) - 64)][i]? = some u → (wq.alloc (Obj.cells #[Value.int IntKind.i64 s, Value.int IntKind.i64 j, Value.int IntKind.i64 ((Y : Int) - 64)] 177)).cell? ((⟨wq.heap.size, 0, none⟩ : Addr).add i) = some u) := by
            intro i u hu
            have e : (⟨wq.heap.size, 0, none⟩ : Addr).add i = ⟨wq.heap.size, i, none⟩ := by unfold Addr.add; split <;> simp_all
            rw [e, cell_of_row _ _ i _ _ _ (heap_alloc_new wq _)]
            simpa using hu
          have hza : B3 ≤ (wq.alloc (Obj.cells #[Value.int IntKind.i64 s, Value.int IntKind.i64 j, Value.int IntKind.i64 ((Y : Int) - 64)] 177)).heap.size := by have := HSZ.out; simp; omega
          have HSH : Hid _ := hsh
          clear HTB HWL HWD' HW2 hY
          go_wp2_with (at_builtin; (refine wpList_append_own _ rfl _ _ 194 rfl B3 177 ic (.agg #[.int .i64 0, .int .i64 0, .int .i64 0]) 3 24 Tryz.underlying194 hic hc0 hc1 hc2 rfl (by decide) (.slice av k cv) k _ rfl HCA.out ⟨wq.heap.size, 0, none⟩ 1 1 [Value.int .i64 (s : Int), Value.int .i64 (j : Int), Value.int .i64 ((Y : Int) - 64)] rfl rfl HNE.out (by intro u hu; simp at hu; rcases hu with rfl | rfl | rfl <;> rfl) (by unfold maxLen; omega) (by omega) hza ?_; intro v5 w5 hov5 hgr5 hnil5; obtain ⟨a5, c5, rfl⟩ := cv_form hov5))
          have ho5 : Only (fun b => B3 ≤ b) wq w5 := ((Only.refl (fun b => B3 ≤ b) wq).alloc _).grown hgr5 (fun b hb => .inl (cv_blk HCA.out hb))
          have hGB : G ≤ B3 := by omega
          go_roundw
          case rel =>
            refine ⟨k + 1, a5, c5, by omega, by go_num, rfl, ?_, HNX.out.only ho5 (by omega), HSPW.out.only ho5 (by omega), HBW.out.trans (ho5.below (by have := HSZ.out; omega) (fun b hb => by omega)), Nat.le_trans HSZ.out ho5.size⟩
            unfold CV
            rw [HT1.out, List.map_append]
            exact hov5
          case measure => simp [intOf]; omega
    · have hke : k = 64 := by omega
      subst hke
      have HCV : Hid _ := hcv
      have HBW : Hid _ := hbel
      clear hcv hnx hsp hbel
      go_wp2
      go_ret
      rw [HG.out]
      exact ⟨av, cv, rfl, cv_weak HCV.out (by omega), HBW.out⟩
/-- A row of numbers that is only read, between two blocks. -/
def InR (w : World) (B U : Nat) (a : Option Addr) (fs : List Int) : Prop :=
  (∀ z ∈ fs, -9223372036854775808 ≤ z ∧ z ≤ 9223372036854775807) ∧ (fs = [] ∨ ∃ g, a = some ⟨g, 0, none⟩ ∧ B ≤ g ∧ g < U ∧ U ≤ w.heap.size ∧ ∀ i, i < fs.length → w.cell? ⟨g, i, none⟩ = some (.int .i64 (fs.getD i 0)))
theorem InR.byt {w : World} {B U : Nat} {a : Option Addr} {fs : List Int} (h : InR w B U a fs) : Ins w a fs := by
  refine ⟨h.1, fun hp => ?_⟩
  rcases h.2 with h' | ⟨g, rfl, h1, h2, h4, h3⟩
  · rw [h'] at hp; simp at hp
  · exact ⟨g, 0, rfl, by omega, fun i hi => by rw [Nat.zero_add]; exact h3 i hi⟩
theorem InR.only {S : Nat → Prop} {w w' : World} {B U : Nat} {a : Option Addr} {fs : List Int} (h : InR w B U a fs) (ho : Only S w w') (hs : ∀ k, B ≤ k → k < U → ¬ S k) : InR w' B U a fs := by
  refine ⟨h.1, ?_⟩
  rcases h.2 with h' | ⟨g, rfl, h1, h2, h4, h3⟩
  · exact .inl h'
  · exact .inr ⟨g, rfl, h1, h2, Nat.le_trans h4 ho.size, fun i hi => ho.cell (by omega) (hs g h1 h2) (h3 i hi)⟩
theorem InR.below {w w' : World} {B U : Nat} {a : Option Addr} {fs : List Int} (h : InR w B U a fs) (ho : Below w.heap.size w w') : InR w' B U a fs := h.only (Only.ofBelow (S := fun _ => False) ho (Nat.le_refl _)) (by simp)
theorem InR.mono {w : World} {B B' U : Nat} {a : Option Addr} {fs : List Int} (h : InR w B U a fs) (h1 : B' ≤ B) : InR w B' U a fs := by
  refine ⟨h.1, ?_⟩
  rcases h.2 with h' | ⟨g, rfl, k1, r⟩
  · exact .inl h'
  · exact .inr ⟨g, rfl, by omega, r⟩
theorem CV.inR {w : World} {B n c : Nat} {a : Option Addr} {fs : List Int} (h : CV w B (.slice a n c) n fs) (hr : ∀ z ∈ fs, -9223372036854775808 ≤ z ∧ z ≤ 9223372036854775807) (hl : fs.length = n * 3) : InR w B w.heap.size a fs := by
  refine ⟨hr, ?_⟩
  rcases h.2 with ⟨h', rfl⟩ | ⟨g, cap, cur, h', hg, r⟩
  · left
    exact List.eq_nil_of_length_eq_zero (by omega)
  · right
    simp at h'
    obtain ⟨rfl, rfl⟩ := h'
    have hlt := (h.lt g rfl).2
    refine ⟨g, rfl, hg, hlt, Nat.le_refl _, fun i hi => ?_⟩
    rw [World.ownsRow.cellAt h i (by omega)]
    simp [List.getElem?_eq_getElem hi]

theorem lt_powP {pp z bb : Nat} (h : pp - z < 2 ^ bb) (hz : z ≤ pp) : (pp : Int) - (z : Int) < 2 ^ ((bb : Int)).toNat := by
  have e : ((2 : Int) ^ bb) = ((2 ^ bb : Nat) : Int) := by simp
  rw [Int.toNat_natCast, e]
  generalize 2 ^ bb = P at *
  omega
set_option maxRecDepth 20000 in
set_option maxHeartbeats 8000000 in
theorem l3put_any (a : Option Addr) (ca : Nat) (ls : List Int) (b : Option Addr) (cb : Nat) (ts T : List Int) (w : World) (ha : Ins w a ls) (hb : Ins w b ts) (hnb : normB ls = true) (hTe : tb (pl (fl 0 ls) (plc 64)) ls 64 = T) (htl : ts.length ≤ 300) (hts : ∀ k, k < ts.length → 0 ≤ ts.getD k 0 ∧ ts.getD k 0 < ls.length) (hsh : shd ls ts) :
    Calls Tryz.prog 114 #[.slice a ls.length ca, .slice b ts.length cb] w fun e w' => ∃ a' cp, e = .returned (.agg #[.slice a' (enc (fN T ts) (fV T ts)).length cp, .int .i64 (fN T ts : Nat)]) ∧ Mine w' w.heap.size w'.heap.size a' cp (enc (fN T ts) (fV T ts)) ∧ Below w.heap.size w w' := by
  have hw : Below w.heap.size w (w.alloc (Obj.cells #[Value.slice none 0 0, Value.int IntKind.i64 0] 40)) := (Below.refl _ _).alloc (Nat.le_refl _) _
  have HTB : Hid (Tab T ls) := by unfold Hid; rw [← hTe]; exact tab_tb hnb
  have HTR : Hid (∀ z ∈ T, -9223372036854775808 ≤ z ∧ z ≤ 9223372036854775807) := by
    intro z hz
    rw [← hTe] at hz
    have := tb_rng hnb 64 (Nat.le_refl _) z hz
    omega
  have HLT := l3table_any a ca ls _ (ha.below hw (Nat.le_refl _)) hnb
  rw [hTe] at HLT
  have HSZ : Hid (w.heap.size < (w.alloc (Obj.cells #[Value.slice none 0 0, Value.int IntKind.i64 0] 40)).heap.size) := by simp [Hid]
  have HR0 : Hid ((w.alloc (Obj.cells #[Value.slice none 0 0, Value.int IntKind.i64 0] 40)).cell? ⟨w.heap.size, 0, none⟩ = some (.slice none 0 0) ∧ (w.alloc (Obj.cells #[Value.slice none 0 0, Value.int IntKind.i64 0] 40)).cell? ⟨w.heap.size, 1, none⟩ = some (.int .i64 0) ∧ (w.alloc (Obj.cells #[Value.slice none 0 0, Value.int IntKind.i64 0] 40)).frozen? ⟨w.heap.size, 0, none⟩ = false ∧ (w.alloc (Obj.cells #[Value.slice none 0 0, Value.int IntKind.i64 0] 40)).frozen? ⟨w.heap.size, 1, none⟩ = false) := ⟨by simp, by simp, by simp, by simp⟩
  have HP : Hid (Ins w b ts ∧ (∀ k, k < ts.length → 0 ≤ ts.getD k 0 ∧ ts.getD k 0 < ls.length) ∧ shd ls ts ∧ Below w.heap.size w (w.alloc (Obj.cells #[Value.slice none 0 0, Value.int IntKind.i64 0] 40))) := ⟨hb, hts, hsh, hw⟩
  clear hb hts hsh hnb hTe ha hw
  go_enter Tryz.func114, Tryz.ntmps114
  go_wp2_with fail
  generalize w.alloc (Obj.cells #[Value.slice none 0 0, Value.int IntKind.i64 0] 40) = W at *
  refine HLT.mono ?_
  clear HLT
  rintro e w1 ⟨aT, cT, rfl, hcv, hb1⟩
  have hinr := hcv.inR HTR.out HTB.out.gd.len
  have HSI : Hid (SI (w1.alloc (Obj.cells #[Value.slice none 0 0, Value.int IntKind.i64 0] 40)) w1.heap.size w1.heap.size 0 0) := SI.new w1 w1.heap.size (Nat.le_refl _)
  have HB1 : Hid (Below w.heap.size w w1 ∧ w.heap.size < w1.heap.size ∧ Ins w1 aT T ∧ Below w1.heap.size w1 (w1.alloc (Obj.cells #[Value.slice none 0 0, Value.int IntKind.i64 0] 40))) := ⟨HP.out.2.2.2.trans (hb1.mono (Nat.le_of_lt HSZ.out)), by have := HSZ.out; have := hb1.size; omega, hinr.byt, (Below.refl _ _).alloc (Nat.le_refl _) _⟩
  have HR1 : Hid (w1.cell? ⟨w.heap.size, 0, none⟩ = some (.slice none 0 0) ∧ w1.cell? ⟨w.heap.size, 1, none⟩ = some (.int .i64 0) ∧ w1.frozen? ⟨w.heap.size, 0, none⟩ = false ∧ w1.frozen? ⟨w.heap.size, 1, none⟩ = false) := ⟨keep hb1 HSZ.out HR0.out.1, keep hb1 HSZ.out HR0.out.2.1, (hb1.frozen (p := ⟨w.heap.size, 0, none⟩) HSZ.out).trans HR0.out.2.2.1, (hb1.frozen (p := ⟨w.heap.size, 1, none⟩) HSZ.out).trans HR0.out.2.2.2⟩
  clear hcv hinr hb1 HR0 HSZ
  generalize hLn : ts.length = n at *
  have HLn : Hid (ts.length = n ∧ True) := ⟨hLn, trivial⟩
  clear hLn
  go_wp2
  generalize hB : w1.heap.size = B at *
  have HB : Hid (w1.heap.size = B ∧ True) := ⟨hB, trivial⟩
  clear hB
  go_loopw [6, 8] (fun s i wr => ∃ (k : Nat) (iz : Int), k ≤ n ∧ i = .int .i64 iz ∧ iz = (n : Int) - 1 - k ∧ s = .int .i64 ((fpS T ts k).1 : Nat) ∧ SI wr B B (fpS T ts k).2.1 (fpS T ts k).2.2 ∧ Below B w1 wr) (fun _ i _ => (intOf i + 1).toNat)
  case atStart => exact ⟨0, (n : Int) - 1, Nat.zero_le _, rfl, by simp, rfl, HSI.out, HB1.out.2.2.2⟩
  case round =>
    clear HSI
    obtain ⟨k, iz, hk, rfl, hiz, rfl, hsi, hbel⟩ := hrel
    obtain ⟨h1, h2, h3⟩ := fpS_ok HTB.out (by rw [HLn.out.1]; exact HP.out.2.1) k (by rw [HLn.out.1]; exact hk) (fun j hj => HP.out.2.2.1 _ (by rw [HLn.out.1]; omega))
    have HS : Hid (SI wr B B (fpS T ts k).2.1 (fpS T ts k).2.2 ∧ Below B w1 wr ∧ (fpS T ts k).2.1 ≤ 6 * k ∧ iz = (n : Int) - 1 - k) := ⟨hsi, hbel, h2, hiz⟩
    by_cases hlt : k < n
    · obtain ⟨j, hj⟩ : ∃ j : Nat, iz = j := ⟨iz.toNat, by omega⟩
      subst hj
      have hjn : j < n := by omega
      have hjk : n - 1 - k = j := by omega
      have HF := fpS_first HTB.out (by rw [HLn.out.1]; exact HP.out.2.1) k (by rw [HLn.out.1]; exact hlt) (fun j hj => HP.out.2.2.1 _ (by rw [HLn.out.1]; omega))
      have HST : Hid ((fpS T ts (k + 1)).2.1 = (fpS T ts k).2.1 + cB T (fpS T ts (k + 1)).1 ∧ (fpS T ts (k + 1)).2.2 = (fpS T ts k).2.2 + ((fpS T ts k).1 - cZ T (fpS T ts (k + 1)).1) * 2 ^ (fpS T ts k).2.1) := ⟨rfl, rfl⟩
      rw [HLn.out.1, hjk] at HF
      obtain ⟨b1, o1, rfl, hb1, hc1⟩ := (HP.out.1.below (HB1.out.1.trans (hbel.mono (Nat.le_of_lt HB1.out.2.1))) (Nat.le_refl _)).len_pos j (by rw [HLn.out.1]; exact hjn)
      have hs0 := hc1 j (by rw [HLn.out.1]; exact hjn)
      have hTw : Ins wr aT T := HB1.out.2.2.1.below hbel (by rw [HB.out.1]; exact Nat.le_refl _)
      have HLF := l3from_any aT cT T ls.length (ts.getD j 0) (fpS T ts k).1 (fpS T ts (k + 1)).1 wr hTw HTB.out.gd HF h1
      obtain ⟨sy, bb, z, e1, e2, e3, hsy, hb6, hz64⟩ := HTB.out.gd.cell (fpS T ts (k + 1)).1 HF.1
      have hcb : cB T (fpS T ts (k + 1)).1 = bb := by unfold cB; rw [e2, Int.toNat_natCast]
      have hcz : cZ T (fpS T ts (k + 1)).1 = z := by unfold cZ; rw [e3, Int.toNat_natCast]
      have hh := HF.2.1
      unfold hit at hh
      rw [hcb, hcz] at hh
      have HPX : Hid ((fpS T ts k).1 - z < 2 ^ bb) := by have := hh.2; unfold Hid; omega
      have hzp : z ≤ (fpS T ts k).1 := hh.2.1
      rw [hcb] at HLF
      rw [hcb, hcz] at HST
      have hq64 := HF.1
      obtain ⟨gT, oT, rfl, hgT, hcT⟩ := hTw.len_pos ((fpS T ts (k + 1)).1 * 3 + 2) (by rw [HTB.out.gd.len]; omega)
      have t2 := hcT ((fpS T ts (k + 1)).1 * 3 + 2) (by rw [HTB.out.gd.len]; omega)
      rw [e3, ← Nat.add_assoc] at t2
      have HT2 : Hid (wr.cell? ⟨gT, oT + (fpS T ts (k + 1)).1 * 3 + 2, none⟩ = some (.int .i64 z) ∧ gT < wr.heap.size) := ⟨t2, hgT⟩
      clear hc1 hcT hTw e1 e2 e3 hcb hcz hh HF hz64 hsi hbel hiz t2 h3 h2 hjk
      generalize hq : (fpS T ts (k + 1)).1 = q at *
      generalize hN1 : (fpS T ts (k + 1)).2.1 = N1 at *
      generalize hV1 : (fpS T ts (k + 1)).2.2 = V1 at *
      have HQ : Hid ((fpS T ts (k + 1)).1 = q ∧ (fpS T ts (k + 1)).2.1 = N1 ∧ (fpS T ts (k + 1)).2.2 = V1) := ⟨hq, hN1, hV1⟩
      clear hq hN1 hV1
      generalize (fpS T ts k).1 = pp at *
      generalize (fpS T ts k).2.1 = N0 at *
      generalize (fpS T ts k).2.2 = V0 at *
      generalize ts.getD j 0 = tj at *
      go_wp2_with fail
      refine HLF.mono ?_
      clear HLF
      rintro e w2 ⟨rfl, hb2⟩
      have t2 := keep hb2 HT2.out.2 HT2.out.1
      have hwb : B ≤ wr.heap.size := by obtain ⟨_, _, _, _, _, h⟩ := HS.out.1; exact h
      have HS2 : Hid (SI w2 B B N0 V0 ∧ Below B w1 w2) := ⟨HS.out.1.stay hb2, HS.out.2.1.trans (hb2.mono hwb)⟩
      have hxz : (0 : Int) ≤ (pp : Int) - (z : Int) := by omega
      have HPT := HS2.out.1.put ((pp : Int) - (z : Int)) (bb : Int) hxz (by omega) (by omega) (lt_powP HPX.out hzp) (by have := HS.out.2.2.1; omega)
      rw [Int.toNat_natCast, show ((pp : Int) - (z : Int)).toNat = pp - z from by omega, ← HST.out.1, ← HST.out.2] at HPT
      clear hb2 hs0
      go_wp2_with fail
      refine HPT.mono ?_
      clear HPT
      rintro e w3 ⟨rfl, hsi3, hb3⟩
      have HF3 : Hid (SI w3 B B N1 V1 ∧ Below B w1 w3) := ⟨hsi3, HS2.out.2.trans hb3⟩
      clear hsi3 hb3 t2
      go_wp2
      go_roundw
      case rel => exact ⟨k + 1, (j : Int) - 1, by omega, rfl, by have := HS.out.2.2.2; omega, by rw [HQ.out.1], by rw [HQ.out.2.1, HQ.out.2.2]; exact HF3.out.1, HF3.out.2⟩
      case measure => simp [intOf]
    · have hkn : k = n := by omega
      subst hkn
      have hiz1 : iz = -1 := by omega
      subst hiz1
      have HFN : Hid (fN T ts = (fpS T ts k).2.1 + 6 ∧ fV T ts = (fpS T ts k).2.2 + (fpS T ts k).1 * 2 ^ (fpS T ts k).2.1) := by unfold fN fV; rw [HLn.out.1]; exact ⟨rfl, rfl⟩
      have u0 := keep hbel HB1.out.2.1 HR1.out.1
      have hx64 : (((fpS T ts k).1 : Nat) : Int) < 2 ^ ((6 : Int)).toNat := by show _ < (64 : Int); omega
      have HPT := HS.out.1.put ((fpS T ts k).1 : Nat) 6 (by omega) (by omega) (by omega) hx64 (by have := HS.out.2.2.1; omega)
      rw [Int.toNat_natCast, show ((6 : Int)).toNat = 6 from rfl, ← HFN.out.1, ← HFN.out.2] at HPT
      clear hsi hbel hiz u0 h3 hx64
      generalize (fpS T ts k).1 = pp at *
      go_wp2_with fail
      refine HPT.mono ?_
      clear HPT
      rintro e w3 ⟨rfl, hsi3, hb3⟩
      have hbw := HS.out.2.1.trans hb3
      obtain ⟨a', cp, d0, d1, hmine⟩ := hsi3.cells
      have HM : Hid (Mine w3 B w3.heap.size a' cp (enc (fN T ts) (fV T ts)) ∧ Below w.heap.size w w3 ∧ w.heap.size < B) := ⟨hmine, HB1.out.1.trans (hbw.mono (Nat.le_of_lt HB1.out.2.1)), HB1.out.2.1⟩
      have u0 := keep hbw HB1.out.2.1 HR1.out.1
      have u1 := keep hbw HB1.out.2.1 HR1.out.2.1
      have v0 : w3.frozen? ⟨w.heap.size, 0, none⟩ = false := (hbw.frozen (p := ⟨w.heap.size, 0, none⟩) HB1.out.2.1).trans HR1.out.2.2.1
      have v1 : w3.frozen? ⟨w.heap.size, 1, none⟩ = false := (hbw.frozen (p := ⟨w.heap.size, 1, none⟩) HB1.out.2.1).trans HR1.out.2.2.2
      generalize hES : enc (fN T ts) (fV T ts) = es at *
      have HES : Hid (enc (fN T ts) (fV T ts) = es ∧ True) := ⟨hES, trivial⟩
      clear hsi3 hb3 hmine hbw hES
      go_wp2
      refine bodyPost_ret (v := .agg #[.slice a' es.length cp, .int .i64 (fN T ts : Nat)]) (by simp [results, Tryz.results114, go_sem, u0, u1]) rfl ⟨a', cp, by rw [HES.out.1], ?_, ((HM.out.2.1.setCell (by simp) _).setCell (by simp) _)⟩
      rw [HES.out.1]
      exact mine_out _ _ HM.out.1 HM.out.2.2 (Nat.le_refl _)
end Go.Proofs.YtfeokafkhnbdiaaGreatDoor
