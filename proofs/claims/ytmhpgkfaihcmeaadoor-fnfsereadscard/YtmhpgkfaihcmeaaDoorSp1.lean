/-
  l3spread of the model.
-/
import Derived.Test.YtmhpgkfaihcmeaaDoorFg1
import Derived.Test.YtmhpgkfaihcmeaaDoorINorm
namespace Go.Proofs.YtmhpgkfaihcmeaaDoor
open Go.RowKit
set_option linter.unusedVariables false

set_option maxRecDepth 20000 in
set_option maxHeartbeats 4000000 in
theorem l3spread_any (a : Option Addr) (cap : Nat) (zs : List Int) (w : World) (hb : Ins w a zs) (hn : normB zs = true) :
    Calls Tryd.prog 64 #[.slice a zs.length cap] w fun e w' => e = .returned (.slice (some ⟨w.heap.size, 0, none⟩) 64 64) ∧ OwI w' w.heap.size w.heap.size 64 (pl (fl 0 zs) (plc 64)) ∧ Below w.heap.size w w' := by
  obtain ⟨i0, hi, hz0, hz1, hz2⟩ := info_parts Tryd.infoI64
  have hbd := normB_bnd hn
  have hall : (∀ z ∈ zs, 0 ≤ z) ∧ zs.sum = 64 := by
    simp only [normB, decide_eq_true_eq] at hn
    exact ⟨fun z hz => (hn.2.2.1 z hz).1, hn.2.2.2⟩
  have HN : Hid (normB zs = true) := hn
  have HA : Hid ((∀ z ∈ zs, 0 ≤ z) ∧ zs.sum = 64) := hall
  have HB : Hid (Ins w a zs) := hb
  clear hn hall hb
  generalize hL : zs.length = n at *
  have HL : Hid (zs.length = n) := hL
  clear hL
  go_enter Tryd.func64, Tryd.ntmps64
  go_wp2_with (at_make; refine wpList_make_full _ rfl _ _ 23 rfl w.heap.size 3 i0 (.int .i64 0) 1 Tryd.underlying23 hi hz0 hz1 .i64 .i64 _ _ 64 rfl rfl rfl rfl (by rw [hz2]; omega) (by unfold maxLen; omega) (Nat.le_refl _) ?_; intro w1 hown hgrow)
  have HR1 : Hid (OwI w1 w.heap.size w.heap.size 64 (pl (fl 0 zs) (plc 0))) := made_rowI hown
  have HB1 : Hid (Below w.heap.size w w1) := (Below.refl _ _).grown hgrow (Nat.le_refl _) (fun k hk => by cases hk)
  clear hown hgrow
  generalize hG : w.heap.size = G at *
  have HG : Hid (w.heap.size = G) := hG
  clear hG
  go_loopw [4, 5] (fun at_ i wr => ∃ k M : Nat, k ≤ n ∧ i = .int .i64 k ∧ M = (zs.take k).sum.toNat ∧ at_ = .int .i64 ((43 * M % 64 : Nat) : Int) ∧ OwI wr G G 64 (pl (fl 0 zs) (plc M)) ∧ Below G w wr) (fun _ i _ => n - (intOf i).toNat)
  case atStart => exact ⟨0, 0, Nat.zero_le _, rfl, by simp, rfl, HR1.out, HB1.out⟩
  case round =>
    obtain ⟨k, M, hk, rfl, hM, rfl, hr, hbw⟩ := hrel
    by_cases hlt : k < n
    · obtain ⟨b1, o1, rfl, hb1, hc1⟩ := HB.out.len_pos k (by rw [HL.out]; exact hlt)
      have hs1 := hc1 k (by rw [HL.out]; exact hlt)
      have hg := normB_get HN.out k (by rw [HL.out]; exact hlt)
      obtain ⟨z, hz⟩ := Int.eq_ofNat_of_zero_le hg.1
      have HZ : Hid (zs.getD k 0 = (z : Int)) := hz
      have hsc := hs1
      rw [hz] at hsc hg
      have HS : Hid (w.cell? ⟨b1, o1 + k, none⟩ = some (.int .i64 z)) := hsc
      have HBW : Hid (Below G w wr) := hbw
      have HRR : Hid (OwI wr G G 64 (pl (fl 0 zs) (plc M))) := hr
      have HM : Hid (M = (zs.take k).sum.toNat) := hM
      rw [HG.out] at hb1
      have hz64 : z ≤ 64 := by omega
      clear hs1 hsc hc1 hz hbw hr hM hg
      generalize hq : 43 * M % 64 = q at *
      have HQ : Hid (43 * M % 64 = q) := hq
      clear hq
      go_wp2
      go_loopw [4, 6] (fun at_ j wr => ∃ m M' : Nat, m ≤ z ∧ j = .int .i64 m ∧ M' = M + m ∧ at_ = .int .i64 ((43 * M' % 64 : Nat) : Int) ∧ OwI wr G G 64 (pl (fl 0 zs) (plc M')) ∧ Below G w wr) (fun _ j _ => z - (intOf j).toNat)
      case atStart => exact ⟨0, M, Nat.zero_le _, rfl, by simp, by rw [HQ.out], HRR.out, HBW.out⟩
      case round =>
        obtain ⟨m, M', hm, rfl, hM', rfl, hr, hbw⟩ := hrel
        have hcell : wr.cell? ⟨b1, o1 + k, none⟩ = some (.int .i64 z) := keep hbw hb1 HS.out
        by_cases hmz : m < z
        · have HF : Hid ((fl 0 zs).getD M' 0 = ((k : Nat) : Int)) := by
            have := fl_at zs 0 k m HA.out.1 (by rw [HL.out]; exact hlt) (by rw [HZ.out]; omega)
            rw [← HM.out, ← hM', Nat.zero_add] at this
            exact this
          obtain ⟨q', hq'⟩ : ∃ q', 43 * M' % 64 = q' := ⟨_, rfl⟩
          have hq64 : q' < 64 := by omega
          have HP : Hid ((pl (fl 0 zs) (plc M')).set q' (k : Int) = pl (fl 0 zs) (plc (M' + 1))) := by
            unfold Hid
            rw [plc_succ, pl_snoc, plc_len, HF.out, hq']
          have hc2 := hr.cell q' (by rw [pl_len]; exact hq64)
          have hf2 := hr.frozen q'
          have HRW : Hid (OwI (wr.setCell ⟨G, q', none⟩ (.int .i64 k)) G G 64 (pl (fl 0 zs) (plc (M' + 1)))) := by
            have := hr.store q' (k : Int) (by omega)
            rw [HP.out] at this
            exact this
          have HBW2 : Hid (Below G w (wr.setCell ⟨G, q', none⟩ (.int .i64 k))) := hbw.setCell (by simp) _
          have HQ2 : Hid ((q' + 43) % 64 = 43 * (M' + 1) % 64) := by unfold Hid; omega
          have HM' : Hid (M' = M + m) := hM'
          generalize (pl (fl 0 zs) (plc M')).getD q' 0 = old at *
          rw [hq']
          clear hr hbw hM' hq' HP HF
          go_wp2
          go_roundw
          case rel => exact ⟨m + 1, M' + 1, by omega, by go_num, by rw [HM'.out, Nat.add_assoc], by rw [← HQ2.out]; simp; try omega, HRW.out, HBW2.out⟩
          case measure => simp [intOf]; omega
        · have hme : m = z := by omega
          subst hme
          have HRW : Hid (OwI wr G G 64 (pl (fl 0 zs) (plc M'))) := hr
          have HBW2 : Hid (Below G w wr) := hbw
          have HMS : Hid (M' = (zs.take (k + 1)).sum.toNat) := by
            unfold Hid
            have h1 := sum_succ zs k (by rw [HL.out]; exact hlt)
            have h2 := sum_nn HA.out.1 k
            rw [h1, HZ.out, hM', HM.out]
            omega
          generalize hq' : 43 * M' % 64 = q' at *
          have HQ2 : Hid (43 * M' % 64 = q') := hq'
          clear hr hbw hM' hq'
          go_wp2
          go_roundw
          case rel => exact ⟨k + 1, M', by omega, by go_num, HMS.out, by rw [HQ2.out], HRW.out, HBW2.out⟩
          case measure => simp [intOf]; omega
    · have hke : k = n := by omega
      subst hke
      have HM64 : Hid (M = 64) := by
        unfold Hid
        have h1 := HL.out
        rw [hM, ← h1, List.take_length, HA.out.2]
        rfl
      have HRR : Hid (OwI wr G G 64 (pl (fl 0 zs) (plc M))) := hr
      have HBW : Hid (Below G w wr) := hbw
      generalize hq : 43 * M % 64 = q at *
      clear hr hbw hM hq
      go_wp2
      go_ret
      have h64 := HM64.out
      subst h64
      rw [HG.out]
      exact ⟨rfl, HRR.out, HBW.out⟩
end Go.Proofs.YtmhpgkfaihcmeaaDoor
