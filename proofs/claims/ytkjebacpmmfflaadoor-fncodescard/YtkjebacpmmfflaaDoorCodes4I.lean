/-
  Codes: the model and the program answer alike.
-/
import Derived.Test.YtkjebacpmmfflaaDoorCodes3M
import Derived.Test.YtkjebacpmmfflaaDoorILens
import Derived.Test.YtkjebacpmmfflaaDoorILens3
namespace Go.Proofs.YtkjebacpmmfflaaDoor
open Go.RowKit
set_option linter.unusedVariables false

theorem shl_fact (nx ln c : Nat) (z : Int) (hz : (ln : Int) ≤ z) (hc : c = nx * 2 ^ (z.toNat - ln)) (hb : c ≤ 8192000) : wrap64 ((nx : Int) * 2 ^ (z.toNat - ln)) = ((c : Nat) : Int) := by
  rw [show ((nx : Int) * 2 ^ (z.toNat - ln)) = ((nx * 2 ^ (z.toNat - ln) : Nat) : Int) from by simp, ← hc]
  exact IntWalk.wrap64_in _ (by omega)

set_option maxHeartbeats 3200000 in
theorem codesOf_any (a : Option Addr) (cap : Nat) (zs : List Int) (w : World) (hb : Ins w a zs) (hn : zs.length ≤ 80) (hok : ∀ z ∈ zs, 0 ≤ z ∧ z ≤ 12) :
    Calls Tryd.prog 43 #[.slice a zs.length cap] w fun e w' =>
      e = .returned (.slice (some ⟨w.heap.size, 0, none⟩) zs.length zs.length) ∧ OwI w' w.heap.size w.heap.size zs.length (crun zs (sbL zs 12)).2.2 ∧ Below w.heap.size w w' := by
  obtain ⟨i0, hi, hz0, hz1, hz2⟩ := info_parts Tryd.infoI64
  have HSY : Hid (∀ w, Ins w a zs → Calls Tryd.prog 63 #[.slice a zs.length cap] w fun e w' => ∃ a' cp, e = .returned (.slice a' (sbL zs 12).length cp) ∧ MinI w' w.heap.size w'.heap.size a' cp (sbL zs 12) ∧ Below w.heap.size w w') := fun w h => syms_any a cap zs w h hn
  have hodl : (sbL zs 12).length ≤ 2000 := by have := sbL_len zs 12; omega
  have HMEM : Hid _ := sbL_mem zs 12
  have HBD : Hid _ := cr_bound zs (sbL zs 12) (asc_sb zs 12)
  have HCL : Hid _ := fun t => crun_len zs ((sbL zs 12).take t)
  have HST : Hid (∀ t, t < (sbL zs 12).length → crun zs ((sbL zs 12).take (t + 1)) = cst zs (crun zs ((sbL zs 12).take t)) ((sbL zs 12).getD t 0)) := fun t ht => by rw [take_snoc _ t ht, crun_snoc]
  have HC0 : Hid (crun zs ((sbL zs 12).take 0) = (0, 0, List.replicate zs.length 0)) := rfl
  have HCE : Hid (crun zs ((sbL zs 12).take (sbL zs 12).length) = crun zs (sbL zs 12)) := by unfold Hid; rw [List.take_length]
  generalize sbL zs 12 = od at *
  generalize hlen : zs.length = n at *
  have HL : Hid (zs.length = n) := hlen
  clear hlen hok
  generalize hN : od.length = N at *
  have HN : Hid (od.length = N) := hN
  clear hN
  go_enter Tryd.func43, Tryd.ntmps43
  go_wp2_with (at_make; refine wpList_make_full _ rfl _ _ 23 rfl w.heap.size 3 i0 (.int .i64 0) 1 Tryd.underlying23 hi hz0 hz1 .i64 .i64 _ _ n rfl rfl rfl rfl (by rw [hz2]; omega) (by unfold maxLen; omega) (Nat.le_refl _) ?_; intro w1 hown hgrow)
  have h0 : OwI w1 w.heap.size w.heap.size n (List.replicate n 0) := by
    refine ⟨?_, by intro z hz; simp at hz; omega⟩
    rw [made_zeroI] at hown
    simpa using hown
  have hbw : Below w.heap.size w w1 := (Below.refl _ _).grown hgrow (Nat.le_refl _) (by intro k hk; cases hk)
  have H0 : Hid (OwI w1 w.heap.size w.heap.size n (List.replicate n 0)) := h0
  clear h0 hown hgrow hi hz0 hz1 hz2
  refine (HSY.out _ (hb.below hbw (Nat.le_refl _))).mono ?_
  rintro e w2 ⟨ao, co, rfl, hmo, hb2⟩
  have hlt0 := H0.out.lt.2
  have HR2 : Hid (OwI w2 w.heap.size w.heap.size n (crun zs (od.take 0)).2.2) := by rw [HC0.out]; exact H0.out.below hb2 (Nat.le_refl _)
  have hbw2 : Below w.heap.size w w2 := hbw.trans (hb2.mono hbw.size)
  have HMO : Hid (MinI w2 w1.heap.size w2.heap.size ao co od) := hmo
  clear hmo hb2 H0 hbw HSY
  generalize w1.heap.size = U1 at *
  generalize hU2 : w2.heap.size = U2 at *
  clear hU2
  go_wp2
  go_loopw [4, 5, 14] (fun x l i wr => ∃ t : Nat, t ≤ N ∧ i = .int .i64 t ∧ x = .int .i64 ((crun zs (od.take t)).1 : Nat) ∧ l = .int .i64 ((crun zs (od.take t)).2.1 : Nat) ∧ OwI wr w.heap.size w.heap.size n (crun zs (od.take t)).2.2 ∧ MinI wr U1 U2 ao co od ∧ Below w.heap.size w wr) (fun _ _ i _ => N - (intOf i).toNat)
  case atStart => exact ⟨0, Nat.zero_le _, rfl, rfl, rfl, HR2.out, HMO.out, hbw2⟩
  case round =>
    clear HR2 HMO hbw2
    obtain ⟨t, ht, rfl, rfl, rfl, hown, hmo, hbel⟩ := hrel
    have HO : Hid (OwI wr w.heap.size w.heap.size n (crun zs (od.take t)).2.2) := hown
    have HM : Hid (MinI wr U1 U2 ao co od) := hmo
    clear hown hmo
    by_cases hlt : t < N
    · obtain ⟨b1, o1, rfl, hb1, hc1⟩ := HM.out.byt.len_pos t (by rw [HN.out]; exact hlt)
      have hs1 := hc1 t (by rw [HN.out]; exact hlt)
      obtain ⟨sn, hse, hsn, hz1, hz2⟩ := HMEM.out _ (getD_mem (k := t) (by rw [HN.out]; exact hlt))
      obtain ⟨B1, B2⟩ := HBD.out t (by omega)
      have B2 := B2 hlt
      have HS := HST.out t hlt
      have hcl := HCL.out t
      rw [hse] at hs1 B2 HS
      obtain ⟨b2, o2, rfl, hb2, hc2⟩ := (hb.below hbel (Nat.le_refl _)).len_pos sn (by rw [HL.out]; exact hsn)
      have hs2 := hc2 sn (by rw [HL.out]; exact hsn)
      clear hc1 hc2 hse
      simp only [cst, zN, Int.toNat_natCast] at B2 HS
      generalize hzz : zs.getD sn 0 = z at *
      generalize crun zs (od.take t) = st at *
      obtain ⟨nx, ln, out⟩ := st
      simp only at *
      have b3 := (cr_step nx ln z.toNat t B2 B1).1
      have b5 : 2 ^ z.toNat ≤ 2 ^ 12 := Nat.pow_le_pow_right (by omega) (by omega)
      have b6 : t * 2 ^ z.toNat ≤ 2000 * 2 ^ 12 := Nat.mul_le_mul (by omega) b5
      have hcb : nx * 2 ^ (z.toNat - ln) ≤ 8192000 := by omega
      generalize hcc : nx * 2 ^ (z.toNat - ln) = c at *
      have HSH : Hid (wrap64 ((nx : Int) * 2 ^ (z.toNat - ln)) = ((c : Nat) : Int)) := shl_fact nx ln c z (by omega) hcc.symm hcb
      have hlz : (ln : Int) ≤ z := by omega
      have hlnb : ln ≤ 12 := by omega
      have hU : ∀ k, U1 ≤ k → k ≠ w.heap.size := fun k hk => by omega
      have hnb : nx ≤ 8192000 := by
        have h2 : nx ≤ nx * 2 ^ (z.toNat - ln) := Nat.le_mul_of_pos_right _ (Nat.pow_pos (by decide))
        rw [hcc] at h2
        exact Nat.le_trans h2 hcb
      clear B1 B2 b3 b5 b6 hcc
      have HO2 : Hid (OwI wr w.heap.size w.heap.size n out) := HO.out
      clear HO
      have hcl2 : out.length = n := hcl
      clear hcl
      have hdst := HO2.out.cell sn (by rw [hcl2]; exact hsn)
      have hfz := HO2.out.frozen sn
      have hcr : -9223372036854775808 ≤ ((c : Nat) : Int) ∧ ((c : Nat) : Int) ≤ 9223372036854775807 := by omega
      have R := HO2.out.store sn ((c : Nat) : Int) hcr
      have HR : Hid (OwI (wr.setCell ⟨w.heap.size, sn, none⟩ (.int .i64 (c : Nat))) w.heap.size w.heap.size n (crun zs (od.take (t + 1))).2.2) := by rw [HS]; exact R
      have HB : Hid (Below w.heap.size w (wr.setCell ⟨w.heap.size, sn, none⟩ (.int .i64 (c : Nat)))) := hbel.setCell (p := ⟨w.heap.size, sn, none⟩) (Nat.le_refl _) _
      have HM2 : Hid (MinI (wr.setCell ⟨w.heap.size, sn, none⟩ (.int .i64 (c : Nat))) U1 U2 (some ⟨b1, o1, none⟩) co od) := HM.out.only (Only.setCell (Only.refl (fun b => b = w.heap.size) wr) (p := ⟨w.heap.size, sn, none⟩) (.inl rfl) _) (fun k h1 _ => hU k h1)
      have HS' : Hid _ := HS
      clear R HS hU HO2 HM hbel hcl2
      generalize out.getD sn 0 = old at *
      go_wp2
      go_roundw
      case rel => exact ⟨t + 1, by omega, by go_num, by rw [HSH.out, HS'.out]; show Value.int .i64 (wrap64 ((c : Int) + 1)) = Value.int .i64 ((c + 1 : Nat) : Int); rw [IntWalk.wrap64_in _ (by omega)]; simp, by rw [HS'.out]; go_num, by rw [HSH.out]; simpa using HR.out, by rw [HSH.out]; simpa using HM2.out, by rw [HSH.out]; simpa using HB.out⟩
      case measure => simp [intOf]; omega
    · have hkn : t = N := by omega
      subst hkn
      rw [HCE.out]
      have HA : Hid (OwI wr w.heap.size w.heap.size n (crun zs od).2.2) := by rw [← HCE.out]; exact HO.out
      clear HO HM
      go_wp2
      go_ret
      exact ⟨rfl, HA.out, hbel⟩
theorem lensB_okC {zs : List Int} (h : lensB zs = true) : 1 ≤ zs.length ∧ zs.length ≤ 80 ∧ ∀ z ∈ zs, 0 ≤ z ∧ z ≤ 12 := by
  simp only [lensB, decide_eq_true_eq] at h
  exact ⟨h.1, h.2.1, h.2.2.1⟩

set_option maxHeartbeats 1600000 in
theorem implCodes_no (a : Option Addr) (cap : Nat) (zs : List Int) (w : World) (hb : Ins w a zs) (hl : zs.length ≤ 281474976710656) (h : lensB zs = false) (h4 : Four w) (hE : ErrT w) :
    Calls Tryd.prog 16 #[.slice a zs.length cap] w fun e w' => e = .returned (.tuple #[.slice none 0 0, .bool false]) ∧ Below w.heap.size w w' := by
  have HT := implLens_any a cap zs w hb hl h4 hE
  rw [h] at HT
  go_enter Tryd.func16, Tryd.ntmps16
  go_wp2_with fail
  refine HT.mono ?_
  rintro e w1 ⟨rfl, hb1'⟩
  clear HT
  have HBB : Hid (Below w.heap.size w w1) := by first | exact hb1' | (subst hb1'; exact Below.refl _ _)
  clear hb1'
  go_wp2
  exact bodyPost_ret (v := .tuple #[.slice none 0 0, .bool false]) (by simp [results, Tryd.results16, go_sem]) rfl ⟨rfl, HBB.out⟩

set_option maxHeartbeats 1600000 in
theorem implCodes_yes (a : Option Addr) (cap : Nat) (zs : List Int) (w : World) (hb : Ins w a zs) (h : lensB zs = true) (h4 : Four w) (hE : ErrT w) :
    Calls Tryd.prog 16 #[.slice a zs.length cap] w fun e w' =>
      ∃ g, e = .returned (.tuple #[.slice (some ⟨g, 0, none⟩) zs.length zs.length, .bool true]) ∧ OwI w' w.heap.size g zs.length (crun zs (sbL zs 12)).2.2 ∧ Below w.heap.size w w' := by
  obtain ⟨hn1, hn2, hok⟩ := lensB_okC h
  have HT := implLens_any a cap zs w hb (by omega) h4 hE
  rw [h] at HT
  go_enter Tryd.func16, Tryd.ntmps16
  go_wp2_with fail
  refine HT.mono ?_
  rintro e w1 ⟨rfl, hb1'⟩
  clear HT
  have hbb : Below w.heap.size w w1 := by first | exact hb1' | (subst hb1'; exact Below.refl _ _)
  clear hb1'
  go_wp2_with fail
  refine (codesOf_any a cap zs w1 (hb.below hbb (Nat.le_refl _)) hn2 hok).mono ?_
  rintro e w2 ⟨rfl, ho, hb2⟩
  have HA : Hid (OwI w2 w.heap.size w1.heap.size zs.length (crun zs (sbL zs 12)).2.2) := ho.mono hbb.size
  have HBB : Hid (Below w.heap.size w w2) := hbb.trans (hb2.mono hbb.size)
  clear ho hb2 hbb
  generalize w1.heap.size = g at *
  go_wp2
  exact bodyPost_ret (v := .tuple #[.slice (some ⟨g, 0, none⟩) zs.length zs.length, .bool true]) (by simp [results, Tryd.results16, go_sem]) rfl ⟨g, rfl, HA.out, HBB.out⟩
end Go.Proofs.YtkjebacpmmfflaaDoor
