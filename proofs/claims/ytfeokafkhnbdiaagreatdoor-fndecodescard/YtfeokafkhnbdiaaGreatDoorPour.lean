/-
  The program's pour: bits go over in parts of at most 30, until the reader is over, or no room is left.
-/
import Derived.Test.YtfeokafkhnbdiaaGreatDoorFg1
import Derived.Test.YtfeokafkhnbdiaaGreatDoorLPutT1
import Derived.Test.YtfeokafkhnbdiaaGreatDoorPut4
import Derived.Test.YtfeokafkhnbdiaaGreatDoorPut1
import Derived.Test.YtfeokafkhnbdiaaGreatDoorICntI
import Derived.LaidEql
import Derived.Stop.Asserts
import Derived.RowKitTokens
namespace Go.Proofs.YtfeokafkhnbdiaaGreatDoor
open Go.RowKit
set_option linter.unusedVariables false

set_option maxHeartbeats 1600000 in
theorem putCode_yesK (w : World) (B R n V c L : Nat) (h : WI w B R n V) (h1 : 1 ≤ L) (h2 : L ≤ 12) (hc : c ≤ 8192000) (hn : n + L ≤ 4096) :
    Calls Tryz.prog 125 #[.pointer (some ⟨R, 0, none⟩), .int .i64 (c : Nat), .int .i64 (L : Nat)] w fun e w' => e = .returned .nilIface ∧ WI w' B R (n + L) (V + rvp c L L * 2 ^ n) ∧ Below B w w' ∧ Kp R w w' := by
  have H : Hid (WI w B R n V ∧ True) := ⟨h, trivial⟩
  have HT : Hid (rvp (c % 65536) 16 16 / 2 ^ (16 - L) = rvp c L L) := turned c L h2
  have hlt := rvp_lt (c % 65536) 16 16
  have hlt2 := rvp_lt c L L
  have e1 : IntKind.u16.wrap (c : Int) = ((c % 65536 : Nat) : Int) := by
    show (c : Int) % 65536 = _
    omega
  have hc16 : c % 65536 < 65536 := by omega
  clear h
  generalize c % 65536 = d at *
  go_enter Tryz.func125, Tryz.ntmps125
  go_wp2_with fail
  refine (rev16_rvp d w hc16).mono ?_
  rintro e w1 ⟨rfl, m1, rfl⟩
  generalize hr : rvp d 16 16 = r at *
  clear hr
  go_wp2_with fail
  have e2 : wrap64 ((r : Int) / 2 ^ (16 - L)) = ((rvp c L L : Nat) : Int) := by
    rw [show ((r : Int) / 2 ^ (16 - L)) = ((r / 2 ^ (16 - L) : Nat) : Int) from by simp, HT.out]
    have h12 : 2 ^ L ≤ 2 ^ 12 := Nat.pow_le_pow_right (by omega) h2
    exact IntWalk.wrap64_in _ (by omega)
  rw [e2]
  refine ((H.out.1.drewN m1).putPn (w := w.drewN m1) (rvp c L L) L (by omega) hlt2 hn).mono ?_
  rintro e w2 ⟨rfl, hw2, hb2, hg2⟩
  have HW2 : Hid (WI w2 B R (n + L) (V + rvp c L L * 2 ^ n)) := by simpa [Hid] using hw2
  have HB2 : Hid (Below B w w2 ∧ Kp R w w2) := ⟨(below_dH (Below.refl B w) m1).trans hb2, hg2⟩
  clear hw2 hb2 hg2 e2 HT
  go_wp2
  go_ret
  exact ⟨rfl, HW2.out, HB2.out.1, HB2.out.2⟩

set_option maxRecDepth 20000 in
set_option maxHeartbeats 8000000 in
/-- The writer has n0 bits already. -/
theorem putCodes_t (R B n0 V0 g ca : Nat) (ls : List Int) (b : Option Addr) (cb : Nat) (ts : List Int) (w0 w : World) (hw : WI w B R n0 V0) (ha : RowT w g ls) (hgR : g ≠ R) (hb : Ins w0 b ts) (hB : w0.heap.size = B) (hbel : Below B w0 w) (hlb : lensB ls = true) (htl : ts.length ≤ 300) (hn0 : n0 + ts.length * 12 ≤ 4096) (hts : ∀ k, k < ts.length → 0 ≤ ts.getD k 0 ∧ ts.getD k 0 < ls.length) (hS : SentC w0) :
    Calls Tryz.prog 97 #[.pointer (some ⟨R, 0, none⟩), .slice (some ⟨g, 0, none⟩) ls.length ca, .slice b ts.length cb] w fun e w' => (Below B w0 w' ∧ Kp R w w') ∧
      (coded ls ts → e = .returned .nilIface ∧ WI w' B R (n0 + hN ls ts ts.length) (V0 + hV ls (csOf ls) ts ts.length * 2 ^ n0)) ∧ (¬ coded ls ts → ∃ T' y, e = .returned (.iface T' y)) := by
  obtain ⟨hn1, hn2, hok⟩ := lensB_okH hlb
  have HCO := codesOf_any (some ⟨g, 0, none⟩) ca ls w (ha.ins (fun z hz => by have := hok z hz; omega)) hn2 hok
  have HNL : Hid (∀ k, hN ls ts k ≤ 12 * k) := fun k => hN_le (ts := ts) hok k
  have HCL : Hid ((crun ls (sbL ls 12)).2.2.length = ls.length ∧ ∀ z ∈ (crun ls (sbL ls 12)).2.2, 0 ≤ z ∧ z ≤ 8192000) := ⟨crun_len ls (sbL ls 12), crun_rng2 ls hn2⟩
  have HP : Hid (RowT w g ls ∧ Ins w0 b ts ∧ (∀ k, k < ts.length → 0 ≤ ts.getD k 0 ∧ ts.getD k 0 < ls.length) ∧ (∀ k, k < ls.length → 0 ≤ ls.getD k 0 ∧ ls.getD k 0 ≤ 12) ∧ SentC w0 ∧ w0.heap.size = B) := ⟨ha, hb, hts, fun k hk => hok _ (getD_mem hk), hS, hB⟩
  have HW : Hid (WI w B R (n0 + 0) (V0 + 0 * 2 ^ n0) ∧ Below B w0 w) := ⟨by simpa using hw, hbel⟩
  have hRlt : R < w.heap.size := by obtain ⟨_, h, _⟩ := hw; exact (Array.getElem?_eq_some_iff.1 h).1
  have hBw : B ≤ w.heap.size := by obtain ⟨_, _, _, _, _, h⟩ := hw; exact h
  clear hw ha hb hB hbel hlb hts hS hok
  go_enter Tryz.func97, Tryz.ntmps97
  go_wp2_with fail
  refine HCO.mono ?_
  clear HCO
  rintro e w1 ⟨rfl, hoc, hb1⟩
  have HBK : Hid (RowT w1 w.heap.size (crun ls (sbL ls 12)).2.2 ∧ RowT w1 g ls ∧ Kp R w w1) := ⟨hoc.rowT, HP.out.1.kp (Kp.below (R := R) hb1) hgR, Kp.below hb1⟩
  have HW1 : Hid (WI w1 B R (n0 + 0) (V0 + 0 * 2 ^ n0) ∧ Below B w0 w1) := ⟨HW.out.1.stay hb1, HW.out.2.trans (hb1.mono hBw)⟩
  have hgcR : w.heap.size ≠ R := by omega
  clear hoc hb1 HW hRlt
  generalize hcs0 : (crun ls (sbL ls 12)).2.2 = cs at *
  have HCSE : Hid (csOf ls = cs ∧ True) := ⟨hcs0, trivial⟩
  clear hcs0
  generalize w.heap.size = gc at *
  generalize hTn : ts.length = n at *
  generalize hLn : ls.length = L0 at *
  have HLn : Hid (ts.length = n ∧ ls.length = L0) := ⟨hTn, hLn⟩
  clear hTn hLn
  go_wp2
  go_loopw [15] (fun i wr => ∃ k : Nat, k ≤ n ∧ i = .int .i64 k ∧ WI wr B R (n0 + hN ls ts k) (V0 + hV ls cs ts k * 2 ^ n0) ∧ Kp R w1 wr ∧ Below B w0 wr ∧ ∀ j, j < k → ls.getD (ts.getD j 0).toNat 0 ≠ 0) (fun i _ => n - (intOf i).toNat)
  case atStart => exact ⟨0, Nat.zero_le _, rfl, HW1.out.1, Kp.refl _ _, HW1.out.2, fun j hj => by omega⟩
  case round =>
    clear HW1
    obtain ⟨k, hk, rfl, hwi, hkp, hbel, hnz⟩ := hrel
    have HS : Hid (WI wr B R (n0 + hN ls ts k) (V0 + hV ls cs ts k * 2 ^ n0) ∧ Kp R w1 wr ∧ Below B w0 wr ∧ (∀ j, j < k → ls.getD (ts.getD j 0).toNat 0 ≠ 0) ∧ hN ls ts k ≤ 12 * k) := ⟨hwi, hkp, hbel, hnz, HNL.out k⟩
    by_cases hlt : k < n
    · obtain ⟨b1, o1, rfl, hb1, hc1⟩ := (HP.out.2.1.below hbel (by rw [HP.out.2.2.2.2.2]; exact Nat.le_refl _)).len_pos k (by rw [HLn.out.1]; exact hlt)
      have hs0 := hc1 k (by rw [HLn.out.1]; exact hlt)
      have hsr := HP.out.2.2.1 k hlt
      obtain ⟨sn, hsn⟩ := Int.eq_ofNat_of_zero_le hsr.1
      have hsl : sn < L0 := by omega
      have hlw := (HBK.out.2.1.kp hkp hgR).lt
      have hl0 := (HBK.out.2.1.kp hkp hgR).cell sn (by rw [HLn.out.2]; exact hsl)
      have hLr := HP.out.2.2.2.1 sn hsl
      obtain ⟨L, hLe⟩ := Int.eq_ofNat_of_zero_le hLr.1
      rw [hsn] at hs0
      rw [hLe] at hl0 hLr
      have HST : Hid (hN ls ts (k + 1) = hN ls ts k + L ∧ hV ls cs ts (k + 1) = hV ls cs ts k + rvp (cs.getD sn 0).toNat L L * 2 ^ hN ls ts k ∧ ls.getD (ts.getD k 0).toNat 0 = (L : Int)) := by
        refine ⟨?_, ?_, ?_⟩
        · rw [hN, hsn]; unfold zN; rw [Int.toNat_natCast, hLe, Int.toNat_natCast]
        · rw [hV, hsn]; unfold zN; rw [Int.toNat_natCast, hLe, Int.toNat_natCast]
        · rw [hsn, Int.toNat_natCast, hLe]
      have hsn80 : (sn : Int) < (L0 : Int) := by omega
      have hsce := (HP.out.2.2.2.2.1.s0.below hbel (by have := HP.out.2.2.2.2.1.hG; have := HP.out.2.2.2.2.2; omega))
      obtain ⟨T', y, hce⟩ := hsce
      have hcr := HCL.out.2 _ (getD_mem (zs := cs) (k := sn) (by rw [HCL.out.1]; exact hsl))
      have hcc : wr.cell? ⟨gc, sn, none⟩ = some (.int .i64 (cs.getD sn 0)) := (HBK.out.1.kp hkp hgcR).cell sn (by rw [HCL.out.1]; exact hsl)
      obtain ⟨c, hce2⟩ := Int.eq_ofNat_of_zero_le hcr.1
      rw [hce2] at hcc hcr
      rw [hce2, Int.toNat_natCast] at HST
      have hgw := (HBK.out.1.kp hkp hgcR).lt
      have HKW : Hid (Kp R w wr) := HBK.out.2.2.trans hkp
      clear hc1 hwi hkp hbel hnz hsr hsn hLe hce2
      by_cases hL0 : L = 0
      · have HNC : Hid (¬ coded ls ts ∧ Below B w0 wr ∧ Kp R w wr) := ⟨fun h => h k (by rw [HLn.out.1]; exact hlt) (by rw [HST.out.2.2, hL0]; rfl), HS.out.2.2.1, HKW.out⟩
        subst hL0
        clear HS HST
        go_wp2
        go_ret
        exact ⟨⟨HNC.out.2.1, HNC.out.2.2⟩, fun h => absurd h HNC.out.1, fun _ => ⟨T', y, rfl⟩⟩
      · have HNZ2 : Hid (∀ j, j < k + 1 → ls.getD (ts.getD j 0).toNat 0 ≠ 0) := fun j hj => by
          by_cases hjk : j = k
          · subst hjk; rw [HST.out.2.2]; omega
          · exact HS.out.2.2.2.1 j (by omega)
        have HPU : Hid (∀ W : World, WI W B R (n0 + hN ls ts k) (V0 + hV ls cs ts k * 2 ^ n0) → Calls Tryz.prog 125 #[.pointer (some ⟨R, 0, none⟩), .int .i64 (c : Nat), .int .i64 (L : Nat)] W fun e w' => e = .returned .nilIface ∧ WI w' B R (n0 + hN ls ts (k + 1)) (V0 + hV ls cs ts (k + 1) * 2 ^ n0) ∧ Below B W w' ∧ Kp R W w') := by
          intro W hW
          have := putCode_yesK W B R _ _ c L hW (by omega) (by omega) (by omega) (by have := HS.out.2.2.2.2; omega)
          rw [Nat.add_assoc, ← HST.out.1, put_at, ← HST.out.2.1] at this
          exact this
        have hne0 : ((L : Int) == 0) = false := by simp; omega
        clear hce
        go_wp2
        go_region_with (go_at_call 125; refine (HPU.out _ (by exact HS.out.1)).mono ?_; rintro e w6 ⟨rfl, hw6, hb6, hg6⟩; have HW6 : Hid (WI w6 B R (n0 + hN ls ts (k + 1)) (V0 + hV ls cs ts (k + 1) * 2 ^ n0) ∧ Kp R w1 w6 ∧ Below B w0 w6) := ⟨hw6, HS.out.2.1.trans hg6, HS.out.2.2.1.trans (Below.drewS hb6)⟩; clear hw6 hb6 hg6)
        all_goals
          go_wp2
          go_roundw
          case rel => exact ⟨k + 1, by omega, by go_num, HW6.out.1, HW6.out.2.1, HW6.out.2.2, HNZ2.out⟩
          case measure => simp [intOf]; omega
    · have hkn : k = n := by omega
      subst hkn
      have HCD : Hid (coded ls ts) := fun j hj => hnz j (by rw [HLn.out.1] at hj; exact hj)
      have HKW : Hid (Kp R w wr) := HBK.out.2.2.trans hkp
      clear hwi hkp hbel hnz
      go_wp2
      go_ret
      exact ⟨⟨HS.out.2.2.1, HKW.out⟩, fun _ => ⟨rfl, by rw [HCSE.out.1, HLn.out.1]; exact HS.out.1⟩, fun h => absurd HCD.out h⟩

set_option maxHeartbeats 800000 in
/-- The reader lies at block R: its bits' bytes, their number, its place. -/
theorem number_any (R : Nat) (a : Option Addr) (cap : Nat) (zs : List Int) (N at0 p width : Int) (n v : Nat) (w : World) (hb : Byt w a zs) (hz : zs = enc n v) (hn : n ≤ 4104)
    (c0 : w.cell? ⟨R, 0, none⟩ = some (.slice a zs.length cap))
    (h0 : 0 ≤ p) (h1 : 0 ≤ width) (h2 : width ≤ 30) (h3 : p + width ≤ n) :
    Calls Tryz.prog 118 #[.pointer (some ⟨R, 0, none⟩), .int .i64 p, .int .i64 width] w fun e w' => e = .returned (.int .i64 (v / 2 ^ p.toNat % 2 ^ width.toNat : Nat)) ∧ w' = w := by
  obtain ⟨q, rfl⟩ := Int.eq_ofNat_of_zero_le h0
  obtain ⟨m, rfl⟩ := Int.eq_ofNat_of_zero_le h1
  simp only [Int.toNat_natCast] at *
  have HZ : Hid (zs = enc n v) := hz
  have hlen : zs.length = (n + 7) / 8 := by rw [hz, enc_len]
  have HL : Hid (zs.length = (n + 7) / 8) := hlen
  clear hz hlen
  go_enter Tryz.func118, Tryz.ntmps118
  go_wp2
  go_loop [7, 12] (fun x i => ∃ j : Nat, j ≤ m ∧ i = .int .i64 j ∧ x = .int .i64 (v / 2 ^ q % 2 ^ j : Nat)) (fun _ i => m - (intOf i).toNat)
  case atStart => exact ⟨0, Nat.zero_le _, rfl, by simp [Nat.mod_one]⟩
  case round =>
    obtain ⟨j, hj, rfl, rfl⟩ := hrel
    by_cases hlt : j < m
    · have hx : v / 2 ^ q % 2 ^ j < 2 ^ j := Nat.mod_lt _ (Nat.pow_pos (by omega))
      have HX := get_up v q j
      have HB := enc_bit n v (q + j) (by omega)
      rw [← HZ.out] at HB
      have hbit : v / 2 ^ (q + j) % 2 < 2 := Nat.mod_lt _ (by omega)
      have hll : (q + j) / 8 < zs.length := by have := HL.out; omega
      obtain ⟨b, off, rfl, hbl, hc⟩ := hb.len_pos ((q + j) / 8) hll
      have hs := hc ((q + j) / 8) hll
      have hr := getD_rng hb.1 ((q + j) / 8)
      generalize hX : v / 2 ^ q % 2 ^ j = X at *
      generalize hbt : v / 2 ^ (q + j) % 2 = bt at *
      generalize zs.getD ((q + j) / 8) 0 = z at *
      have HX' : Hid (v / 2 ^ q % 2 ^ (j + 1) = X + bt * 2 ^ j) := HX
      have HB' : Hid (z.toNat / 2 ^ ((q + j) % 8) % 2 = bt) := HB
      clear HX HB hX hbt hc
      go_wp2
      go_round
      case rel => exact ⟨j + 1, by omega, by go_num, by rw [or_step64 X j _ z hr hx (by omega), HB'.out, HX'.out]⟩
      case measure => simp [intOf]; omega
    · have hj0 : j = m := by omega
      subst hj0
      go_wp2
      go_ret
      exact ⟨rfl, rfl⟩

set_option maxHeartbeats 1600000 in
theorem get_no (R : Nat) (a : Option Addr) (cap : Nat) (zs : List Int) (n : Nat) (p width : Int) (w : World) (hn : n ≤ 4104) (pb : p ≤ 9223372036854775807)
    (c0 : w.cell? ⟨R, 0, none⟩ = some (.slice a zs.length cap)) (c1 : w.cell? ⟨R, 1, none⟩ = some (.int .i64 n)) (c2 : w.cell? ⟨R, 2, none⟩ = some (.int .i64 p))
    (s0 : Sent w 5) (s2 : Sent w 11)
    (h : width < 0 ∨ 30 < width ∨ p < 0 ∨ (n : Int) - width < p) :
    Calls Tryz.prog 93 #[.pointer (some ⟨R, 0, none⟩), .int .i64 width] w fun e w' => (∃ T x, e = .returned (.tuple #[.int .i64 0, .iface T x])) ∧ ∃ m, w' = w.drewN m := by
  obtain ⟨T0, x0, g0⟩ := s0
  obtain ⟨T2, x2, g2⟩ := s2
  have key : (width < 0 ∨ 30 < width) ∨ (0 ≤ width ∧ width ≤ 30 ∧ p < 0) ∨ (0 ≤ width ∧ width ≤ 30 ∧ 0 ≤ p ∧ (n : Int) - width < p) := by omega
  clear h
  rcases key with hh | ⟨k1, k2, k3⟩ | ⟨k1, k2, k3, k4⟩
  · have hd : Hid (decide (0 ≤ width ∧ width ≤ 30) = false) := by simp [Hid]; omega
    go_enter Tryz.func93, Tryz.ntmps93
    go_wp2_with fail
    refine (widthOk_any width _).mono ?_
    rintro e w1 ⟨rfl, rfl⟩
    rw [hd.out]
    go_wp2_with fail
    go_quiet (fail)
    go_wp2
    go_ret2
    exact ⟨⟨_, _, rfl⟩, _, rfl⟩
  · have hd : Hid (decide (0 ≤ width ∧ width ≤ 30) = true) := by simp [Hid]; omega
    have hp : decide (p < 0) = true := by simpa using k3
    go_enter Tryz.func93, Tryz.ntmps93
    go_wp2_with fail
    refine (widthOk_any width _).mono ?_
    rintro e w1 ⟨rfl, rfl⟩
    rw [hd.out]
    go_wp2_with fail
    go_quiet (fail)
    go_wp2
    go_quiet (fail)
    go_wp2
    go_ret2
    exact ⟨⟨_, _, rfl⟩, _, World.drewN_drewN ..⟩
  · have hd : Hid (decide (0 ≤ width ∧ width ≤ 30) = true) := by simp [Hid]; omega
    have hp : decide (p < 0) = false := by simpa using k3
    go_enter Tryz.func93, Tryz.ntmps93
    go_wp2_with fail
    refine (widthOk_any width _).mono ?_
    rintro e w1 ⟨rfl, rfl⟩
    rw [hd.out]
    go_wp2_with fail
    go_quiet (fail)
    go_wp2
    go_quiet (fail)
    go_wp2
    go_ret2
    exact ⟨⟨_, _, rfl⟩, _, World.drewN_drewN ..⟩

set_option maxHeartbeats 1600000 in
/-- The bytes may hold more bits than the reader has. -/
theorem get_yesM (R : Nat) (a : Option Addr) (cap : Nat) (zs : List Int) (n M v : Nat) (p width : Int) (w : World) (hn : n ≤ 4104) (hM : M ≤ 4104) (hnM : n ≤ M) (hb : Byt w a zs) (hz : zs = enc M v)
    (c0 : w.cell? ⟨R, 0, none⟩ = some (.slice a zs.length cap)) (c1 : w.cell? ⟨R, 1, none⟩ = some (.int .i64 n)) (c2 : w.cell? ⟨R, 2, none⟩ = some (.int .i64 p)) (f2 : w.frozen? ⟨R, 2, none⟩ = false)
    (k1 : 0 ≤ width) (k2 : width ≤ 30) (k3 : 0 ≤ p) (k4 : p ≤ (n : Int) - width) :
    Calls Tryz.prog 93 #[.pointer (some ⟨R, 0, none⟩), .int .i64 width] w fun e w' =>
      e = .returned (.tuple #[.int .i64 (v / 2 ^ p.toNat % 2 ^ width.toNat : Nat), .nilIface]) ∧ ∃ m, w' = (w.drewN m).setCell ⟨R, 2, none⟩ (.int .i64 (p + width)) := by
  have hd : Hid (decide (0 ≤ width ∧ width ≤ 30) = true) := by simp [Hid]; omega
  have hp : decide (p < 0) = false := by simpa using k3
  have HZ : Hid (zs = enc M v) := hz
  clear hz
  go_enter Tryz.func93, Tryz.ntmps93
  go_wp2_with fail
  refine (widthOk_any width _).mono ?_
  rintro e w1 ⟨rfl, rfl⟩
  rw [hd.out]
  go_wp2_with fail
  go_quiet (fail)
  go_wp2_with fail
  refine (number_any R a cap zs n p p width M v _ (hb.drewN _) HZ.out hM (by simpa using c0) k3 k1 k2 (by omega)).mono ?_
  rintro e w2 ⟨rfl, rfl⟩
  go_wp2
  go_ret2
  exact ⟨rfl, _, rfl⟩

theorem get_yes (R : Nat) (a : Option Addr) (cap : Nat) (zs : List Int) (n v : Nat) (p width : Int) (w : World) (hn : n ≤ 4104) (hb : Byt w a zs) (hz : zs = enc n v)
    (c0 : w.cell? ⟨R, 0, none⟩ = some (.slice a zs.length cap)) (c1 : w.cell? ⟨R, 1, none⟩ = some (.int .i64 n)) (c2 : w.cell? ⟨R, 2, none⟩ = some (.int .i64 p)) (f2 : w.frozen? ⟨R, 2, none⟩ = false)
    (k1 : 0 ≤ width) (k2 : width ≤ 30) (k3 : 0 ≤ p) (k4 : p ≤ (n : Int) - width) :
    Calls Tryz.prog 93 #[.pointer (some ⟨R, 0, none⟩), .int .i64 width] w fun e w' =>
      e = .returned (.tuple #[.int .i64 (v / 2 ^ p.toNat % 2 ^ width.toNat : Nat), .nilIface]) ∧ ∃ m, w' = (w.drewN m).setCell ⟨R, 2, none⟩ (.int .i64 (p + width)) :=
  get_yesM R a cap zs n n v p width w hn hn (Nat.le_refl _) hb hz c0 c1 c2 f2 k1 k2 k3 k4

set_option maxHeartbeats 800000 in
theorem left_any (R : Nat) (n p : Nat) (w : World) (hn : n ≤ 4104) (hp : p ≤ 4104)
    (c1 : w.cell? ⟨R, 1, none⟩ = some (.int .i64 n)) (c2 : w.cell? ⟨R, 2, none⟩ = some (.int .i64 p)) :
    Calls Tryz.prog 67 #[.pointer (some ⟨R, 0, none⟩)] w fun e w' => e = .returned (.int .i64 ((n : Int) - p)) ∧ ∃ m, w' = w.drewN m := by
  go_enter Tryz.func67, Tryz.ntmps67
  go_wp2_with fail
  go_quiet (fail)
  go_wp2
  go_ret
  exact ⟨rfl, _, rfl⟩

set_option maxHeartbeats 1600000 in
theorem some_no (R : Nat) (n p : Nat) (X : Value) (w : World) (hn : n ≤ 4104) (hp : p = n)
    (c1 : w.cell? ⟨R, 1, none⟩ = some (.int .i64 n)) (c2 : w.cell? ⟨R, 2, none⟩ = some (.int .i64 p)) (g0 : w.cell? ⟨11, 0, none⟩ = some X) :
    Calls Tryz.prog 126 #[.pointer (some ⟨R, 0, none⟩)] w fun e w' =>
      e = .returned (.tuple #[.int .i64 0, .int .i64 0, X]) ∧ ∃ m, w' = w.drewN m := by
  subst hp
  have HL := left_any R p p w hn hn c1 c2
  rw [Int.sub_self] at HL
  go_enter Tryz.func126, Tryz.ntmps126
  go_wp2_with fail
  refine HL.mono ?_
  rintro e w1 ⟨rfl, m1, rfl⟩
  go_wp2
  go_quiet (fail)
  go_wp2
  exact bodyPost_ret (v := .tuple #[.int .i64 0, .int .i64 0, X]) (by simp [results, Tryz.results126, go_sem]) rfl ⟨rfl, _, World.drewN_drewN ..⟩

set_option maxHeartbeats 1600000 in
theorem some_yes (R : Nat) (a : Option Addr) (cap : Nat) (zs : List Int) (n M v p : Nat) (w : World) (hn : n ≤ 4104) (hM : M ≤ 4104) (hnM : n ≤ M) (hb : Byt w a zs) (hz : zs = enc M v) (hp : p < n)
    (c0 : w.cell? ⟨R, 0, none⟩ = some (.slice a zs.length cap)) (c1 : w.cell? ⟨R, 1, none⟩ = some (.int .i64 n)) (c2 : w.cell? ⟨R, 2, none⟩ = some (.int .i64 p)) (f2 : w.frozen? ⟨R, 2, none⟩ = false) :
    Calls Tryz.prog 126 #[.pointer (some ⟨R, 0, none⟩)] w fun e w' =>
      e = .returned (.tuple #[.int .i64 (v / 2 ^ p % 2 ^ (min (n - p) 30) : Nat), .int .i64 (min (n - p) 30 : Nat), .nilIface]) ∧ ∃ m, w' = (w.drewN m).setCell ⟨R, 2, none⟩ (.int .i64 ((p + min (n - p) 30 : Nat) : Int)) := by
  have HZ : Hid (zs = enc M v) := hz
  clear hz
  have HL := left_any R n p w hn (by omega) c1 c2
  obtain ⟨s, hs⟩ : ∃ s, s = min (n - p) 30 := ⟨_, rfl⟩
  rw [← hs]
  have key : (s = 30 ∧ 30 < (n : Int) - (p : Int)) ∨ ((n : Int) - (p : Int) = (s : Int) ∧ (s : Int) ≤ 30 ∧ 0 < (s : Int)) := by omega
  clear hs
  rcases key with ⟨rfl, hk⟩ | ⟨hk, hk1, hk2⟩
  · go_enter Tryz.func126, Tryz.ntmps126
    go_wp2_with fail
    refine HL.mono ?_
    rintro e w1 ⟨rfl, m1, rfl⟩
    clear HL
    go_wp2_with fail
    all_goals try (exfalso; omega)
    refine (get_yesM R a cap zs n M v (p : Int) 30 _ hn hM hnM (hb.drewN _) HZ.out (by simpa using c0) (by simpa using c1) (by simpa using c2) (by simpa using f2) (by omega) (by omega) (by omega) (by omega)).mono ?_
    rintro e w2 ⟨rfl, m2, rfl⟩
    go_wp2
    exact bodyPost_ret (v := .tuple #[.int .i64 (v / 2 ^ p % 2 ^ 30 : Nat), .int .i64 30, .nilIface]) (by simp [results, Tryz.results126, go_sem]) rfl ⟨rfl, m1 + m2, by simp⟩
  · rw [hk] at HL
    go_enter Tryz.func126, Tryz.ntmps126
    go_wp2_with fail
    refine HL.mono ?_
    rintro e w1 ⟨rfl, m1, rfl⟩
    clear HL
    go_wp2_with fail
    all_goals try (exfalso; omega)
    refine (get_yesM R a cap zs n M v (p : Int) (s : Int) _ hn hM hnM (hb.drewN _) HZ.out (by simpa using c0) (by simpa using c1) (by simpa using c2) (by simpa using f2) (by omega) (by omega) (by omega) (by omega)).mono ?_
    rintro e w2 ⟨rfl, m2, rfl⟩
    go_wp2
    exact bodyPost_ret (v := .tuple #[.int .i64 (v / 2 ^ p % 2 ^ s : Nat), .int .i64 s, .nilIface]) (by simp [results, Tryz.results126, go_sem]) rfl ⟨rfl, m1 + m2, by simp⟩
end Go.Proofs.YtfeokafkhnbdiaaGreatDoor
namespace Go.Proofs.YtfeokafkhnbdiaaGreatDoor
open Go.RowKit Go.Extern.Stop Go.Stop Go.Extern
set_option linter.unusedVariables false

theorem isTypeOf (v : Value) (w : World) : (Extern.ReflectliteType.typeOf #[.iface 246 v]).run Tryz.prog w = .ok (.iface 226 (.agg #[.pointer (some ⟨21, 246, none⟩)])) w := by kernel_rfl
/-- What the model has at Comparable. -/
noncomputable def cmpX : Array Value → Sem Value := (find Tryz.f197).getD (fun _ => pure .nilIface)
theorem isComparable (w : World) : (cmpX #[.agg #[.pointer (some ⟨21, 246, none⟩)]]).run Tryz.prog w = .ok (.bool true) w := by kernel_rfl
theorem isComp : (Tryz.prog.info? 246).map (·.comparable) = some true := by kernel_rfl
theorem isSize : (Tryz.prog.info? 272).map (·.size) = some 1 := by kernel_rfl
theorem noIs (v : Value) (xT : TypeId) (w : World) : (Instr.typeAssert (.iface 246 v) xT 228 true).run Tryz.prog w = .ok (.tuple #[.nilIface, .bool false]) w := run_typeAssert_lacksB Tryz.underlying228 (by kernel_rfl) (by kernel_rfl) v xT w
theorem noUnwrap (v : Value) (xT : TypeId) (w : World) : (Instr.typeAssert (.iface 246 v) xT 231 true).run Tryz.prog w = .ok (.tuple #[.nilIface, .bool false]) w := run_typeAssert_lacksB Tryz.underlying231 (by kernel_rfl) (by kernel_rfl) v xT w
theorem noUnwraps (v : Value) (xT : TypeId) (w : World) : (Instr.typeAssert (.iface 246 v) xT 233 true).run Tryz.prog w = .ok (.tuple #[.nilIface, .bool false]) w := run_typeAssert_lacksB Tryz.underlying233 (by kernel_rfl) (by kernel_rfl) v xT w
theorem isMethod (v : Value) (w : World) : (Go.method 383 226 v "Comparable").run Tryz.prog w = .ok (197, v) w := by kernel_rfl

set_option maxRecDepth 100000 in
set_option maxHeartbeats 1600000 in
/-- errors.Is(x, x). -/
theorem is_same (a : Addr) (w : World) :
    Calls Tryz.prog 127 #[.iface 246 (.pointer (some a)), .iface 246 (.pointer (some a))] w fun e w' => e = .returned (.bool true) ∧ w' = w := by
  obtain ⟨i, hi, hcmp⟩ := Option.map_eq_some_iff.1 isComp
  obtain ⟨j, hj, hjs⟩ := Option.map_eq_some_iff.1 isSize
  have hT := @run_callFunc_extern Tryz.prog 148 _ Extern.ReflectliteType.typeOf Tryz.func148 (by kernel_rfl) (by kernel_rfl) (by kernel_rfl) (by kernel_rfl)
  have hC := @run_callFunc_extern Tryz.prog 197 _ cmpX Tryz.func197 (by kernel_rfl) (by kernel_rfl) (by kernel_rfl) (by kernel_rfl)
  have tT := isTypeOf
  have cT := isComparable
  have mR := isMethod
  have heq := run_eql_iface_ptr_same (P := Tryz.prog) w a Tryz.underlying70 Tryz.underlying246 hi hcmp hj
  go_enter Tryz.func127, Tryz.ntmps127
  go_wp2
  refine wp_loop_rounds 1 ?_
  rw [rounds_succ]
  go_wp2
  go_ret
  exact ⟨rfl, rfl⟩

set_option maxRecDepth 100000 in
set_option maxHeartbeats 1600000 in
/-- errors.Is(x, y), where x == y is false: neither has Is nor Unwrap. -/
theorem is_other (a b : Addr) (w : World) (heq : (binOp .eql 70 (.iface 246 (.pointer (some a))) (.iface 246 (.pointer (some b)))).run Tryz.prog w = .ok (.bool false) w) :
    Calls Tryz.prog 127 #[.iface 246 (.pointer (some a)), .iface 246 (.pointer (some b))] w fun e w' => e = .returned (.bool false) ∧ w' = w := by
  obtain ⟨i, hi, hcmp⟩ := Option.map_eq_some_iff.1 isComp
  obtain ⟨j, hj, hjs⟩ := Option.map_eq_some_iff.1 isSize
  have hT := @run_callFunc_extern Tryz.prog 148 _ Extern.ReflectliteType.typeOf Tryz.func148 (by kernel_rfl) (by kernel_rfl) (by kernel_rfl) (by kernel_rfl)
  have hC := @run_callFunc_extern Tryz.prog 197 _ cmpX Tryz.func197 (by kernel_rfl) (by kernel_rfl) (by kernel_rfl) (by kernel_rfl)
  have tT := isTypeOf
  have cT := isComparable
  have mR := isMethod
  have nE := noIs
  have uE := noUnwrap
  have vE := noUnwraps
  go_enter Tryz.func127, Tryz.ntmps127
  go_wp2
  refine wp_loop_rounds 1 ?_
  rw [rounds_succ]
  go_wp2
  go_ret
  exact ⟨rfl, rfl⟩
end Go.Proofs.YtfeokafkhnbdiaaGreatDoor
namespace Go.Proofs.YtfeokafkhnbdiaaGreatDoor
open Go.RowKit
set_option linter.unusedVariables false

set_option maxHeartbeats 1600000 in
/-- What put answers where no room is left: just the sentinel. -/
theorem wput_full (R : Nat) (v : Value) (n : Nat) (x width room : Int) (X : Value) (w : World) (hR : w.heap[R]? = some (.cells #[v, .int .i64 n, .int .i64 room] 73 (0, 0))) (hn : n ≤ 4104) (hr0 : 0 ≤ room) (hroom : room ≤ 5000)
    (g1 : w.cell? ⟨6, 0, none⟩ = some X) (k1 : 0 ≤ width) (k2 : width ≤ 30) (k3 : 0 ≤ x) (k4' : x < 2 ^ width.toNat) (k5 : room - n < width) :
    Calls Tryz.prog 79 #[.pointer (some ⟨R, 0, none⟩), .int .i64 x, .int .i64 width] w fun e w' => e = .returned X ∧ ∃ m, w' = w.drewN m := by
  have k4 : x < wrap64 (2 ^ width.toNat) := by rw [wrap_pow _ (by omega)]; exact k4'
  have c1 : w.cell? ⟨R, 1, none⟩ = some (.int .i64 n) := cellR (j := 1) hR rfl
  have c2 : w.cell? ⟨R, 2, none⟩ = some (.int .i64 room) := cellR (j := 2) hR rfl
  clear hR k4'
  have hd : Hid (decide (0 ≤ width ∧ width ≤ 30) = true) := by simp [Hid]; omega
  go_enter Tryz.func79, Tryz.ntmps79
  go_wp2_with fail
  refine (widthOk_any width _).mono ?_
  rintro e w1 ⟨rfl, rfl⟩
  rw [hd.out]
  go_wp2
  go_quiet (fail)
  go_wp2
  go_ret
  exact ⟨rfl, _, rfl⟩

theorem OwnV.only {S : Nat → Prop} {w w' : World} {B : Nat} {v : Value} {zs : List Int} (h : OwnV w B v zs) (ho : Only S w w') (hs : ∀ k, v.ownBlock = some k → ¬ S k) : OwnV w' B v zs := by
  rcases h.1.2 with ⟨h1, h2⟩ | ⟨g, cap, cur, rfl, r⟩
  · exact ⟨⟨h.1.1, .inl ⟨h1, h2⟩⟩, h.2⟩
  · exact Own.only (g := g) (cap := cap) h ho (hs g rfl)

theorem OwnV.ne {w : World} {B k R : Nat} {v : Value} {zs : List Int} {cur : Array Value} {T : TypeId} (h : OwnV w B v zs) (hk : v.ownBlock = some k) (hR : w.heap[R]? = some (.cells cur T (0, 0))) (hT : T ≠ 5) : k ≠ R := by
  rcases h.1.2 with ⟨rfl, h2⟩ | ⟨g, cap, cur', rfl, hg, hh, r⟩
  · simp [Value.ownBlock] at hk
  · simp [Value.ownBlock] at hk
    subst hk
    exact Own.ne (g := g) (cap := cap) h hR hT

/-- Bytes that lie ahead of B stay where nothing ahead of B is written. -/
theorem Byt.belowB {w w' : World} {a : Option Addr} {zs : List Int} {B : Nat} (h : Byt w a zs) (hb : Below B w w') (hB : 0 < zs.length → ∀ x, a = some x → x.block < B) : Byt w' a zs := by
  refine ⟨h.1, fun hp => ?_⟩
  obtain ⟨g, off, rfl, hl, hc⟩ := h.2 hp
  have hg := hB hp _ rfl
  exact ⟨g, off, rfl, Nat.lt_of_lt_of_le hl hb.size, fun i hi => (hb.cell (p := ⟨g, off + i, none⟩) hg).trans (hc i hi)⟩

/-- How far the reader at Q is. -/
def atOf (w : World) (Q : Nat) : Nat := match w.cell? ⟨Q, 2, none⟩ with | some (.int _ p) => p.toNat | _ => 0

/-- What pour keeps: j bits have gone over. -/
structure Poured (w wr : World) (R B Q : Nat) (b : Option Addr) (L cb n V m U p0 j : Nat) (u : Value) : Prop where
  hR : wr.heap[R]? = some (.cells #[u, .int .i64 ((n + j : Nat) : Int), .int .i64 4096] 73 (0, 0))
  hv : OwnV wr B u (enc (n + j) (V + (U % 2 ^ j) * 2 ^ n))
  hQ : wr.heap[Q]? = some (.cells #[.slice b L cb, .int .i64 m, .int .i64 ((p0 + j : Nat) : Int)] 109 (0, 0))
  bel : Below B w wr

theorem Poured.drewN {w wr : World} {R B Q : Nat} {b : Option Addr} {L cb n V m U p0 j : Nat} {u : Value} (h : Poured w wr R B Q b L cb n V m U p0 j u) (k : Nat) : Poured w (wr.drewN k) R B Q b L cb n V m U p0 j u :=
  ⟨h.hR, h.hv, h.hQ, below_drewN h.bel k⟩

theorem Poured.ne {w wr : World} {R B Q : Nat} {b : Option Addr} {L cb n V m U p0 j : Nat} {u : Value} (h : Poured w wr R B Q b L cb n V m U p0 j u) : Q ≠ R := by
  rintro rfl
  have := h.hR.symm.trans h.hQ
  simp at this

set_option maxRecDepth 100000 in
set_option maxHeartbeats 800000 in
/-- errors.Is(nil, x). -/
theorem is_nil (T : TypeId) (x : Value) (w : World) :
    Calls Tryz.prog 127 #[.nilIface, .iface T x] w fun e w' => e = .returned (.bool false) ∧ w' = w := by
  have hl := run_eql_iface_nil_left (P := Tryz.prog) (w := w) T x Tryz.underlying70
  go_enter Tryz.func127, Tryz.ntmps127
  go_wp2
  go_ret
  exact ⟨rfl, rfl⟩

theorem shift_part (U p0 j s : Nat) : U / 2 ^ (p0 + j) % 2 ^ s = U / 2 ^ p0 / 2 ^ j % 2 ^ s := by
  rw [Nat.pow_add, Nat.div_div_eq_div_mul]

set_option maxRecDepth 100000 in
set_option maxHeartbeats 2000000 in
/-- The reader is at p0, its last bit ahead of m; its bytes may hold more. -/
theorem pour_any (R B Q : Nat) (v : Value) (b : Option Addr) (cb : Nat) (ys : List Int) (n V m M U0 p0 : Nat) (T1 : TypeId) (pe : Addr) (x1 : Value) (w : World)
    (hR : w.heap[R]? = some (.cells #[v, .int .i64 n, .int .i64 4096] 73 (0, 0))) (hv : OwnV w B v (enc n V)) (hV : V < 2 ^ n) (hB : B ≤ w.heap.size)
    (hQ : w.heap[Q]? = some (.cells #[.slice b ys.length cb, .int .i64 m, .int .i64 p0] 109 (0, 0))) (hb : Byt w b ys) (hy : ys = enc M U0) (hn : n ≤ 4096) (hm : m ≤ M) (hM : M ≤ 4096) (hpm0 : p0 ≤ m)
    (hBR : B ≤ R) (hBQ : B ≤ Q) (hG : 11 < B ∧ 6 < B) (hbB : 0 < ys.length → ∀ x, b = some x → x.block < B)
    (g0 : w.cell? ⟨11, 0, none⟩ = some (.iface 246 (.pointer (some pe)))) (g1 : w.cell? ⟨6, 0, none⟩ = some (.iface T1 x1)) :
    Calls Tryz.prog 98 #[.pointer (some ⟨R, 0, none⟩), .pointer (some ⟨Q, 0, none⟩)] w fun e w' =>
      Below B w w' ∧ (n + (m - p0) ≤ 4096 → e = .returned .nilIface ∧ ∃ v', w'.heap[R]? = some (.cells #[v', .int .i64 ((n + (m - p0) : Nat) : Int), .int .i64 4096] 73 (0, 0)) ∧ OwnV w' B v' (enc (n + (m - p0)) (V + (U0 / 2 ^ p0 % 2 ^ (m - p0)) * 2 ^ n))) ∧
        (4096 < n + (m - p0) → e = .returned (.iface T1 x1)) := by
  obtain ⟨U, hUe⟩ : ∃ U, U = U0 / 2 ^ p0 := ⟨_, rfl⟩
  have HU : Hid (U = U0 / 2 ^ p0) := hUe
  obtain ⟨d, rfl⟩ : ∃ d, m = p0 + d := ⟨m - p0, by omega⟩
  rw [Nat.add_sub_cancel_left, ← hUe]
  clear hUe
  have HR : Hid (Poured w w R B Q b ys.length cb n V (p0 + d) U p0 0 v) := ⟨hR, by simpa [Nat.mod_one] using hv, hQ, Below.refl _ _⟩
  have HY : Hid (ys = enc M U0) := hy
  have HVV : Hid (V < 2 ^ n) := hV
  clear hR hv hQ hy hV
  go_enter Tryz.func98, Tryz.ntmps98
  go_wp2
  go_loopw [] (fun wr => ∃ (j : Nat) (u : Value), j ≤ d ∧ n + j ≤ 4096 ∧ Poured w wr R B Q b ys.length cb n V (p0 + d) U p0 j u) (fun wr => p0 + d - atOf wr Q)
  case atStart => exact ⟨0, v, Nat.zero_le _, by omega, HR.out⟩
  case round =>
    obtain ⟨j, u, hpm, hnp, hP⟩ := hrel
    have e0 := keep hP.bel hG.1 g0
    have c1 : wr.cell? ⟨Q, 1, none⟩ = some (.int .i64 ((p0 + d : Nat) : Int)) := cellR (j := 1) hP.hQ rfl
    have c2 : wr.cell? ⟨Q, 2, none⟩ = some (.int .i64 ((p0 + j : Nat) : Int)) := cellR (j := 2) hP.hQ rfl
    have c0 : wr.cell? ⟨Q, 0, none⟩ = some (.slice b ys.length cb) := cellR (j := 0) hP.hQ rfl
    have hat : atOf wr Q = p0 + j := by simp [atOf, c2]; omega
    have HE0 : Hid (wr.cell? ⟨11, 0, none⟩ = some (.iface 246 (.pointer (some pe)))) := e0
    have HC : Hid _ := (⟨c0, c1, c2⟩ : _ ∧ _ ∧ _)
    have HAT : Hid (atOf wr Q = p0 + j) := hat
    clear e0 c0 c1 c2 hat
    by_cases hlt : j < d
    · have HP : Hid (Poured w wr R B Q b ys.length cb n V (p0 + d) U p0 j u) := hP
      have HF : Hid (wr.frozen? ⟨Q, 2, none⟩ = false) := frozenR hP.hQ
      clear hP
      go_wp2_with fail
      refine (some_yes Q b cb ys (p0 + d) M U0 (p0 + j) wr (by omega) (by omega) hm (hb.belowB HP.out.bel hbB) HY.out (by omega) HC.out.1 HC.out.2.1 HC.out.2.2 HF.out).mono ?_
      rintro e w1 ⟨rfl, k1, rfl⟩
      obtain ⟨s, hs⟩ : ∃ s, s = min (d - j) 30 := ⟨_, rfl⟩
      rw [show min (p0 + d - (p0 + j)) 30 = s from by omega, shift_part, ← HU.out]
      have hX : U / 2 ^ j % 2 ^ s < 2 ^ s := Nat.mod_lt _ (Nat.pow_pos (by omega))
      have HPP : Hid (V + (U % 2 ^ j) * 2 ^ n + (U / 2 ^ j % 2 ^ s) * 2 ^ (n + j) = V + (U % 2 ^ (j + s)) * 2 ^ n) := put_part n V U j s
      have HVP : Hid (V + (U % 2 ^ j) * 2 ^ n < 2 ^ (n + j)) := put_lt n V j (U % 2 ^ j) HVV.out (Nat.mod_lt _ (Nat.pow_pos (by omega)))
      generalize U / 2 ^ j % 2 ^ s = X at *
      have HXI : Hid ((X : Int) < 2 ^ ((s : Int)).toNat) := by
        have e : ((2 : Int) ^ s) = ((2 ^ s : Nat) : Int) := by simp
        rw [Int.toNat_natCast, e]
        show (X : Int) < _
        exact Int.ofNat_lt.2 hX
      have hP1 := HP.out.drewN k1
      have hne := hP1.ne
      have hszw := hP1.bel.size
      have hs1 : s ≤ 30 := by omega
      have hs2 : j + s ≤ d := by omega
      have hs3 : 0 < s := by omega
      clear hs hX
      rw [show p0 + j + s = p0 + (j + s) from by omega]
      have hO1 : Only (fun k => k = Q) (wr.drewN k1) ((wr.drewN k1).setCell ⟨Q, 2, none⟩ (.int .i64 ((p0 + (j + s) : Nat) : Int))) := Only.setCell (Only.refl (fun k => k = Q) (wr.drewN k1)) (p := ⟨Q, 2, none⟩) (.inl rfl) _
      have hR1 : ((wr.drewN k1).setCell ⟨Q, 2, none⟩ (.int .i64 ((p0 + (j + s) : Nat) : Int))).heap[R]? = some (.cells #[u, .int .i64 ((n + j : Nat) : Int), .int .i64 4096] 73 (0, 0)) := by
        rw [Below.heap_setCell _ _ _ _ (by simpa using hne.symm)]; exact hP1.hR
      have hQ1 : ((wr.drewN k1).setCell ⟨Q, 2, none⟩ (.int .i64 ((p0 + (j + s) : Nat) : Int))).heap[Q]? = some (.cells #[.slice b ys.length cb, .int .i64 ((p0 + d : Nat) : Int), .int .i64 ((p0 + (j + s) : Nat) : Int)] 109 (0, 0)) := by
        rw [heap_setCell_same _ Q 2 _ _ _ hP1.hQ]; simp
      have hv1 : OwnV ((wr.drewN k1).setCell ⟨Q, 2, none⟩ (.int .i64 ((p0 + (j + s) : Nat) : Int))) B u (enc (n + j) (V + (U % 2 ^ j) * 2 ^ n)) := OwnV.only hP1.hv hO1 (fun k hk => OwnV.ne hP1.hv hk hP1.hQ (by decide))
      have hb1 : Below B w ((wr.drewN k1).setCell ⟨Q, 2, none⟩ (.int .i64 ((p0 + (j + s) : Nat) : Int))) := hP1.bel.setCell (by simpa using hBQ) _
      have hz1 : B ≤ ((wr.drewN k1).setCell ⟨Q, 2, none⟩ (.int .i64 ((p0 + (j + s) : Nat) : Int))).heap.size := Nat.le_trans hB hb1.size
      clear hP1 hO1 HP HF HC HE0
      generalize (wr.drewN k1).setCell ⟨Q, 2, none⟩ (.int .i64 ((p0 + (j + s) : Nat) : Int)) = w1 at *
      have H1 : Hid _ := (⟨hR1, hQ1, hv1, hb1⟩ : _ ∧ _ ∧ _ ∧ _)
      have e0 := keep H1.out.2.2.2 hG.1 g0
      clear hR1 hQ1 hv1 hb1
      go_wp2_with fail
      refine (is_nil _ _ _).mono ?_
      rintro e w1' ⟨rfl, rfl⟩
      clear e0
      by_cases hfit : n + j + s ≤ 4096
      · go_wp2_with fail
        refine (wput_yes R B u (n + j) (V + (U % 2 ^ j) * 2 ^ n) (X : Int) (s : Int) 4096 _ H1.out.1 H1.out.2.2.1 HVP.out hz1 (by omega) (by omega) (by omega) HXI.out (by omega) (by omega) (by omega)).mono ?_
        rintro e w2 ⟨rfl, v', hR2, hv2, ho2, hrow2⟩
        simp only [Int.toNat_natCast] at hR2 hv2
        rw [HPP.out] at hv2
        have hQl : Q < w1'.heap.size := (Array.getElem?_eq_some_iff.1 H1.out.2.1).1
        have hQ2 := (ho2.block Q hQl (by
          rintro (h | h)
          · exact hne h
          · exact OwnV.ne H1.out.2.2.1 h H1.out.2.1 (by decide) rfl)).trans H1.out.2.1
        have hb2 : Below B w w2 := H1.out.2.2.2.trans (ho2.below hz1 (by
          rintro k (h | h)
          · omega
          · exact (H1.out.2.2.1.1.lt _ h).1))
        have HF : Hid (Poured w w2 R B Q b ys.length cb n V (p0 + d) U p0 (j + s) v') := ⟨by rw [hR2, Nat.add_assoc], by rw [← Nat.add_assoc]; exact hv2, hQ2, hb2⟩
        have hat2 : Hid (atOf w2 Q = p0 + (j + s)) := by unfold Hid; simp [atOf, cellR (j := 2) hQ2 rfl]; omega
        clear hR2 hv2 hQ2 hb2 ho2 hrow2 H1
        go_wp2
        go_roundw
        case rel => exact ⟨j + s, v', by omega, by omega, HF.out⟩
        case measure => rw [HAT.out, hat2.out]; omega
      · have e1 := keep H1.out.2.2.2 hG.2 g1
        go_wp2_with fail
        refine (wput_full R u (n + j) (X : Int) (s : Int) 4096 (.iface T1 x1) _ H1.out.1 (by omega) (by omega) (by omega) e1 (by omega) (by omega) (by omega) HXI.out (by omega)).mono ?_
        rintro e w2 ⟨rfl, k2, rfl⟩
        have HB2 : Hid (Below B w (w1'.drewN k2)) := below_drewN H1.out.2.2.2 k2
        clear H1 e1
        generalize w1'.drewN k2 = w2 at *
        go_wp2
        go_ret
        exact ⟨HB2.out, fun h => by omega, fun _ => rfl⟩
    · have hpe : j = d := by omega
      subst hpe
      have HP : Hid (Poured w wr R B Q b ys.length cb n V (p0 + j) U p0 j u) := hP
      clear hP
      go_wp2_with fail
      refine (some_no Q (p0 + j) (p0 + j) (.iface 246 (.pointer (some pe))) wr (by omega) rfl HC.out.2.1 HC.out.2.2 HE0.out).mono ?_
      rintro e w1 ⟨rfl, k1, rfl⟩
      have HP1 : Hid (Poured w (wr.drewN k1) R B Q b ys.length cb n V (p0 + j) U p0 j u) := HP.out.drewN k1
      clear HP HC HE0
      generalize wr.drewN k1 = wf at *
      have e0 := keep HP1.out.bel hG.1 g0
      go_wp2_with fail
      refine (is_same pe _).mono ?_
      rintro e wf' ⟨rfl, rfl⟩
      go_wp2
      go_ret
      exact ⟨HP1.out.bel, fun _ => ⟨rfl, u, HP1.out.hR, HP1.out.hv⟩, fun h => by omega⟩
end Go.Proofs.YtfeokafkhnbdiaaGreatDoor
