/-
  The program's getNorm.
-/
import Derived.Test.YtfhcaoabohmkkaaDoorNGet
import Derived.Test.YtfhcaoabohmkkaaDoorRdr
import Derived.Test.YtfhcaoabohmkkaaDoorShareW
import Derived.BigQuiet
namespace Go.Proofs.YtfhcaoabohmkkaaDoor
open Go.RowKit
set_option linter.unusedVariables false

def gotN (n V p s : Nat) : Prop := good n V p s ∧ (gL V p s).1 = 0
theorem below_dQ {B : Nat} {a b : World} (h : Below B a b) (n : Nat) : Below B a (b.drewN n) := ⟨h.os, h.tape, h.output, h.size, h.block⟩

set_option maxHeartbeats 3200000 in
theorem getNorm_any (R B : Nat) (a : Option Addr) (cap : Nat) (zs : List Int) (n V p s : Nat) (w0 w : World) (hb : Byt w0 a zs) (hB : w0.heap.size = B) (hbel : Below B w0 w) (hz : zs = enc n V) (hn : n ≤ 4096) (hR : RD w B R a zs.length cap n p) (hp : p ≤ n) (hs : s ≤ 80)
    (s0 : Sent w0 2) (s1 : Sent w0 4) (s2 : Sent w0 0) (hG : 2 < B ∧ 4 < B ∧ 0 < B) :
    Calls Tryd.prog 36 #[.pointer (some ⟨R, 0, none⟩), .int .i64 s] w fun e w' => Below B w0 w' ∧
      (gotN n V p s → e = .returned (.tuple #[.slice (some ⟨w.heap.size, 0, none⟩) s s, .nilIface]) ∧ OwI w' B w.heap.size s (gXs V p s) ∧ RD w' B R a zs.length cap n (gL V p s).2) ∧
      (¬ gotN n V p s → ∃ T x v, e = .returned (.tuple #[v, .iface T x])) := by
  obtain ⟨i0, hi, hz0, hz1, hz2⟩ := info_parts Tryd.infoI64
  have hBw : B ≤ w.heap.size := hR.2.2
  have hRw : R < w.heap.size := (Array.getElem?_eq_some_iff.1 hR.1).1
  have HR : Hid (RD w B R a zs.length cap n p) := hR
  have HZ : Hid (zs = enc n V) := hz
  have HXR : Hid _ := gXs_rng V p s
  have HXL : Hid _ := gXs_len V p s
  clear hR hz
  go_enter Tryd.func36, Tryd.ntmps36
  go_wp2_with (at_make; refine wpList_make_full _ rfl _ _ 23 rfl w.heap.size 3 i0 (.int .i64 0) 1 Tryd.underlying23 hi hz0 hz1 .i64 .i64 _ _ s rfl rfl rfl rfl (by rw [hz2]; omega) (by unfold maxLen; omega) (Nat.le_refl _) ?_; intro w1 hown hgrow)
  have h0 : OwI w1 w.heap.size w.heap.size s (part (gXs V p s) 0) := by
    rw [part_zero, gXs_len]
    refine ⟨?_, by intro z hz; simp at hz; omega⟩
    rw [made_zeroI] at hown
    simpa using hown
  have hbw : Below w.heap.size w w1 := (Below.refl _ _).grown hgrow (Nat.le_refl _) (by intro k hk; cases hk)
  have H0 : Hid (OwI w1 w.heap.size w.heap.size s (part (gXs V p s) 0)) := h0
  have HB1 : Hid (Below B w0 w1) := hbel.trans (hbw.mono hBw)
  have HR1 : Hid (RD w1 B R a zs.length cap n p) := HR.out.only (Only.ofBelow (S := fun _ => False) hbw (Nat.le_refl _)) (by simp)
  clear h0 hown hgrow hi hz0 hz1 hz2 hbw hbel HR
  go_loopw [7, 15] (fun l i wr => ∃ k : Nat, k ≤ s ∧ i = .int .i64 k ∧ l = .int .i64 ((gL V p k).1 : Nat) ∧ good n V p k ∧ OwI wr w.heap.size w.heap.size s (part (gXs V p s) k) ∧ RD wr B R a zs.length cap n (gL V p k).2 ∧ Below B w0 wr) (fun _ i _ => s - (intOf i).toNat)
  case atStart => exact ⟨0, Nat.zero_le _, rfl, rfl, fun j hj => by omega, H0.out, HR1.out, HB1.out⟩
  case round =>
    clear H0 HR1 HB1
    obtain ⟨k, hk, rfl, rfl, hgood, hown, hrd, hbel⟩ := hrel
    have HGD : Hid (good n V p k) := hgood
    have HO : Hid (OwI wr w.heap.size w.heap.size s (part (gXs V p s) k)) := hown
    have HRD : Hid (RD wr B R a zs.length cap n (gL V p k).2) := hrd
    have hq := good_pos hp hgood
    clear hgood hown hrd
    by_cases hlt : k < s
    · have hl := gL_le V p k
      have hb7 := bl_le7 _ hl
      have HXG : Hid ((gXs V p s).getD k 0 = (gX V p k : Nat)) := gXs_get V p s k hlt
      have HX : Hid (gX V p k = V / 2 ^ (gL V p k).2 % 2 ^ bl (gL V p k).1) := rfl
      have hx := gX_lt V p k
      have HBS : Hid _ := bad_size (n := n) (V := V) (p := p) hlt
      have HBX : Hid _ := bad_share (n := n) (V := V) (p := p) hlt
      have HGS : Hid _ := @good_succ n V p k
      have HS1 : Hid _ := gL_succ1 V p k
      have HS2 : Hid _ := gL_succ2 V p k
      generalize (gL V p k).1 = l at *
      generalize (gL V p k).2 = q at *
      generalize gX V p k = x at *
      go_wp2_with fail
      refine (shareWidth_any l wr (by omega)).mono ?_
      rintro e w1 ⟨rfl, rfl⟩
      by_cases c1 : q + bl l ≤ n
      · go_wp2_with fail
        refine (HRD.out.yes V ((bl l : Nat) : Int) (by omega) (hb.below hbel (by omega)) HZ.out (by omega) (by omega) (by omega)).mono ?_
        rintro e w2 ⟨rfl, hrd2, hon2, hb2⟩
        have HRD2 : Hid (RD w2 B R a zs.length cap n (q + bl l)) := by simpa [Hid] using hrd2
        have HO2 : Hid (OwI w2 w.heap.size w.heap.size s (part (gXs V p s) k)) := HO.out.only hon2 (by omega)
        have hbel2 : Below B w0 w2 := hbel.trans hb2
        have hxe : V / 2 ^ q % 2 ^ ((bl l : Nat) : Int).toNat = x := by rw [HX.out]; simp
        rw [hxe]
        clear hrd2 hon2 hb2 hbel HRD HO hxe
        by_cases c2 : x ≤ l
        · have HG2 : Hid (good n V p (k + 1)) := HGS.out HGD.out c1 c2
          have hpl : (part (gXs V p s) k).length = s := by rw [part_len _ _ (by rw [HXL.out]; omega)]; exact HXL.out
          have hdst := HO2.out.cell k (by omega)
          have hfz := HO2.out.frozen k
          have R2 := HO2.out.store k ((gXs V p s).getD k 0) (by rw [HXG.out]; omega)
          rw [part_set _ _ (by rw [HXL.out]; exact hlt), HXG.out] at R2
          have HR2 : Hid (OwI (w2.setCell ⟨w.heap.size, k, none⟩ (.int .i64 (x : Nat))) w.heap.size w.heap.size s (part (gXs V p s) (k + 1))) := R2
          have HB2 : Hid (Below B w0 (w2.setCell ⟨w.heap.size, k, none⟩ (.int .i64 (x : Nat)))) := hbel2.setCell (p := ⟨w.heap.size, k, none⟩) hBw (.int .i64 (x : Nat))
          have HRD3 : Hid (RD (w2.setCell ⟨w.heap.size, k, none⟩ (.int .i64 (x : Nat))) B R a zs.length cap n (q + bl l)) := HRD2.out.only (Only.setCell (Only.refl (fun b => b = w.heap.size) w2) (p := ⟨w.heap.size, k, none⟩) (.inl rfl) _) (by omega)
          have E1 : Hid ((l : Int) - (x : Nat) = (((gL V p (k + 1)).1 : Nat) : Int)) := by have := HS1.out; unfold Hid; omega
          clear R2 hpl HRD2 HO2 hbel2 HS1 HBS HBX HGS HX HXG
          generalize (part (gXs V p s) k).getD k 0 = old at *
          go_wp2
          go_roundw
          case rel => exact ⟨k + 1, by omega, by go_num, by rw [E1.out], HG2.out, by simpa using HR2.out, by rw [HS2.out]; simpa using HRD3.out, by simpa using HB2.out⟩
          case measure => simp [intOf]; omega
        · have HN : Hid (¬ gotN n V p s) := fun h => HBX.out c2 h.1
          obtain ⟨T, y, hc⟩ := s2.below hbel2 (by omega)
          clear HBS HBX HGS HX HXG HRD2 HO2 HS1 HS2
          go_wp2
          go_quiet (fail)
          go_wp2
          exact bodyPost_ret (v := .tuple #[.slice none 0 0, .iface T y]) (by simp [results, Tryd.results36, go_sem]) rfl ⟨below_dQ hbel2 _, fun h => absurd h HN.out, fun _ => ⟨T, y, _, rfl⟩⟩
      · have HN : Hid (¬ gotN n V p s) := fun h => HBS.out c1 h.1
        go_wp2_with fail
        refine (HRD.out.no ((bl l : Nat) : Int) (by omega) (by omega) (s0.below hbel (by omega)) (s1.below hbel (by omega)) (by omega)).mono ?_
        rintro e w2 ⟨⟨T, y, rfl⟩, m, rfl⟩
        clear HBS HBX HGS HX HXG HRD HO HS1 HS2
        go_wp2
        exact bodyPost_ret (v := .tuple #[.slice none 0 0, .iface T y]) (by simp [results, Tryd.results36, go_sem]) rfl ⟨below_dQ hbel _, fun h => absurd h HN.out, fun _ => ⟨T, y, _, rfl⟩⟩
    · have hkn : k = s := by omega
      subst hkn
      have hall := HO.out
      rw [show part (gXs V p k) k = gXs V p k from by have := part_all (gXs V p k); rw [HXL.out] at this; exact this] at hall
      have HA : Hid (OwI wr B w.heap.size k (gXs V p k)) := hall.mono hBw
      clear hall HO
      have hl := gL_le V p k
      by_cases c0 : (gL V p k).1 = 0
      · have HY : Hid (gotN n V p k) := ⟨HGD.out, c0⟩
        rw [c0]
        go_wp2
        exact bodyPost_ret (v := .tuple #[.slice (some ⟨w.heap.size, 0, none⟩) k k, .nilIface]) (by simp [results, Tryd.results36, go_sem]) rfl ⟨hbel, fun _ => ⟨rfl, HA.out, HRD.out⟩, fun h => absurd HY.out h⟩
      · have HN : Hid (¬ gotN n V p k) := fun h => c0 h.2
        obtain ⟨T, y, hc⟩ := s2.below hbel (by omega)
        generalize (gL V p k).1 = l at *
        have hne : ((l : Int) != 0) = true := by rw [bne_iff_ne]; omega
        clear HRD HA HGD
        go_wp2
        go_quiet (fail)
        go_wp2
        exact bodyPost_ret (v := .tuple #[.slice none 0 0, .iface T y]) (by simp [results, Tryd.results36, go_sem]) rfl ⟨below_dQ hbel _, fun h => absurd h HN.out, fun _ => ⟨T, y, _, rfl⟩⟩
end Go.Proofs.YtfhcaoabohmkkaaDoor
