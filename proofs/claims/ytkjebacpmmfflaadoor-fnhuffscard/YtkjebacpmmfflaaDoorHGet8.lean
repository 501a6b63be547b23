/-
  The program's huffReader.symbol.
-/
import Derived.Test.YtkjebacpmmfflaaDoorHGet7
import Derived.BigQuiet
namespace Go.Proofs.YtkjebacpmmfflaaDoor
open Go.RowKit
set_option linter.unusedVariables false

set_option maxRecDepth 20000 in
set_option maxHeartbeats 8000000 in
theorem symbol_any (H R B Bo : Nat) (ao : Option Addr) (co : Nat) (ls : List Int) (a : Option Addr) (cap : Nat) (zs : List Int) (n v p : Nat) (w0 w : World) (hb : Byt w0 a zs) (hB : w0.heap.size = B) (hbel : Below B w0 w) (hz : zs = enc n v) (hn : n ≤ 4096) (hp : p ≤ n) (hl : ls.length ≤ 80)
    (hH : HR w H R (hm ls (sbL ls 12)) ao (sbL ls 12).length co) (hM : MinI w Bo H ao co (sbL ls 12)) (hR : RD w B R a zs.length cap n p) (hRo : R < Bo) (hRH : R < H)
    (s0 : Sent w0 7) (s1 : Sent w0 8) (s2 : Sent w0 9) (hG : 7 < B ∧ 8 < B ∧ 9 < B) :
    Calls Tryd.prog 65 #[.pointer (some ⟨H, 0, none⟩)] w fun e w' => Only (fun k => k = R) w w' ∧
      ((∃ i k, One ls (crun ls (sbL ls 12)).2.2 n v p i k ∧ e = .returned (.tuple #[.int .i64 (i : Nat), .nilIface]) ∧ RD w' B R a zs.length cap n (p + k)) ∨
       (NoHit ls (crun ls (sbL ls 12)).2.2 v p (min 12 (n - p)) ∧ ∃ T x u, e = .returned (.tuple #[u, .iface T x]))) := by
  have hodl : (sbL ls 12).length ≤ 2000 := by have := sbL_len ls 12; omega
  have HRG : Hid (∀ z ∈ sbL ls 12, 0 ≤ z ∧ z ≤ 80) := fun z hz => by obtain ⟨s, h1, h2, _⟩ := sbL_mem ls 12 z hz; omega
  have HHR : Hid _ := hH
  have HM : Hid (MinI w Bo H ao co (sbL ls 12)) := hM
  have HRD : Hid _ := hR
  have HZ : Hid (zs = enc n v) := hz
  have HBB : Hid (Byt w0 a zs) := hb
  have HBE : Hid (Below B w0 w) := hbel
  have HWB : Hid (w0.heap.size = B) := hB
  have HBR : Hid (B ≤ R ∧ B ≤ w.heap.size) := ⟨hR.2.1, hR.2.2⟩
  clear hH hM hR hz hb hbel hB
  go_enter Tryd.func65, Tryd.ntmps65
  go_wp2
  go_loopw [4, 5, 6, 7] (fun c f x l wr => ∃ (k cn fn xn : Nat) (y : Int), y = (k : Int) + 1 ∧ k ≤ 12 ∧ p + k ≤ n ∧ Sy ls v p k cn fn xn ∧ c = .int .i64 cn ∧ f = .int .i64 fn ∧ x = .int .i64 xn ∧ l = .int .i64 y ∧ RD wr B R a zs.length cap n (p + k) ∧ Only (fun k => k = R) w wr) (fun _ _ _ l _ => (13 - intOf l).toNat)
  case atStart => exact ⟨0, 0, 0, 0, 1, by simp, by omega, by omega, sy_zero ls v p, rfl, rfl, rfl, rfl, HRD.out, Only.refl _ _⟩
  case round =>
    clear HRD
    obtain ⟨k, cn, fn, xn, y, hy, hk, hpk, hsy, rfl, rfl, rfl, rfl, hrd, hon⟩ := hrel
    obtain ⟨hcb, hfb, hxb⟩ := sy_bound hsy hk hl
    have HSY : Hid (Sy ls v p k cn fn xn) := hsy
    have HRD : Hid (RD wr B R a zs.length cap n (p + k)) := hrd
    have HON : Hid (Only (fun k => k = R) w wr) := hon
    have HBW : Hid (Below B w0 wr) := HBE.out.trans (hon.below HBR.out.2 (fun j hj => by rw [hj]; exact HBR.out.1))
    have hH2 : HR wr H R (hm ls (sbL ls 12)) ao (sbL ls 12).length co := HHR.out.only hon (by omega)
    have c0 := hH2.c0
    have c14 := hH2.co
    have hle := hsy.le
    have HH2 : Hid _ := hH2
    have hyb : 1 ≤ y ∧ y ≤ 13 := by omega
    clear hsy hrd hon hH2
    have HY : Hid (y = (k : Int) + 1) := hy
    have hfc : (fn : Int) ≤ cn := by omega
    by_cases h12 : k < 12
    · have hy12 : y ≤ 12 := by omega
      have HYT : Hid (y.toNat = k + 1) := by unfold Hid; omega
      clear hy
      by_cases hpn : p + k < n
      · have HGET := HRD.out.yes v 1 (by omega) (HBB.out.below HBW.out (by rw [HWB.out]; exact Nat.le_refl _)) HZ.out (by omega) (by omega) (by omega)
        go_wp2_with fail
        refine HGET.mono ?_
        clear HGET
        rintro e w2 ⟨rfl, hrd2, hon2, hb2⟩
        have HRD2 : Hid (RD w2 B R a zs.length cap n (p + k + 1)) := by simpa [Hid] using hrd2
        have HON2 : Hid (Only (fun k => k = R) w w2) := HON.out.trans hon2
        have hH3 := HH2.out.only hon2 (by omega)
        have d14 := hH3.co
        have dm := hH3.cm (k + 1) (by omega)
        rw [hm_at ls (k + 1) (by omega) (by omega), ← HYT.out] at dm
        have HBT : (v / 2 ^ (p + k) % 2 ^ (1 : Int).toNat) = v / 2 ^ (p + k) % 2 := by simp
        rw [HBT]
        have hbit : v / 2 ^ (p + k) % 2 < 2 := Nat.mod_lt _ (by omega)
        have HNX := fun h => sy_next (b := v / 2 ^ (p + k) % 2) HSY.out h12 rfl h
        have HHT := fun h => sy_hit (n := n) (b := v / 2 ^ (p + k) % 2) HSY.out h12 hpn rfl h
        have HM3 : Hid (MinI w2 Bo H ao co (sbL ls 12)) := HM.out.only HON2.out (fun j h1 h2 => by omega)
        have hmb := atL_len ls (k + 1) ls.length
        rw [HYT.out] at dm
        generalize (atL ls (k + 1) ls.length).length = m at *
        generalize v / 2 ^ (p + k) % 2 = b at *
        rw [← HYT.out] at dm
        clear hrd2 hon2 hb2 hH3 HBT HSY HRD HON c0 c14 HH2 HBW HHR
        by_cases hhit : 2 * cn + b - 2 * fn < m
        · obtain ⟨s, q1, q2, q3, q4⟩ := HHT hhit
          have HQ4 : Hid _ := q4
          obtain ⟨b1, o1, rfl, hb1, hc1⟩ := HM3.out.byt.len_pos (xn + (2 * cn + b - 2 * fn)) q3
          have hs1 := hc1 _ q3
          rw [q1] at hs1
          have HIX : Hid ((xn : Int) + (2 * cn + b) - fn * 2 = ((xn + (2 * cn + b - 2 * fn) : Nat) : Int)) := by unfold Hid; omega
          have hdl : (2 * (cn : Int) + b - fn * 2 < m) := by omega
          have HQ3 : Hid (xn + (2 * cn + b - 2 * fn) < (sbL ls 12).length) := q3
          clear hc1 q1 q4 HHT HNX HM3 hhit q3 hpk
          generalize hix : xn + (2 * cn + b - 2 * fn) = ix at *
          clear hix
          have hixl : (ix : Int) < (sbL ls 12).length := by have := HQ3.out; omega
          generalize (sbL ls 12).length = N at *
          have hE := HIX.out
          clear HIX
          go_wp2
          refine bodyPost_ret (v := .tuple #[.int .i64 (s : Nat), .nilIface]) (by simp [results, Tryd.results65, go_sem]) rfl ?_
          exact ⟨HON2.out, .inl ⟨s, k + 1, HQ4.out, rfl, by simpa [Nat.add_assoc] using HRD2.out⟩⟩
        · have HS2 : Hid (Sy ls v p (k + 1) (2 * cn + b) (2 * fn + m) (xn + m)) := HNX hhit
          have hdl : ¬ (2 * (cn : Int) + b - fn * 2 < m) := by omega
          clear HNX HHT HM3 d14 hhit
          go_wp2
          go_roundw
          case rel => exact ⟨k + 1, 2 * cn + b, 2 * fn + m, xn + m, y + 1, by have := HY.out; omega, by omega, by omega, HS2.out, by go_num, by go_num, by go_num, by go_num, by simpa [Nat.add_assoc] using HRD2.out, HON2.out⟩
          case measure => simp [intOf]; omega
      · have HN : Hid (NoHit ls (crun ls (sbL ls 12)).2.2 v p (min 12 (n - p))) := by
          rw [show min 12 (n - p) = k from by omega]
          exact HSY.out.no
        have HGET := HRD.out.no 1 (by omega) (by omega) (s0.below HBW.out (by omega)) (s1.below HBW.out (by omega)) (by omega)
        go_wp2_with fail
        refine HGET.mono ?_
        clear HGET
        rintro e w2 ⟨⟨T, x, rfl⟩, m, rfl⟩
        clear HSY HRD HH2
        go_wp2
        refine bodyPost_ret (v := .tuple #[.int .i64 0, .iface T x]) (by simp [results, Tryd.results65, go_sem]) rfl ?_
        exact ⟨HON.out.drewN _, .inr ⟨HN.out, T, x, _, rfl⟩⟩
    · have hk12 : k = 12 := by omega
      have HN : Hid (NoHit ls (crun ls (sbL ls 12)).2.2 v p (min 12 (n - p))) := by
        rw [show min 12 (n - p) = k from by omega]
        exact HSY.out.no
      have hy13 : ¬ y ≤ 12 := by omega
      obtain ⟨T, x, hc⟩ := s2.below HBW.out (by omega)
      clear HSY HRD HH2 hy hk12
      go_wp2
      go_quiet (fail)
      go_wp2
      refine bodyPost_ret (v := .tuple #[.int .i64 0, .iface T x]) (by simp [results, Tryd.results65, go_sem]) rfl ?_
      exact ⟨HON.out.drewN _, .inr ⟨HN.out, T, x, _, rfl⟩⟩
end Go.Proofs.YtkjebacpmmfflaaDoor
