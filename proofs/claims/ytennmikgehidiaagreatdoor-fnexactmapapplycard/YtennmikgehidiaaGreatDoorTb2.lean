/-
  The table of cells, as numbers.
-/
import Derived.Test.YtennmikgehidiaaGreatDoorHGet7
import Derived.BigQuiet
import Derived.Test.YtennmikgehidiaaGreatDoorLGet1
import Derived.Test.YtennmikgehidiaaGreatDoorPlP
namespace Go.Proofs.YtennmikgehidiaaGreatDoor
open Go.RowKit
set_option linter.unusedVariables false

set_option maxRecDepth 20000 in
set_option maxHeartbeats 8000000 in
theorem symbol_any (H R B Bo : Nat) (ao : Option Addr) (co : Nat) (ls : List Int) (a : Option Addr) (cap : Nat) (zs : List Int) (n v p : Nat) (w0 w : World) (hb : Byt w0 a zs) (hB : w0.heap.size = B) (hbel : Below B w0 w) (hz : zs = enc n v) (hn : n ≤ 4096) (hp : p ≤ n) (hl : ls.length ≤ 80)
    (hH : HR w H R (hm ls (sbL ls 12)) ao (sbL ls 12).length co) (hM : MinI w Bo H ao co (sbL ls 12)) (hR : RD w B R a zs.length cap n p) (hRo : R < Bo) (hRH : R < H)
    (s0 : Sent w0 7) (s1 : Sent w0 8) (s2 : Sent w0 17) (hG : 7 < B ∧ 8 < B ∧ 17 < B) :
    Calls Tryz.prog 120 #[.pointer (some ⟨H, 0, none⟩)] w fun e w' => Only (fun k => k = R) w w' ∧
      ((∃ i k, One ls (crun ls (sbL ls 12)).2.2 n v p i k ∧ e = .returned (.tuple #[.int .i64 (i : Nat), .nilIface]) ∧ RD w' B R a zs.length cap n (p + k)) ∨
       (NoHit ls (crun ls (sbL ls 12)).2.2 v p (min 12 (n - p)) ∧ ∃ T x u, e = .returned (.tuple #[u, .iface T x]))) := by
  have hodl : (sbL ls 12).length ≤ 2000 := by have := sbL_len ls 12; omega
  have HRG : Hid (∀ z ∈ sbL ls 12, 0 ≤ z ∧ z ≤ 80) := fun z hz => by obtain ⟨s, h1, h2, _⟩ := sbL_mem ls 12 z hz; omega
  have HHR : Hid _ := hH
  have HM : Hid (MinI w Bo H ao co (sbL ls 12)) := hM
  have HRD : Hid _ := hR
  have HZ : Hid (zs = enc n v) := hz
  have HBB : Hid (Byt w0 a zs) := hb
  have HBE : Hid (Below B w0 w) := hbel
  have HWB : Hid (w0.heap.size = B) := hB
  have HBR : Hid (B ≤ R ∧ B ≤ w.heap.size) := ⟨hR.2.1, hR.2.2⟩
  clear hH hM hR hz hb hbel hB
  go_enter Tryz.func120, Tryz.ntmps120
  go_wp2
  go_loopw [4, 5, 6, 7] (fun c f x l wr => ∃ (k cn fn xn : Nat) (y : Int), y = (k : Int) + 1 ∧ k ≤ 12 ∧ p + k ≤ n ∧ Sy ls v p k cn fn xn ∧ c = .int .i64 cn ∧ f = .int .i64 fn ∧ x = .int .i64 xn ∧ l = .int .i64 y ∧ RD wr B R a zs.length cap n (p + k) ∧ Only (fun k => k = R) w wr) (fun _ _ _ l _ => (13 - intOf l).toNat)
  case atStart => exact ⟨0, 0, 0, 0, 1, by simp, by omega, by omega, sy_zero ls v p, rfl, rfl, rfl, rfl, HRD.out, Only.refl _ _⟩
  case round =>
    clear HRD
    obtain ⟨k, cn, fn, xn, y, hy, hk, hpk, hsy, rfl, rfl, rfl, rfl, hrd, hon⟩ := hrel
    obtain ⟨hcb, hfb, hxb⟩ := sy_bound hsy hk hl
    have HSY : Hid (Sy ls v p k cn fn xn) := hsy
    have HRD : Hid (RD wr B R a zs.length cap n (p + k)) := hrd
    have HON : Hid (Only (fun k => k = R) w wr) := hon
    have HBW : Hid (Below B w0 wr) := HBE.out.trans (hon.below HBR.out.2 (fun j hj => by rw [hj]; exact HBR.out.1))
    have hH2 : HR wr H R (hm ls (sbL ls 12)) ao (sbL ls 12).length co := HHR.out.only hon (by omega)
    have c0 := hH2.c0
    have c14 := hH2.co
    have hle := hsy.le
    have HH2 : Hid _ := hH2
    have hyb : 1 ≤ y ∧ y ≤ 13 := by omega
    clear hsy hrd hon hH2
    have HY : Hid (y = (k : Int) + 1) := hy
    have hfc : (fn : Int) ≤ cn := by omega
    by_cases h12 : k < 12
    · have hy12 : y ≤ 12 := by omega
      have HYT : Hid (y.toNat = k + 1) := by unfold Hid; omega
      clear hy
      by_cases hpn : p + k < n
      · have HGET := HRD.out.yes v 1 (by omega) (HBB.out.below HBW.out (by rw [HWB.out]; exact Nat.le_refl _)) HZ.out (by omega) (by omega) (by omega)
        go_wp2_with fail
        refine HGET.mono ?_
        clear HGET
        rintro e w2 ⟨rfl, hrd2, hon2, hb2⟩
        have HRD2 : Hid (RD w2 B R a zs.length cap n (p + k + 1)) := by simpa [Hid] using hrd2
        have HON2 : Hid (Only (fun k => k = R) w w2) := HON.out.trans hon2
        have hH3 := HH2.out.only hon2 (by omega)
        have d14 := hH3.co
        have dm := hH3.cm (k + 1) (by omega)
        rw [hm_at ls (k + 1) (by omega) (by omega), ← HYT.out] at dm
        have HBT : (v / 2 ^ (p + k) % 2 ^ (1 : Int).toNat) = v / 2 ^ (p + k) % 2 := by simp
        rw [HBT]
        have hbit : v / 2 ^ (p + k) % 2 < 2 := Nat.mod_lt _ (by omega)
        have HNX := fun h => sy_next (b := v / 2 ^ (p + k) % 2) HSY.out h12 rfl h
        have HHT := fun h => sy_hit (n := n) (b := v / 2 ^ (p + k) % 2) HSY.out h12 hpn rfl h
        have HM3 : Hid (MinI w2 Bo H ao co (sbL ls 12)) := HM.out.only HON2.out (fun j h1 h2 => by omega)
        have hmb := atL_len ls (k + 1) ls.length
        rw [HYT.out] at dm
        generalize (atL ls (k + 1) ls.length).length = m at *
        generalize v / 2 ^ (p + k) % 2 = b at *
        rw [← HYT.out] at dm
        clear hrd2 hon2 hb2 hH3 HBT HSY HRD HON c0 c14 HH2 HBW HHR
        by_cases hhit : 2 * cn + b - 2 * fn < m
        · obtain ⟨s, q1, q2, q3, q4⟩ := HHT hhit
          have HQ4 : Hid _ := q4
          obtain ⟨b1, o1, rfl, hb1, hc1⟩ := HM3.out.byt.len_pos (xn + (2 * cn + b - 2 * fn)) q3
          have hs1 := hc1 _ q3
          rw [q1] at hs1
          have HIX : Hid ((xn : Int) + (2 * cn + b) - fn * 2 = ((xn + (2 * cn + b - 2 * fn) : Nat) : Int)) := by unfold Hid; omega
          have hdl : (2 * (cn : Int) + b - fn * 2 < m) := by omega
          have HQ3 : Hid (xn + (2 * cn + b - 2 * fn) < (sbL ls 12).length) := q3
          clear hc1 q1 q4 HHT HNX HM3 hhit q3 hpk
          generalize hix : xn + (2 * cn + b - 2 * fn) = ix at *
          clear hix
          have hixl : (ix : Int) < (sbL ls 12).length := by have := HQ3.out; omega
          generalize (sbL ls 12).length = N at *
          have hE := HIX.out
          clear HIX
          go_wp2
          refine bodyPost_ret (v := .tuple #[.int .i64 (s : Nat), .nilIface]) (by simp [results, Tryz.results120, go_sem]) rfl ?_
          exact ⟨HON2.out, .inl ⟨s, k + 1, HQ4.out, rfl, by simpa [Nat.add_assoc] using HRD2.out⟩⟩
        · have HS2 : Hid (Sy ls v p (k + 1) (2 * cn + b) (2 * fn + m) (xn + m)) := HNX hhit
          have hdl : ¬ (2 * (cn : Int) + b - fn * 2 < m) := by omega
          clear HNX HHT HM3 d14 hhit
          go_wp2
          go_roundw
          case rel => exact ⟨k + 1, 2 * cn + b, 2 * fn + m, xn + m, y + 1, by have := HY.out; omega, by omega, by omega, HS2.out, by go_num, by go_num, by go_num, by go_num, by simpa [Nat.add_assoc] using HRD2.out, HON2.out⟩
          case measure => simp [intOf]; omega
      · have HN : Hid (NoHit ls (crun ls (sbL ls 12)).2.2 v p (min 12 (n - p))) := by
          rw [show min 12 (n - p) = k from by omega]
          exact HSY.out.no
        have HGET := HRD.out.no 1 (by omega) (by omega) (s0.below HBW.out (by omega)) (s1.below HBW.out (by omega)) (by omega)
        go_wp2_with fail
        refine HGET.mono ?_
        clear HGET
        rintro e w2 ⟨⟨T, x, rfl⟩, m, rfl⟩
        clear HSY HRD HH2
        go_wp2
        refine bodyPost_ret (v := .tuple #[.int .i64 0, .iface T x]) (by simp [results, Tryz.results120, go_sem]) rfl ?_
        exact ⟨HON.out.drewN _, .inr ⟨HN.out, T, x, _, rfl⟩⟩
    · have hk12 : k = 12 := by omega
      have HN : Hid (NoHit ls (crun ls (sbL ls 12)).2.2 v p (min 12 (n - p))) := by
        rw [show min 12 (n - p) = k from by omega]
        exact HSY.out.no
      have hy13 : ¬ y ≤ 12 := by omega
      obtain ⟨T, x, hc⟩ := s2.below HBW.out (by omega)
      clear HSY HRD HH2 hy hk12
      go_wp2
      go_quiet (fail)
      go_wp2
      refine bodyPost_ret (v := .tuple #[.int .i64 0, .iface T x]) (by simp [results, Tryz.results120, go_sem]) rfl ?_
      exact ⟨HON.out.drewN _, .inr ⟨HN.out, T, x, _, rfl⟩⟩
end Go.Proofs.YtennmikgehidiaaGreatDoor
namespace Go.Proofs.YtennmikgehidiaaGreatDoor
open Go.RowKit
set_option linter.unusedVariables false

theorem lensB_okG {zs : List Int} (h : lensB zs = true) : 1 ≤ zs.length ∧ zs.length ≤ 80 ∧ ∀ z ∈ zs, 0 ≤ z ∧ z ≤ 12 := by
  simp only [lensB, decide_eq_true_eq] at h
  exact ⟨h.1, h.2.1, h.2.2.1⟩
theorem below_dHG {B : Nat} {a b : World} (h : Below B a b) (n : Nat) : Below B a (b.drewN n) := ⟨h.os, h.tape, h.output, h.size, h.block⟩

set_option maxRecDepth 20000 in
set_option maxHeartbeats 8000000 in
/-- text of the program: the reader of codes at H over the reader at R, from place p on. -/
theorem text_any (H R B B0 : Nat) (ao : Option Addr) (co : Nat) (ls : List Int) (x : Option Addr) (cx : Nat) (zs : List Int) (n V p N : Nat) (w0 w : World) (hx : Byt w0 x zs) (hB : w0.heap.size = B) (hbel : Below B w0 w) (hz : zs = enc n V) (hn : n ≤ 4096) (hp : p ≤ n) (hN : N ≤ 300) (hn2 : ls.length ≤ 80)
    (hHR : HR w H R (hm ls (sbL ls 12)) ao (sbL ls 12).length co) (hMO : MinI w B0 H ao co (sbL ls 12)) (hRD : RD w B R x zs.length cx n p) (hRH : R < H) (hRB0 : R < B0)
    (s0 : Sent w0 7) (s1 : Sent w0 8) (s2 : Sent w0 17) (hG : 7 < w0.heap.size ∧ 8 < w0.heap.size ∧ 17 < w0.heap.size) :
    Calls Tryz.prog 109 #[.pointer (some ⟨H, 0, none⟩), .int .i64 N] w fun e w' => Only (fun k => k = R) w w' ∧ Below B w0 w' ∧
      ((∃ q E g, q.length = N ∧ Reads ls (crun ls (sbL ls 12)).2.2 n V p q E ∧ OwI w' w.heap.size g N q ∧ RD w' B R x zs.length cx n E ∧ e = .returned (.tuple #[.slice (some ⟨g, 0, none⟩) N N, .nilIface])) ∨
       (∃ q E T y, q.length < N ∧ Reads ls (crun ls (sbL ls 12)).2.2 n V p q E ∧ NoHit ls (crun ls (sbL ls 12)).2.2 V E (min 12 (n - E)) ∧ e = .returned (.tuple #[.slice none 0 0, .iface T y]))) := by
  obtain ⟨i0, hi, hz0, hz1, hz2⟩ := info_parts Tryz.infoI64
  have HPK : Hid (Byt w0 x zs ∧ w0.heap.size = B ∧ zs = enc n V ∧ Sent w0 7 ∧ Sent w0 8 ∧ Sent w0 17 ∧ (7 < w0.heap.size ∧ 8 < w0.heap.size ∧ 17 < w0.heap.size)) := ⟨hx, hB, hz, s0, s1, s2, hG⟩
  have HW : Hid (HR w H R (hm ls (sbL ls 12)) ao (sbL ls 12).length co ∧ MinI w B0 H ao co (sbL ls 12) ∧ RD w B R x zs.length cx n p ∧ Below B w0 w) := ⟨hHR, hMO, hRD, hbel⟩
  have hRlt : R < w.heap.size := (Array.getElem?_eq_some_iff.1 hRD.1).1
  have hBR := hRD.2.1
  have hHw : H < w.heap.size := hHR.lt
  clear hx hB hz s0 s1 s2 hG hHR hMO hRD hbel
  go_enter Tryz.func109, Tryz.ntmps109
  go_wp2_with (at_make; refine wpList_make_full _ rfl _ _ 49 rfl w.heap.size 3 i0 (.int .i64 0) 1 Tryz.underlying49 hi hz0 hz1 .i64 .i64 _ _ N rfl rfl rfl rfl (by rw [hz2]; omega) (by unfold maxLen; omega) (Nat.le_refl _) ?_; intro w5 hown hgrow)
  have hbw : Below w.heap.size w w5 := (Below.refl _ _).grown hgrow (Nat.le_refl _) (by intro k hk; cases hk)
  have H0 : Hid (OwI w5 w.heap.size w.heap.size N ([] ++ List.replicate N 0)) := by
    rw [List.nil_append]
    refine ⟨?_, by intro z hz; simp at hz; omega⟩
    rw [made_zeroI] at hown
    simpa using hown
  have HO5 : Only (fun _ => False) w w5 := Only.ofBelow (S := fun _ => False) hbw (Nat.le_refl _)
  have HW5 : Hid (HR w5 H R (hm ls (sbL ls 12)) ao (sbL ls 12).length co ∧ MinI w5 B0 H ao co (sbL ls 12) ∧ RD w5 B R x zs.length cx n p ∧ Below B w0 w5 ∧ Only (fun k => k = R) w w5) :=
    ⟨HW.out.1.only HO5 (by simp), HW.out.2.1.only HO5 (by simp), HW.out.2.2.1.only HO5 (by simp), HW.out.2.2.2.trans (hbw.mono HW.out.2.2.1.2.2), Only.ofBelow hbw (Nat.le_refl _)⟩
  clear HW HO5 hbw hown hgrow hi hz0 hz1 hz2
  generalize hg4 : w.heap.size = g at *
  have HG4 : Hid (w.heap.size = g ∧ True) := ⟨hg4, trivial⟩
  clear hg4
  go_loopw [14] (fun i wr => ∃ (k : Nat) (q : List Int) (P : Nat), k ≤ N ∧ q.length = k ∧ i = .int .i64 k ∧ Reads ls (crun ls (sbL ls 12)).2.2 n V p q P ∧ OwI wr g g N (q ++ List.replicate (N - k) 0) ∧ HR wr H R (hm ls (sbL ls 12)) ao (sbL ls 12).length co ∧ MinI wr B0 H ao co (sbL ls 12) ∧ RD wr B R x zs.length cx n P ∧ Below B w0 wr ∧ Only (fun k => k = R) w wr) (fun i _ => N - (intOf i).toNat)
  case atStart => exact ⟨0, [], p, Nat.zero_le _, rfl, rfl, .nil, H0.out, HW5.out.1, HW5.out.2.1, HW5.out.2.2.1, HW5.out.2.2.2.1, HW5.out.2.2.2.2⟩
  case round =>
    clear H0 HW5
    obtain ⟨k, q, P, hk, hql, rfl, hrds, hown, hhr, hmo, hrd, hbel, honw⟩ := hrel
    have HS : Hid (q.length = k ∧ Reads ls (crun ls (sbL ls 12)).2.2 n V p q P ∧ OwI wr g g N (q ++ List.replicate (N - k) 0) ∧ HR wr H R (hm ls (sbL ls 12)) ao (sbL ls 12).length co ∧ MinI wr B0 H ao co (sbL ls 12) ∧ RD wr B R x zs.length cx n P ∧ Below B w0 wr ∧ Only (fun k => k = R) w wr ∧ P ≤ n) := ⟨hql, hrds, hown, hhr, hmo, hrd, hbel, honw, hrds.le hp⟩
    have hgl := hown.lt.2
    clear hql hrds hown hhr hmo hrd hbel honw
    by_cases hlt : k < N
    · have HSY := symbol_any H R B B0 ao co ls x cx zs n V P w0 wr HPK.out.1 HPK.out.2.1 HS.out.2.2.2.2.2.2.1 HPK.out.2.2.1 hn HS.out.2.2.2.2.2.2.2.2 hn2 HS.out.2.2.2.1 HS.out.2.2.2.2.1 HS.out.2.2.2.2.2.1 (by omega) (by omega) HPK.out.2.2.2.1 HPK.out.2.2.2.2.1 HPK.out.2.2.2.2.2.1 (by have h := HPK.out.2.2.2.2.2.2; rw [HPK.out.2.1] at h; exact h)
      go_wp2_with fail
      refine HSY.mono ?_
      clear HSY
      rintro e w6 ⟨hon, ⟨i, m, hone, rfl, hrd6⟩ | ⟨hno, T, y, u, rfl⟩⟩
      · have hll : (q ++ List.replicate (N - k) 0).length = N := by rw [List.length_append, List.length_replicate, HS.out.1]; omega
        have hib : i < 80 := by have := hone.2.2.2.1; omega
        have ho6 : OwI w6 g g N (q ++ List.replicate (N - k) 0) := HS.out.2.2.1.only hon (by omega)
        have hdst := ho6.cell k (by rw [hll]; exact hlt)
        have hfz := ho6.frozen k
        have hset : (q ++ List.replicate (N - k) (0 : Int)).set k ((i : Nat) : Int) = (q ++ [((i : Nat) : Int)]) ++ List.replicate (N - (k + 1)) 0 := by
          rw [List.set_append_right _ _ (by rw [HS.out.1]; exact Nat.le_refl _), HS.out.1, Nat.sub_self, show N - k = (N - (k + 1)) + 1 from by omega, List.replicate_succ, List.set_cons_zero, List.append_assoc]
          rfl
        have hR7 := ho6.store k ((i : Nat) : Int) (by omega)
        rw [hset] at hR7
        have hon7 : Only (fun b => b = g) w6 (w6.setCell ⟨g, k, none⟩ (.int .i64 (i : Nat))) := Only.setCell (Only.refl (fun b => b = g) w6) (p := ⟨g, k, none⟩) (.inl rfl) _
        have hBwr : B ≤ wr.heap.size := HS.out.2.2.2.2.2.1.2.2
        have hHg : H < wr.heap.size := HS.out.2.2.2.1.lt
        have HF : Hid ((q ++ [((i : Nat) : Int)]).length = k + 1 ∧ Reads ls (crun ls (sbL ls 12)).2.2 n V p (q ++ [(i : Int)]) (P + m) ∧ OwI (w6.setCell ⟨g, k, none⟩ (.int .i64 (i : Nat))) g g N ((q ++ [((i : Nat) : Int)]) ++ List.replicate (N - (k + 1)) 0) ∧ HR (w6.setCell ⟨g, k, none⟩ (.int .i64 (i : Nat))) H R (hm ls (sbL ls 12)) ao (sbL ls 12).length co ∧ MinI (w6.setCell ⟨g, k, none⟩ (.int .i64 (i : Nat))) B0 H ao co (sbL ls 12) ∧ RD (w6.setCell ⟨g, k, none⟩ (.int .i64 (i : Nat))) B R x zs.length cx n (P + m) ∧ Below B w0 (w6.setCell ⟨g, k, none⟩ (.int .i64 (i : Nat))) ∧ Only (fun k => k = R) w (w6.setCell ⟨g, k, none⟩ (.int .i64 (i : Nat)))) := by
          refine ⟨by rw [List.length_append, HS.out.1]; rfl, .snoc HS.out.2.1 hone, hR7, ?_, ?_, hrd6.only hon7 (by omega), ?_, ?_⟩
          · exact (HS.out.2.2.2.1.only hon (by omega)).only hon7 (by omega)
          · exact (HS.out.2.2.2.2.1.only hon (fun j h1 h2 => by omega)).only hon7 (fun j h1 h2 => by omega)
          · exact (HS.out.2.2.2.2.2.2.1.trans (hon.below hBwr (fun j hj => by omega))).setCell (p := ⟨g, k, none⟩) (by have := HG4.out.1; simp; omega) _
          · exact (HS.out.2.2.2.2.2.2.2.1.trans hon).setCell (.inr (by rw [HG4.out.1]; exact Nat.le_refl _)) _
        clear hR7 hon7 hset hll hon hone hrd6 ho6 HS
        generalize (q ++ List.replicate (N - k) 0).getD k 0 = old at *
        go_wp2
        go_roundw
        case rel => exact ⟨k + 1, q ++ [((i : Nat) : Int)], P + m, by omega, HF.out.1, by go_num, HF.out.2.1, HF.out.2.2.1, HF.out.2.2.2.1, HF.out.2.2.2.2.1, HF.out.2.2.2.2.2.1, HF.out.2.2.2.2.2.2.1, HF.out.2.2.2.2.2.2.2⟩
        case measure => simp [intOf]; omega
      · have HF : Hid (Only (fun k => k = R) w w6 ∧ Below B w0 w6 ∧ NoHit ls (crun ls (sbL ls 12)).2.2 V P (min 12 (n - P)) ∧ q.length < N ∧ Reads ls (crun ls (sbL ls 12)).2.2 n V p q P) := ⟨HS.out.2.2.2.2.2.2.2.1.trans hon, HS.out.2.2.2.2.2.2.1.trans (hon.below HS.out.2.2.2.2.2.1.2.2 (fun j hj => by omega)), hno, by rw [HS.out.1]; exact hlt, HS.out.2.1⟩
        clear hno hon HS
        go_wp2
        go_ret2
        exact ⟨HF.out.1, HF.out.2.1, .inr ⟨q, P, T, y, HF.out.2.2.2.1, HF.out.2.2.2.2, HF.out.2.2.1, rfl⟩⟩
    · have hkn : k = N := by omega
      subst hkn
      have HFI : Hid (OwI wr w.heap.size g k q ∧ True) := by
        have := HS.out.2.2.1
        rw [Nat.sub_self] at this
        simp only [List.replicate_zero, List.append_nil] at this
        exact ⟨this.mono (by rw [HG4.out.1]; exact Nat.le_refl _), trivial⟩
      go_wp2
      go_ret2
      exact ⟨HS.out.2.2.2.2.2.2.2.1, HS.out.2.2.2.2.2.2.1, .inl ⟨q, P, g, HS.out.1, HS.out.2.1, HFI.out.1, HS.out.2.2.2.2.2.1, rfl⟩⟩
end Go.Proofs.YtennmikgehidiaaGreatDoor
namespace Go.Proofs.YtennmikgehidiaaGreatDoor
open Go.RowKit
set_option linter.unusedVariables false

theorem sum_succ (zs : List Int) (k : Nat) (h : k < zs.length) : (zs.take (k + 1)).sum = (zs.take k).sum + zs.getD k 0 := by
  rw [List.take_succ_eq_append_getElem h, List.sum_append]
  simp [List.getD_eq_getElem?_getD, List.getElem?_eq_getElem h]
theorem sum_bnd {zs : List Int} {m : Int} (h : ∀ z ∈ zs, 0 ≤ z ∧ z ≤ m) : 0 ≤ zs.sum ∧ zs.sum ≤ m * zs.length := by
  induction zs with
  | nil => simp
  | cons z zs ih =>
    have h1 := h z (by simp)
    have h2 := ih (fun y hy => h y (by simp [hy]))
    simp only [List.sum_cons, List.length_cons]
    rw [show m * ((zs.length + 1 : Nat) : Int) = m * zs.length + m from by rw [Int.natCast_add, Int.mul_add]; simp]
    omega

/-- What NormOk tells. -/
def normB (zs : List Int) : Bool := decide (1 ≤ zs.length ∧ zs.length ≤ 80 ∧ (∀ z ∈ zs, 0 ≤ z ∧ z ≤ 64) ∧ zs.sum = 64)

theorem normB_bad {zs : List Int} {k : Nat} (hk : k < zs.length) (h : ¬ (0 ≤ zs.getD k 0 ∧ zs.getD k 0 ≤ 64)) : normB zs = false := by
  simp only [normB, decide_eq_false_iff_not]
  exact fun h' => h (h'.2.2.1 _ (getD_mem hk))
theorem normB_all {zs : List Int} (h1 : 1 ≤ zs.length) (h2 : zs.length ≤ 80) (h : ∀ z ∈ zs.take zs.length, 0 ≤ z ∧ z ≤ 64) : normB zs = decide (zs.sum = 64) := by
  rw [List.take_length] at h
  simp only [normB]
  apply decide_eq_decide.2
  exact ⟨fun h' => h'.2.2.2, fun h' => ⟨h1, h2, h, h'⟩⟩
theorem normB_len {zs : List Int} (h : ¬ (1 ≤ zs.length ∧ zs.length ≤ 80)) : normB zs = false := by
  simp only [normB, decide_eq_false_iff_not]
  exact fun h' => h ⟨h'.1, h'.2.1⟩
theorem normB_get {zs : List Int} (h : normB zs = true) (k : Nat) (hk : k < zs.length) : 0 ≤ zs.getD k 0 ∧ zs.getD k 0 ≤ 64 := by
  simp only [normB, decide_eq_true_eq] at h
  exact h.2.2.1 _ (getD_mem hk)
theorem normB_bnd {zs : List Int} (h : normB zs = true) : 1 ≤ zs.length ∧ zs.length ≤ 80 := by
  simp only [normB, decide_eq_true_eq] at h
  exact ⟨h.1, h.2.1⟩
end Go.Proofs.YtennmikgehidiaaGreatDoor
namespace Go.Proofs.YtennmikgehidiaaGreatDoor
open Go.RowKit
set_option linter.unusedVariables false

/-- Each symbol, as often as its share says. -/
def fl : Nat → List Int → List Int
  | _, [] => []
  | i, z :: zs => List.replicate z.toNat (i : Int) ++ fl (i + 1) zs
theorem sum_nn {zs : List Int} (h : ∀ z ∈ zs, 0 ≤ z) (j : Nat) : 0 ≤ (zs.take j).sum := by
  induction zs generalizing j with
  | nil => simp
  | cons z zs ih =>
    cases j with
    | zero => simp
    | succ j =>
      have h1 := h z (by simp)
      have h2 := ih (fun y hy => h y (by simp [hy])) j
      simp only [List.take_succ_cons, List.sum_cons]
      omega
theorem fl_at (zs : List Int) : ∀ (i j k : Nat), (∀ z ∈ zs, 0 ≤ z) → j < zs.length → (k : Int) < zs.getD j 0 → (fl i zs).getD ((zs.take j).sum.toNat + k) 0 = ((i + j : Nat) : Int) := by
  induction zs with
  | nil => intro i j k _ hj; simp at hj
  | cons z zs ih =>
    intro i j k h hj hk
    cases j with
    | zero =>
      simp only [List.getD_cons_zero] at hk
      simp only [fl, List.take_zero, List.sum_nil, Int.toNat_zero, Nat.zero_add, Nat.add_zero]
      rw [List.getD_eq_getElem?_getD, List.getElem?_append_left (by rw [List.length_replicate]; omega), List.getElem?_replicate, if_pos (by omega)]
      rfl
    | succ j =>
      have h1 := h z (by simp)
      have h2 := sum_nn (fun y hy => h y (by simp [hy])) j (zs := zs)
      have := ih (i + 1) j k (fun y hy => h y (by simp [hy])) (by simpa using hj) (by simpa using hk)
      simp only [fl, List.take_succ_cons, List.sum_cons]
      rw [List.getD_eq_getElem?_getD, List.getElem?_append_right (by rw [List.length_replicate]; omega), List.length_replicate, ← List.getD_eq_getElem?_getD, show (z + (zs.take j).sum).toNat + k - z.toNat = (zs.take j).sum.toNat + k from by omega, this]
      congr 1
      omega

/-- The table of symbols when places have come, in their order. -/
def pl (F : List Int) (ps : List Nat) : List Int := ps.zipIdx.foldl (fun r pj => r.set pj.1 (F.getD pj.2 0)) (List.replicate 64 0)
theorem pl_snoc (F : List Int) (ps : List Nat) (x : Nat) : pl F (ps ++ [x]) = (pl F ps).set x (F.getD ps.length 0) := by
  unfold pl
  rw [List.zipIdx_append, List.foldl_append]
  simp
theorem pl_len (F : List Int) (ps : List Nat) : (pl F ps).length = 64 := by
  unfold pl
  generalize ps.zipIdx = l
  have : ∀ (l : List (Nat × Nat)) (r : List Int), r.length = 64 → (l.foldl (fun r pj => r.set pj.1 (F.getD pj.2 0)) r).length = 64 := by
    intro l
    induction l with
    | nil => intro r h; simpa using h
    | cons p l ih => intro r h; simp only [List.foldl_cons]; exact ih _ (by rw [List.length_set]; exact h)
  exact this l _ (by simp)
def plc (m : Nat) : List Nat := (List.range m).map fun j => 43 * j % 64
theorem plc_succ (m : Nat) : plc (m + 1) = plc m ++ [43 * m % 64] := by simp [plc, List.range_succ]
theorem plc_len (m : Nat) : (plc m).length = m := by simp [plc]

theorem made_rowI {w : World} {B g n : Nat} (hown : w.ownsRow B 3 1 (.slice (some ⟨g, 0, none⟩) n n) n (madeCells (Value.int .i64 0).cells (n * 1)).toList) : OwI w B g n (List.replicate n 0) := by
  refine ⟨?_, by intro z hz; simp at hz; omega⟩
  rw [made_zeroI] at hown
  simpa using hown

end Go.Proofs.YtennmikgehidiaaGreatDoor
namespace Go.Proofs.YtennmikgehidiaaGreatDoor
open Go.RowKit
set_option linter.unusedVariables false

theorem fl_mem (zs : List Int) : ∀ i, ∀ z ∈ fl i zs, ∃ j, j < zs.length ∧ z = ((i + j : Nat) : Int) ∧ 0 < zs.getD j 0 := by
  induction zs with
  | nil => intro i z hz; simp [fl] at hz
  | cons y zs ih =>
    intro i z hz
    simp only [fl, List.mem_append, List.mem_replicate] at hz
    rcases hz with ⟨h, rfl⟩ | hz
    · exact ⟨0, by simp, by simp, by simp; omega⟩
    · obtain ⟨j, h1, h2, h3⟩ := ih (i + 1) z hz
      exact ⟨j + 1, by simpa using h1, by rw [h2]; congr 1; omega, by simpa using h3⟩
theorem fl_len (zs : List Int) : ∀ i, (∀ z ∈ zs, 0 ≤ z) → ((fl i zs).length : Int) = zs.sum := by
  induction zs with
  | nil => intro i _; simp [fl]
  | cons y zs ih =>
    intro i h
    have h1 := h y (by simp)
    have h2 := ih (i + 1) (fun z hz => h z (by simp [hz]))
    simp only [fl, List.length_append, List.length_replicate, List.sum_cons]
    omega
/-- What place p holds when all have come: the symbol that came at the step 3 p. -/
theorem pl_get (F : List Int) : ∀ m, m ≤ 64 → ∀ p, p < 64 → (pl F (plc m)).getD p 0 = if 3 * p % 64 < m then F.getD (3 * p % 64) 0 else 0 := by
  intro m
  induction m with
  | zero =>
    intro _ p hp
    rw [if_neg (by omega)]
    show (List.replicate 64 (0 : Int)).getD p 0 = 0
    rw [List.getD_eq_getElem?_getD, List.getElem?_replicate, if_pos hp]
    rfl
  | succ m ih =>
    intro hm p hp
    rw [plc_succ, pl_snoc, plc_len]
    by_cases he : 43 * m % 64 = p
    · have h3 : 3 * p % 64 = m := by omega
      rw [List.getD_eq_getElem?_getD, he, List.getElem?_set_self (by rw [pl_len]; exact hp), h3, if_pos (by omega)]
      rfl
    · have h3 : 3 * p % 64 ≠ m := by omega
      rw [List.getD_eq_getElem?_getD, List.getElem?_set_ne he, ← List.getD_eq_getElem?_getD, ih (by omega) p hp]
      by_cases hl : 3 * p % 64 < m
      · rw [if_pos hl, if_pos (by omega)]
      · rw [if_neg hl, if_neg (by omega)]
theorem sp_sym {zs : List Int} (hn : normB zs = true) (p : Nat) (hp : p < 64) : ∃ s : Nat, (pl (fl 0 zs) (plc 64)).getD p 0 = (s : Int) ∧ s < zs.length ∧ 0 < zs.getD s 0 ∧ zs.getD s 0 ≤ 64 := by
  have hnn : (∀ z ∈ zs, 0 ≤ z) ∧ zs.sum = 64 := by
    have h := hn
    simp only [normB, decide_eq_true_eq] at h
    exact ⟨fun z hz => (h.2.2.1 z hz).1, h.2.2.2⟩
  have hl := fl_len zs 0 hnn.1
  rw [hnn.2] at hl
  rw [pl_get _ 64 (Nat.le_refl _) p hp, if_pos (by omega), List.getD_eq_getElem?_getD, List.getElem?_eq_getElem (by omega)]
  obtain ⟨j, h1, h2, h3⟩ := fl_mem zs 0 _ (List.getElem_mem (show 3 * p % 64 < (fl 0 zs).length by omega))
  refine ⟨j, by simpa using h2, h1, h3, (normB_get hn j h1).2⟩

/-- What comes next of each symbol, when i places are told. -/
def nx (SP zs : List Int) : Nat → List Int
  | 0 => zs
  | i + 1 => (nx SP zs i).set (SP.getD i 0).toNat ((nx SP zs i).getD (SP.getD i 0).toNat 0 + 1)
theorem nx_len (SP zs : List Int) (i : Nat) : (nx SP zs i).length = zs.length := by
  induction i with
  | zero => rfl
  | succ i ih => rw [nx, List.length_set, ih]
theorem nx_bnd (SP zs : List Int) (i j : Nat) : zs.getD j 0 ≤ (nx SP zs i).getD j 0 ∧ (nx SP zs i).getD j 0 ≤ zs.getD j 0 + i := by
  induction i with
  | zero => simp [nx]
  | succ i ih =>
    rw [nx]
    by_cases hj : (SP.getD i 0).toNat = j
    · rw [hj]
      by_cases hl : j < (nx SP zs i).length
      · rw [List.getD_eq_getElem?_getD (l := (nx SP zs i).set _ _), List.getElem?_set_self hl]
        simp only [Option.getD_some]
        omega
      · rw [List.set_eq_of_length_le (by omega)]
        omega
    · rw [List.getD_eq_getElem?_getD (l := (nx SP zs i).set _ _), List.getElem?_set_ne hj, ← List.getD_eq_getElem?_getD]
      omega

/-- How many bits follow: the least number that brings x to 64. -/
def wd (x : Nat) : Nat := 6 - Nat.log2 x
theorem wd_rng {x : Nat} (h1 : 1 ≤ x) (h2 : x ≤ 127) : wd x ≤ 6 ∧ 64 ≤ x * 2 ^ wd x ∧ x * 2 ^ wd x < 128 := by
  unfold wd
  have hl := Nat.log2_self_le (n := x) (by omega)
  have hu := Nat.lt_log2_self (n := x)
  have h6 : Nat.log2 x < 7 := (Nat.log2_lt (by omega)).2 (by omega)
  have e : 2 ^ Nat.log2 x * 2 ^ (6 - Nat.log2 x) = 64 := by rw [← Nat.pow_add, show Nat.log2 x + (6 - Nat.log2 x) = 6 from by omega]
  have e2 : 2 ^ (Nat.log2 x + 1) * 2 ^ (6 - Nat.log2 x) = 128 := by rw [← Nat.pow_add, show Nat.log2 x + 1 + (6 - Nat.log2 x) = 7 from by omega]
  have hp : 0 < 2 ^ (6 - Nat.log2 x) := Nat.pow_pos (by omega)
  refine ⟨by omega, ?_, ?_⟩
  · rw [← e]; exact Nat.mul_le_mul_right _ hl
  · rw [← e2]; exact Nat.mul_lt_mul_of_pos_right hu hp
theorem wd_least {x b : Nat} (h1 : 1 ≤ x) (h2 : x ≤ 127) (hb : b < wd x) : x * 2 ^ b < 64 := by
  unfold wd at hb
  have hu := Nat.lt_log2_self (n := x)
  have e2 : 2 ^ (Nat.log2 x + 1) * 2 ^ b ≤ 64 := by
    rw [← Nat.pow_add]
    exact Nat.le_trans (Nat.pow_le_pow_right (by omega) (show Nat.log2 x + 1 + b ≤ 6 by omega)) (by decide)
  exact Nat.lt_of_lt_of_le (Nat.mul_lt_mul_of_pos_right hu (Nat.pow_pos (by omega))) e2

/-- The cells of the first i places, flat. -/
def tb (SP zs : List Int) : Nat → List Int
  | 0 => []
  | i + 1 => tb SP zs i ++ [SP.getD i 0, (wd ((nx SP zs i).getD (SP.getD i 0).toNat 0).toNat : Nat), (((nx SP zs i).getD (SP.getD i 0).toNat 0).toNat * 2 ^ wd ((nx SP zs i).getD (SP.getD i 0).toNat 0).toNat : Nat) - 64]
theorem tb_len (SP zs : List Int) (i : Nat) : (tb SP zs i).length = i * 3 := by
  induction i with
  | zero => rfl
  | succ i ih => rw [tb, List.length_append, ih]; simp; omega
theorem shl_in (X j : Nat) (hX : X ≤ 127) (hj : j ≤ 6) : wrap64 ((X : Int) * 2 ^ j) = ((X * 2 ^ j : Nat) : Int) := by
  have h1 : X * 2 ^ j ≤ 127 * 2 ^ 6 := Nat.mul_le_mul hX (Nat.pow_le_pow_right (by omega) hj)
  have e : ((X : Int) * 2 ^ j) = ((X * 2 ^ j : Nat) : Int) := by simp
  rw [e]
  exact IntWalk.wrap64_in _ (by omega)

theorem tb_rng {zs : List Int} (hn : normB zs = true) : ∀ k, k ≤ 64 → ∀ z ∈ tb (pl (fl 0 zs) (plc 64)) zs k, -64 ≤ z ∧ z ≤ 127 := by
  intro k
  induction k with
  | zero => intro _ z hz; simp [tb] at hz
  | succ k ih =>
    intro hk z hz
    obtain ⟨s, hs, hsl, hzp, hz64⟩ := sp_sym hn k (by omega)
    have hbd := normB_bnd hn
    have hbn := nx_bnd (pl (fl 0 zs) (plc 64)) zs k s
    rw [tb, hs, Int.toNat_natCast] at hz
    simp only [List.mem_append, List.mem_cons, List.not_mem_nil, or_false] at hz
    obtain ⟨X, hX⟩ := Int.eq_ofNat_of_zero_le (show 0 ≤ (nx (pl (fl 0 zs) (plc 64)) zs k).getD s 0 by omega)
    rw [hX, Int.toNat_natCast] at hz
    have hw := wd_rng (x := X) (by omega) (by omega)
    rcases hz with hz | rfl | rfl | rfl
    · exact ih (by omega) z hz
    · omega
    · omega
    · omega

end Go.Proofs.YtennmikgehidiaaGreatDoor
