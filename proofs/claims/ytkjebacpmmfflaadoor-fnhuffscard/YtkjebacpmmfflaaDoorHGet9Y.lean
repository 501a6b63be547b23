/-
  HuffGet of the program.
-/
import Derived.Test.YtkjebacpmmfflaaDoorILensC
import Derived.Test.YtkjebacpmmfflaaDoorHGet8
import Derived.Test.YtkjebacpmmfflaaDoorIBase
import Derived.Test.YtkjebacpmmfflaaDoorPut3
import Derived.Test.YtkjebacpmmfflaaDoorOpenL
namespace Go.Proofs.YtkjebacpmmfflaaDoor
open Go.RowKit
set_option linter.unusedVariables false

theorem lensB_okG {zs : List Int} (h : lensB zs = true) : 1 ≤ zs.length ∧ zs.length ≤ 80 ∧ ∀ z ∈ zs, 0 ≤ z ∧ z ≤ 12 := by
  simp only [lensB, decide_eq_true_eq] at h
  exact ⟨h.1, h.2.1, h.2.2.1⟩
theorem below_dHG {B : Nat} {a b : World} (h : Below B a b) (n : Nat) : Below B a (b.drewN n) := ⟨h.os, h.tape, h.output, h.size, h.block⟩

set_option maxRecDepth 20000 in
set_option maxHeartbeats 8000000 in
/-- text of the program: the reader of codes at H over the reader at R, from place p on. -/
theorem text_any (H R B B0 : Nat) (ao : Option Addr) (co : Nat) (ls : List Int) (x : Option Addr) (cx : Nat) (zs : List Int) (n V p N : Nat) (w0 w : World) (hx : Byt w0 x zs) (hB : w0.heap.size = B) (hbel : Below B w0 w) (hz : zs = enc n V) (hn : n ≤ 4096) (hp : p ≤ n) (hN : N ≤ 300) (hn2 : ls.length ≤ 80)
    (hHR : HR w H R (hm ls (sbL ls 12)) ao (sbL ls 12).length co) (hMO : MinI w B0 H ao co (sbL ls 12)) (hRD : RD w B R x zs.length cx n p) (hRH : R < H) (hRB0 : R < B0)
    (s0 : Sent w0 7) (s1 : Sent w0 8) (s2 : Sent w0 9) (hG : 7 < w0.heap.size ∧ 8 < w0.heap.size ∧ 9 < w0.heap.size) :
    Calls Tryd.prog 46 #[.pointer (some ⟨H, 0, none⟩), .int .i64 N] w fun e w' => Only (fun k => k = R) w w' ∧ Below B w0 w' ∧
      ((∃ q E g, q.length = N ∧ Reads ls (crun ls (sbL ls 12)).2.2 n V p q E ∧ OwI w' w.heap.size g N q ∧ RD w' B R x zs.length cx n E ∧ e = .returned (.tuple #[.slice (some ⟨g, 0, none⟩) N N, .nilIface])) ∨
       (∃ q E T y, q.length < N ∧ Reads ls (crun ls (sbL ls 12)).2.2 n V p q E ∧ NoHit ls (crun ls (sbL ls 12)).2.2 V E (min 12 (n - E)) ∧ e = .returned (.tuple #[.slice none 0 0, .iface T y]))) := by
  obtain ⟨i0, hi, hz0, hz1, hz2⟩ := info_parts Tryd.infoI64
  have HPK : Hid (Byt w0 x zs ∧ w0.heap.size = B ∧ zs = enc n V ∧ Sent w0 7 ∧ Sent w0 8 ∧ Sent w0 9 ∧ (7 < w0.heap.size ∧ 8 < w0.heap.size ∧ 9 < w0.heap.size)) := ⟨hx, hB, hz, s0, s1, s2, hG⟩
  have HW : Hid (HR w H R (hm ls (sbL ls 12)) ao (sbL ls 12).length co ∧ MinI w B0 H ao co (sbL ls 12) ∧ RD w B R x zs.length cx n p ∧ Below B w0 w) := ⟨hHR, hMO, hRD, hbel⟩
  have hRlt : R < w.heap.size := (Array.getElem?_eq_some_iff.1 hRD.1).1
  have hBR := hRD.2.1
  have hHw : H < w.heap.size := hHR.lt
  clear hx hB hz s0 s1 s2 hG hHR hMO hRD hbel
  go_enter Tryd.func46, Tryd.ntmps46
  go_wp2_with (at_make; refine wpList_make_full _ rfl _ _ 23 rfl w.heap.size 3 i0 (.int .i64 0) 1 Tryd.underlying23 hi hz0 hz1 .i64 .i64 _ _ N rfl rfl rfl rfl (by rw [hz2]; omega) (by unfold maxLen; omega) (Nat.le_refl _) ?_; intro w5 hown hgrow)
  have hbw : Below w.heap.size w w5 := (Below.refl _ _).grown hgrow (Nat.le_refl _) (by intro k hk; cases hk)
  have H0 : Hid (OwI w5 w.heap.size w.heap.size N ([] ++ List.replicate N 0)) := by
    rw [List.nil_append]
    refine ⟨?_, by intro z hz; simp at hz; omega⟩
    rw [made_zeroI] at hown
    simpa using hown
  have HO5 : Only (fun _ => False) w w5 := Only.ofBelow (S := fun _ => False) hbw (Nat.le_refl _)
  have HW5 : Hid (HR w5 H R (hm ls (sbL ls 12)) ao (sbL ls 12).length co ∧ MinI w5 B0 H ao co (sbL ls 12) ∧ RD w5 B R x zs.length cx n p ∧ Below B w0 w5 ∧ Only (fun k => k = R) w w5) :=
    ⟨HW.out.1.only HO5 (by simp), HW.out.2.1.only HO5 (by simp), HW.out.2.2.1.only HO5 (by simp), HW.out.2.2.2.trans (hbw.mono HW.out.2.2.1.2.2), Only.ofBelow hbw (Nat.le_refl _)⟩
  clear HW HO5 hbw hown hgrow hi hz0 hz1 hz2
  generalize hg4 : w.heap.size = g at *
  have HG4 : Hid (w.heap.size = g ∧ True) := ⟨hg4, trivial⟩
  clear hg4
  go_loopw [14] (fun i wr => ∃ (k : Nat) (q : List Int) (P : Nat), k ≤ N ∧ q.length = k ∧ i = .int .i64 k ∧ Reads ls (crun ls (sbL ls 12)).2.2 n V p q P ∧ OwI wr g g N (q ++ List.replicate (N - k) 0) ∧ HR wr H R (hm ls (sbL ls 12)) ao (sbL ls 12).length co ∧ MinI wr B0 H ao co (sbL ls 12) ∧ RD wr B R x zs.length cx n P ∧ Below B w0 wr ∧ Only (fun k => k = R) w wr) (fun i _ => N - (intOf i).toNat)
  case atStart => exact ⟨0, [], p, Nat.zero_le _, rfl, rfl, .nil, H0.out, HW5.out.1, HW5.out.2.1, HW5.out.2.2.1, HW5.out.2.2.2.1, HW5.out.2.2.2.2⟩
  case round =>
    clear H0 HW5
    obtain ⟨k, q, P, hk, hql, rfl, hrds, hown, hhr, hmo, hrd, hbel, honw⟩ := hrel
    have HS : Hid (q.length = k ∧ Reads ls (crun ls (sbL ls 12)).2.2 n V p q P ∧ OwI wr g g N (q ++ List.replicate (N - k) 0) ∧ HR wr H R (hm ls (sbL ls 12)) ao (sbL ls 12).length co ∧ MinI wr B0 H ao co (sbL ls 12) ∧ RD wr B R x zs.length cx n P ∧ Below B w0 wr ∧ Only (fun k => k = R) w wr ∧ P ≤ n) := ⟨hql, hrds, hown, hhr, hmo, hrd, hbel, honw, hrds.le hp⟩
    have hgl := hown.lt.2
    clear hql hrds hown hhr hmo hrd hbel honw
    by_cases hlt : k < N
    · have HSY := symbol_any H R B B0 ao co ls x cx zs n V P w0 wr HPK.out.1 HPK.out.2.1 HS.out.2.2.2.2.2.2.1 HPK.out.2.2.1 hn HS.out.2.2.2.2.2.2.2.2 hn2 HS.out.2.2.2.1 HS.out.2.2.2.2.1 HS.out.2.2.2.2.2.1 (by omega) (by omega) HPK.out.2.2.2.1 HPK.out.2.2.2.2.1 HPK.out.2.2.2.2.2.1 (by have h := HPK.out.2.2.2.2.2.2; rw [HPK.out.2.1] at h; exact h)
      go_wp2_with fail
      refine HSY.mono ?_
      clear HSY
      rintro e w6 ⟨hon, ⟨i, m, hone, rfl, hrd6⟩ | ⟨hno, T, y, u, rfl⟩⟩
      · have hll : (q ++ List.replicate (N - k) 0).length = N := by rw [List.length_append, List.length_replicate, HS.out.1]; omega
        have hib : i < 80 := by have := hone.2.2.2.1; omega
        have ho6 : OwI w6 g g N (q ++ List.replicate (N - k) 0) := HS.out.2.2.1.only hon (by omega)
        have hdst := ho6.cell k (by rw [hll]; exact hlt)
        have hfz := ho6.frozen k
        have hset : (q ++ List.replicate (N - k) (0 : Int)).set k ((i : Nat) : Int) = (q ++ [((i : Nat) : Int)]) ++ List.replicate (N - (k + 1)) 0 := by
          rw [List.set_append_right _ _ (by rw [HS.out.1]; exact Nat.le_refl _), HS.out.1, Nat.sub_self, show N - k = (N - (k + 1)) + 1 from by omega, List.replicate_succ, List.set_cons_zero, List.append_assoc]
          rfl
        have hR7 := ho6.store k ((i : Nat) : Int) (by omega)
        rw [hset] at hR7
        have hon7 : Only (fun b => b = g) w6 (w6.setCell ⟨g, k, none⟩ (.int .i64 (i : Nat))) := Only.setCell (Only.refl (fun b => b = g) w6) (p := ⟨g, k, none⟩) (.inl rfl) _
        have hBwr : B ≤ wr.heap.size := HS.out.2.2.2.2.2.1.2.2
        have hHg : H < wr.heap.size := HS.out.2.2.2.1.lt
        have HF : Hid ((q ++ [((i : Nat) : Int)]).length = k + 1 ∧ Reads ls (crun ls (sbL ls 12)).2.2 n V p (q ++ [(i : Int)]) (P + m) ∧ OwI (w6.setCell ⟨g, k, none⟩ (.int .i64 (i : Nat))) g g N ((q ++ [((i : Nat) : Int)]) ++ List.replicate (N - (k + 1)) 0) ∧ HR (w6.setCell ⟨g, k, none⟩ (.int .i64 (i : Nat))) H R (hm ls (sbL ls 12)) ao (sbL ls 12).length co ∧ MinI (w6.setCell ⟨g, k, none⟩ (.int .i64 (i : Nat))) B0 H ao co (sbL ls 12) ∧ RD (w6.setCell ⟨g, k, none⟩ (.int .i64 (i : Nat))) B R x zs.length cx n (P + m) ∧ Below B w0 (w6.setCell ⟨g, k, none⟩ (.int .i64 (i : Nat))) ∧ Only (fun k => k = R) w (w6.setCell ⟨g, k, none⟩ (.int .i64 (i : Nat)))) := by
          refine ⟨by rw [List.length_append, HS.out.1]; rfl, .snoc HS.out.2.1 hone, hR7, ?_, ?_, hrd6.only hon7 (by omega), ?_, ?_⟩
          · exact (HS.out.2.2.2.1.only hon (by omega)).only hon7 (by omega)
          · exact (HS.out.2.2.2.2.1.only hon (fun j h1 h2 => by omega)).only hon7 (fun j h1 h2 => by omega)
          · exact (HS.out.2.2.2.2.2.2.1.trans (hon.below hBwr (fun j hj => by omega))).setCell (p := ⟨g, k, none⟩) (by have := HG4.out.1; simp; omega) _
          · exact (HS.out.2.2.2.2.2.2.2.1.trans hon).setCell (.inr (by rw [HG4.out.1]; exact Nat.le_refl _)) _
        clear hR7 hon7 hset hll hon hone hrd6 ho6 HS
        generalize (q ++ List.replicate (N - k) 0).getD k 0 = old at *
        go_wp2
        go_roundw
        case rel => exact ⟨k + 1, q ++ [((i : Nat) : Int)], P + m, by omega, HF.out.1, by go_num, HF.out.2.1, HF.out.2.2.1, HF.out.2.2.2.1, HF.out.2.2.2.2.1, HF.out.2.2.2.2.2.1, HF.out.2.2.2.2.2.2.1, HF.out.2.2.2.2.2.2.2⟩
        case measure => simp [intOf]; omega
      · have HF : Hid (Only (fun k => k = R) w w6 ∧ Below B w0 w6 ∧ NoHit ls (crun ls (sbL ls 12)).2.2 V P (min 12 (n - P)) ∧ q.length < N ∧ Reads ls (crun ls (sbL ls 12)).2.2 n V p q P) := ⟨HS.out.2.2.2.2.2.2.2.1.trans hon, HS.out.2.2.2.2.2.2.1.trans (hon.below HS.out.2.2.2.2.2.1.2.2 (fun j hj => by omega)), hno, by rw [HS.out.1]; exact hlt, HS.out.2.1⟩
        clear hno hon HS
        go_wp2
        go_ret2
        exact ⟨HF.out.1, HF.out.2.1, .inr ⟨q, P, T, y, HF.out.2.2.2.1, HF.out.2.2.2.2, HF.out.2.2.1, rfl⟩⟩
    · have hkn : k = N := by omega
      subst hkn
      have HFI : Hid (OwI wr w.heap.size g k q ∧ True) := by
        have := HS.out.2.2.1
        rw [Nat.sub_self] at this
        simp only [List.replicate_zero, List.append_nil] at this
        exact ⟨this.mono (by rw [HG4.out.1]; exact Nat.le_refl _), trivial⟩
      go_wp2
      go_ret2
      exact ⟨HS.out.2.2.2.2.2.2.2.1, HS.out.2.2.2.2.2.2.1, .inl ⟨q, P, g, HS.out.1, HS.out.2.1, HFI.out.1, HS.out.2.2.2.2.2.1, rfl⟩⟩
set_option maxHeartbeats 400000 in
theorem bytesFor_any (n : Int) (w : World) (h0 : 0 ≤ n) (h1 : n ≤ 4103) :
    Calls Tryd.prog 64 #[.int .i64 n] w fun e w' => e = .returned (.int .i64 ((n + 7) / 8)) ∧ w' = w := by
  go_enter Tryd.func64, Tryd.ntmps64
  go_wp2
  go_ret
  exact ⟨rfl, rfl⟩

set_option maxHeartbeats 400000 in
theorem implOk_any (a : Option Addr) (cap : Nat) (zs : List Int) (N : Int) (w : World) (hb : Byt w a zs) (hn : zs.length ≤ 281474976710656) :
    Calls Tryd.prog 44 #[.agg #[.slice a zs.length cap, .int .i64 N]] w fun e w' => e = .returned (.bool (okB N zs)) ∧ Below w.heap.size w w' := by
  have hw : Below w.heap.size w (w.alloc (Obj.cells #[Value.slice a zs.length cap, Value.int IntKind.i64 N] 36)) := (Below.refl _ _).alloc (Nat.le_refl _) _
  by_cases h0 : N < 0
  · have hE : okB N zs = false := okB_neg h0
    have hd0 : decide (N < 0) = true := by simpa using h0
    rw [hE]
    clear hE
    go_enter Tryd.func44, Tryd.ntmps44
    go_wp2
    go_quiet ((go_at_call 64; exact Calls.quiet_of_same (bytesFor_any _ _ (by omega) (by omega))))
    go_wp2
    go_ret
    exact ⟨rfl, below_drewN hw _⟩
  · have hd0 : decide (N < 0) = false := by simpa using h0
    by_cases h1 : 4096 < N
    · have hE : okB N zs = false := okB_big h1
      have hd1 : decide (4096 < N) = true := by simpa using h1
      rw [hE]
      clear hE
      go_enter Tryd.func44, Tryd.ntmps44
      go_wp2
      go_quiet ((go_at_call 64; exact Calls.quiet_of_same (bytesFor_any _ _ (by omega) (by omega))))
      go_wp2
      go_ret
      exact ⟨rfl, below_drewN hw _⟩
    · have hd1 : decide (4096 < N) = false := by simpa using h1
      by_cases h2 : (zs.length : Int) = (N + 7) / 8
      · generalize hlz : zs.length = n at *
        have HL : Hid (zs.length = n) := hlz
        clear hlz
        have h2' : ((n : Int) != (N + 7) / 8) = false := by simpa using h2
        have H2 : Hid ((n : Int) = (N + 7) / 8) := h2
        clear h2
        by_cases h3 : N % 8 = 0
        · have hE : okB N zs = true := okB_full (by omega) (by omega) (by rw [HL.out]; exact H2.out) h3
          have h3' : (N % 8 == 0) = true := by simpa using h3
          rw [hE]
          clear hE h3
          go_enter Tryd.func44, Tryd.ntmps44
          go_wp2
          go_quiet ((go_at_call 64; exact Calls.quiet_of_same (bytesFor_any _ _ (by omega) (by omega))))
          go_wp2
          go_ret
          exact ⟨rfl, below_drewN hw _⟩
        · have hn1 : 1 ≤ n := by have := H2.out; omega
          have h3' : (N % 8 == 0) = false := by simpa using h3
          obtain ⟨b, off, rfl, hbl, hc⟩ := hb.len_pos (n - 1) (by rw [HL.out]; omega)
          have hlast := hc (n - 1) (by rw [HL.out]; omega)
          have hr := getD_rng hb.1 (n - 1)
          have hE : okB N zs = (zs.getD (n - 1) 0 / 2 ^ (N % 8).toNat == 0) := by
            rw [okB_last (by omega) (by omega) (by rw [HL.out]; exact H2.out) h3, HL.out]
          rw [hE]
          clear hE
          generalize zs.getD (n - 1) 0 = z at *
          go_enter Tryd.func44, Tryd.ntmps44
          go_wp2
          go_quiet ((go_at_call 64; exact Calls.quiet_of_same (bytesFor_any _ _ (by omega) (by omega))))
          go_wp2
          go_ret
          exact ⟨rfl, below_drewN hw _⟩
      · have hE : okB N zs = false := okB_len h2
        have h2' : ((zs.length : Int) != (N + 7) / 8) = true := by rw [bne_iff_ne]; exact h2
        rw [hE]
        clear hE h2
        go_enter Tryd.func44, Tryd.ntmps44
        go_wp2
        go_quiet ((go_at_call 64; exact Calls.quiet_of_same (bytesFor_any _ _ (by omega) (by omega))))
        go_wp2
        go_ret
        exact ⟨rfl, below_drewN hw _⟩

set_option maxRecDepth 20000 in
set_option maxHeartbeats 8000000 in
theorem implHuffGet_ok (a : Option Addr) (ca : Nat) (ls : List Int) (x : Option Addr) (cx : Nat) (zs : List Int) (n p N : Nat) (w : World) (ha : Ins w a ls) (hx : Byt w x zs) (hlb : lensB ls = true) (hO : okB (n : Int) zs = true) (hz : zs = enc n (val zs)) (hn : n ≤ 4096) (hp : p ≤ n) (hN : N ≤ 300) (h4 : Four w) (hE : ErrT w)
    (s0 : Sent w 7) (s1 : Sent w 8) (s2 : Sent w 9) (hG : 7 < w.heap.size ∧ 8 < w.heap.size ∧ 9 < w.heap.size) :
    Calls Tryd.prog 17 #[.slice a ls.length ca, .agg #[.slice x zs.length cx, .int .i64 n], .int .i64 p, .int .i64 N] w fun e w' => Below w.heap.size w w' ∧
      ((∃ q E g, q.length = N ∧ Reads ls (crun ls (sbL ls 12)).2.2 n (val zs) p q E ∧ OwI w' w.heap.size g N q ∧ e = .returned (.tuple #[.slice (some ⟨g, 0, none⟩) N N, .int .i64 (E : Nat), .bool true])) ∨
       (∃ q E, q.length < N ∧ Reads ls (crun ls (sbL ls 12)).2.2 n (val zs) p q E ∧ NoHit ls (crun ls (sbL ls 12)).2.2 (val zs) E (min 12 (n - E)) ∧ e = .returned (.tuple #[.slice none 0 0, .int .i64 (-1), .bool false]))) := by
  obtain ⟨i0, hi, hz0, hz1, hz2⟩ := info_parts Tryd.infoI64
  have hw : Below w.heap.size w (w.alloc (Obj.cells #[Value.slice x zs.length cx, Value.int IntKind.i64 n] 36)) := (Below.refl _ _).alloc (Nat.le_refl _) _
  obtain ⟨hn1, hn2, hok⟩ := lensB_okG hlb
  have hzl : zs.length ≤ 600 := by rw [hz, enc_len]; omega
  have HT := implLens_any a ca ls _ (ha.below hw (Nat.le_refl _)) (by omega) (h4.below hw) (hE.below hw)
  rw [hlb] at HT
  have HO : Hid (okB (n : Int) zs = true) := hO
  have HZ : Hid (zs = enc n (val zs)) := hz
  clear hlb hO hz hok
  generalize hV : val zs = V at *
  clear hV
  go_enter Tryd.func17, Tryd.ntmps17
  go_wp2_with fail
  refine HT.mono ?_
  clear HT
  rintro e w1 ⟨rfl, hb1⟩
  have hbb1 := hw.trans (hb1.mono (by simp))
  have q0 : w1.cell? ⟨w.heap.size, 0, none⟩ = some (.slice x zs.length cx) := keep hb1 (by simp) (by simp)
  have q1 : w1.cell? ⟨w.heap.size, 1, none⟩ = some (.int .i64 n) := keep hb1 (by simp) (by simp)
  have hz1' : w.heap.size < w1.heap.size := by have := hb1.size; simp at this; omega
  clear hb1 hw
  have HKO := implOk_any x cx zs (n : Int) w1 (hx.below hbb1 (Nat.le_refl _)) (by omega)
  rw [HO.out] at HKO
  go_wp2_with fail
  refine HKO.mono ?_
  clear HKO
  rintro e w2 ⟨rfl, hb2⟩
  have p0 := keep hb2 hz1' q0
  have p1 := keep hb2 hz1' q1
  have hbb2 := hbb1.trans (hb2.mono (Nat.le_of_lt hz1'))
  have hz2' : w.heap.size < w2.heap.size := Nat.lt_of_lt_of_le hz1' hb2.size
  clear hb2 q0 q1 hbb1 hz1'
  have HX2 : Hid (Byt w2 x zs) := hx.below hbb2 (Nat.le_refl _)
  have S0 := s0.below hbb2 (by omega)
  have S1 := s1.below hbb2 (by omega)
  have S2 := s2.below hbb2 (by omega)
  have hG2 : 7 < w2.heap.size ∧ 8 < w2.heap.size ∧ 9 < w2.heap.size := by omega
  have hRD : RD (w2.alloc (Obj.cells #[Value.slice x zs.length cx, Value.int IntKind.i64 n, Value.int IntKind.i64 p] 80)) w2.heap.size w2.heap.size x zs.length cx n p := ⟨heap_alloc_new w2 _, Nat.le_refl _, by simp⟩
  have hA3 : Below w2.heap.size w2 (w2.alloc (Obj.cells #[Value.slice x zs.length cx, Value.int IntKind.i64 n, Value.int IntKind.i64 p] 80)) := (Below.refl _ _).alloc (Nat.le_refl _) _
  have hs3 : (w2.alloc (Obj.cells #[Value.slice x zs.length cx, Value.int IntKind.i64 n, Value.int IntKind.i64 p] 80)).heap.size = w2.heap.size + 1 := by simp
  have HNR := newHuffReader_any a ca ls w2.heap.size (w2.alloc (Obj.cells #[Value.slice x zs.length cx, Value.int IntKind.i64 n, Value.int IntKind.i64 p] 80)) ((ha.below hbb2 (Nat.le_refl _)).below hA3 (Nat.le_refl _)) hn2
  go_wp2_with fail
  refine HNR.mono ?_
  clear HNR
  rintro e w4 ⟨H, ao, co, rfl, hhr, hmo, hHs, hb4⟩
  rw [hs3] at hmo hHs
  have hb4' : Below w2.heap.size w2 w4 := hA3.trans (hb4.mono hA3.size)
  have hrd4 : RD w4 w2.heap.size w2.heap.size x zs.length cx n p := hRD.only (Only.ofBelow (S := fun _ => False) hb4 (Nat.le_refl _)) (by simp)
  have HBW : Hid (Below w.heap.size w w2) := hbb2
  clear hb4 hA3 hRD hs3 p0 p1 s0 s1 s2 hx ha h4 hE hG hbb2
  have HHR : Hid (HR w4 H w2.heap.size (hm ls (sbL ls 12)) ao (sbL ls 12).length co) := hhr
  have HMO : Hid (MinI w4 (w2.heap.size + 1) H ao co (sbL ls 12)) := hmo
  have HRD4 : Hid (RD w4 w2.heap.size w2.heap.size x zs.length cx n p) := hrd4
  have hHlt := hhr.lt
  clear hhr hmo hrd4
  have HTX := text_any H w2.heap.size w2.heap.size (w2.heap.size + 1) ao co ls x cx zs n V p N w2 w4 HX2.out rfl hb4' HZ.out hn hp hN hn2 HHR.out HMO.out HRD4.out (by omega) (by omega) S0 S1 S2 hG2
  go_wp2_with fail
  refine HTX.mono ?_
  clear HTX
  rintro e w5 ⟨hon5, hbel5, ⟨q, E, g, hq, hrds, how, hrd5, rfl⟩ | ⟨q, E, T, y, hq, hrds, hno, rfl⟩⟩
  · have c2 := cellRR (j := 2) hrd5.1 rfl
    have HF : Hid (Below w.heap.size w w5 ∧ q.length = N ∧ Reads ls (crun ls (sbL ls 12)).2.2 n V p q E ∧ OwI w5 w.heap.size g N q) := ⟨HBW.out.trans (hbel5.mono (Nat.le_of_lt hz2')), hq, hrds, how.mono (by have := hb4'.size; omega)⟩
    clear hon5 hbel5 hrds how hrd5 HHR HMO HRD4 hq hb4'
    go_wp2
    go_quiet (fail)
    go_wp2
    refine bodyPost_ret (v := .tuple #[.slice (some ⟨g, 0, none⟩) N N, .int .i64 (E : Nat), .bool true]) (by simp [results, Tryd.results17, go_sem]) rfl ?_
    exact ⟨below_dHG HF.out.1 _, .inl ⟨q, E, g, HF.out.2.1, HF.out.2.2.1, HF.out.2.2.2.drewN _, rfl⟩⟩
  · have HF : Hid (Below w.heap.size w w5 ∧ q.length < N ∧ Reads ls (crun ls (sbL ls 12)).2.2 n V p q E ∧ NoHit ls (crun ls (sbL ls 12)).2.2 V E (min 12 (n - E))) := ⟨HBW.out.trans (hbel5.mono (Nat.le_of_lt hz2')), hq, hrds, hno⟩
    clear hon5 hbel5 hrds hno HHR HMO HRD4 hq hb4'
    go_wp2
    refine bodyPost_ret (v := .tuple #[.slice none 0 0, .int .i64 (-1), .bool false]) (by simp [results, Tryd.results17, go_sem]) rfl ?_
    exact ⟨HF.out.1, .inr ⟨q, E, HF.out.2.1, HF.out.2.2.1, HF.out.2.2.2, rfl⟩⟩
end Go.Proofs.YtkjebacpmmfflaaDoor
