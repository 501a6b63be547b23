/-
  HuffGet of the program.
-/
import Derived.Test.YtpmagpjiacpheaaDoorHGet5
import Derived.Test.YtpmagpjiacpheaaDoorHGet8
import Derived.Test.YtpmagpjiacpheaaDoorILens3
import Derived.Test.YtpmagpjiacpheaaDoorOkI
namespace Go.Proofs.YtpmagpjiacpheaaDoor
open Go.RowKit
set_option linter.unusedVariables false

theorem lensB_okG {zs : List Int} (h : lensB zs = true) : 1 ≤ zs.length ∧ zs.length ≤ 80 ∧ ∀ z ∈ zs, 0 ≤ z ∧ z ≤ 12 := by
  simp only [lensB, decide_eq_true_eq] at h
  exact ⟨h.1, h.2.1, h.2.2.1⟩
theorem below_dHG {B : Nat} {a b : World} (h : Below B a b) (n : Nat) : Below B a (b.drewN n) := ⟨h.os, h.tape, h.output, h.size, h.block⟩

set_option maxRecDepth 20000 in
set_option maxHeartbeats 4000000 in
theorem implHuffGet_no (a : Option Addr) (ca : Nat) (ls : List Int) (x : Option Addr) (cx : Nat) (zs : List Int) (N p s : Int) (w : World) (ha : Ins w a ls) (hx : Byt w x zs) (hl1 : ls.length ≤ 281474976710656) (hl : zs.length ≤ 281474976710656) (h4 : Four w) (hE : ErrT w) (h : ¬ hgArgs ls N p s zs) :
    Calls Tryd.prog 28 #[.slice a ls.length ca, .agg #[.slice x zs.length cx, .int .i64 N], .int .i64 p, .int .i64 s] w fun e w' =>
      e = .returned (.tuple #[.slice none 0 0, .int .i64 (-1), .bool false]) ∧ Below w.heap.size w w' := by
  have hw : Below w.heap.size w (w.alloc (Obj.cells #[Value.slice x zs.length cx, Value.int IntKind.i64 N] 33)) := (Below.refl _ _).alloc (Nat.le_refl _) _
  have HT := implLens_any a ca ls _ (ha.below hw (Nat.le_refl _)) hl1 (h4.below hw) (hE.below hw)
  cases hlb : lensB ls with
  | false =>
    rw [hlb] at HT
    clear hlb h
    go_enter Tryd.func28, Tryd.ntmps28
    go_wp2_with fail
    refine HT.mono ?_
    clear HT
    rintro e w1 ⟨rfl, hb1⟩
    have hbb := hw.trans (hb1.mono (by simp))
    clear hb1
    go_wp2
    exact bodyPost_ret (v := .tuple #[.slice none 0 0, .int .i64 (-1), .bool false]) (by simp [results, Tryd.results28, go_sem]) rfl ⟨rfl, hbb⟩
  | true =>
    have key : okB N zs = false ∨ (okB N zs = true ∧ p < 0) ∨ (okB N zs = true ∧ 0 ≤ p ∧ N < p) ∨ (okB N zs = true ∧ 0 ≤ p ∧ p ≤ N ∧ s < 0) ∨ (okB N zs = true ∧ 0 ≤ p ∧ p ≤ N ∧ 0 ≤ s ∧ 300 < s) := by
      cases hO : okB N zs with
      | false => exact .inl rfl
      | true =>
        right
        unfold hgArgs at h
        rw [hO, hlb] at h
        simp only [true_and] at h ⊢
        omega
    rw [hlb] at HT
    clear h hlb
    rcases key with hO | ⟨hO, g1⟩ | ⟨hO, g1, g2⟩ | ⟨hO, g1, g2, g3⟩ | ⟨hO, g1, g2, g3, g4⟩
    all_goals
      have HO : Hid _ := hO
      clear hO
      go_enter Tryd.func28, Tryd.ntmps28
      go_wp2_with fail
      refine HT.mono ?_
      clear HT
      rintro e w0 ⟨rfl, hb0⟩
      have hbb0 := hw.trans (hb0.mono (by simp))
      have q0 : w0.cell? ⟨w.heap.size, 0, none⟩ = some (.slice x zs.length cx) := keep hb0 (by simp) (by simp)
      have q1 : w0.cell? ⟨w.heap.size, 1, none⟩ = some (.int .i64 N) := keep hb0 (by simp) (by simp)
      have hz0 : w.heap.size < w0.heap.size := by have := hb0.size; simp at this; omega
      clear hb0
      go_wp2_with fail
      refine (implOk_any x cx zs _ _ (hx.below hbb0 (Nat.le_refl _)) hl).mono ?_
      rintro e w1 ⟨rfl, hb1⟩
      rw [HO.out]
      have q2 : w1.cell? ⟨w.heap.size, 1, none⟩ = some (.int .i64 N) := keep hb1 hz0 q1
      have hbb := hbb0.trans (hb1.mono (Nat.le_of_lt hz0))
      clear hb1 q0 q1
      go_wp2
      exact bodyPost_ret (v := .tuple #[.slice none 0 0, .int .i64 (-1), .bool false]) (by simp [results, Tryd.results28, go_sem]) rfl ⟨rfl, hbb⟩

set_option maxRecDepth 20000 in
set_option maxHeartbeats 8000000 in
theorem implHuffGet_ok (a : Option Addr) (ca : Nat) (ls : List Int) (x : Option Addr) (cx : Nat) (zs : List Int) (n p N : Nat) (w : World) (ha : Ins w a ls) (hx : Byt w x zs) (hlb : lensB ls = true) (hO : okB (n : Int) zs = true) (hz : zs = enc n (val zs)) (hn : n ≤ 4096) (hp : p ≤ n) (hN : N ≤ 300) (h4 : Four w) (hE : ErrT w)
    (s0 : Sent w 7) (s1 : Sent w 9) (s2 : Sent w 5) (hG : 7 < w.heap.size ∧ 9 < w.heap.size ∧ 5 < w.heap.size) :
    Calls Tryd.prog 28 #[.slice a ls.length ca, .agg #[.slice x zs.length cx, .int .i64 n], .int .i64 p, .int .i64 N] w fun e w' => Below w.heap.size w w' ∧
      ((∃ q E g, q.length = N ∧ Reads ls (crun ls (sbL ls 12)).2.2 n (val zs) p q E ∧ OwI w' w.heap.size g N q ∧ e = .returned (.tuple #[.slice (some ⟨g, 0, none⟩) N N, .int .i64 (E : Nat), .bool true])) ∨
       (∃ q E, q.length < N ∧ Reads ls (crun ls (sbL ls 12)).2.2 n (val zs) p q E ∧ NoHit ls (crun ls (sbL ls 12)).2.2 (val zs) E (min 12 (n - E)) ∧ e = .returned (.tuple #[.slice none 0 0, .int .i64 (-1), .bool false]))) := by
  obtain ⟨i0, hi, hz0, hz1, hz2⟩ := info_parts Tryd.infoI64
  have hw : Below w.heap.size w (w.alloc (Obj.cells #[Value.slice x zs.length cx, Value.int IntKind.i64 n] 33)) := (Below.refl _ _).alloc (Nat.le_refl _) _
  obtain ⟨hn1, hn2, hok⟩ := lensB_okG hlb
  have hzl : zs.length ≤ 600 := by rw [hz, enc_len]; omega
  have HT := implLens_any a ca ls _ (ha.below hw (Nat.le_refl _)) (by omega) (h4.below hw) (hE.below hw)
  rw [hlb] at HT
  have HO : Hid (okB (n : Int) zs = true) := hO
  have HZ : Hid (zs = enc n (val zs)) := hz
  clear hlb hO hz hok
  generalize hV : val zs = V at *
  clear hV
  go_enter Tryd.func28, Tryd.ntmps28
  go_wp2_with fail
  refine HT.mono ?_
  clear HT
  rintro e w1 ⟨rfl, hb1⟩
  have hbb1 := hw.trans (hb1.mono (by simp))
  have q0 : w1.cell? ⟨w.heap.size, 0, none⟩ = some (.slice x zs.length cx) := keep hb1 (by simp) (by simp)
  have q1 : w1.cell? ⟨w.heap.size, 1, none⟩ = some (.int .i64 n) := keep hb1 (by simp) (by simp)
  have hz1' : w.heap.size < w1.heap.size := by have := hb1.size; simp at this; omega
  clear hb1 hw
  have HKO := implOk_any x cx zs (n : Int) w1 (hx.below hbb1 (Nat.le_refl _)) (by omega)
  rw [HO.out] at HKO
  go_wp2_with fail
  refine HKO.mono ?_
  clear HKO
  rintro e w2 ⟨rfl, hb2⟩
  have p0 := keep hb2 hz1' q0
  have p1 := keep hb2 hz1' q1
  have hbb2 := hbb1.trans (hb2.mono (Nat.le_of_lt hz1'))
  have hz2' : w.heap.size < w2.heap.size := Nat.lt_of_lt_of_le hz1' hb2.size
  clear hb2 q0 q1 hbb1 hz1'
  have HX2 : Hid (Byt w2 x zs) := hx.below hbb2 (Nat.le_refl _)
  have S0 := s0.below hbb2 (by omega)
  have S1 := s1.below hbb2 (by omega)
  have S2 := s2.below hbb2 (by omega)
  have hG2 : 7 < w2.heap.size ∧ 9 < w2.heap.size ∧ 5 < w2.heap.size := by omega
  have hRD : RD (w2.alloc (Obj.cells #[Value.slice x zs.length cx, Value.int IntKind.i64 n, Value.int IntKind.i64 p] 70)) w2.heap.size w2.heap.size x zs.length cx n p := ⟨heap_alloc_new w2 _, Nat.le_refl _, by simp⟩
  have hA3 : Below w2.heap.size w2 (w2.alloc (Obj.cells #[Value.slice x zs.length cx, Value.int IntKind.i64 n, Value.int IntKind.i64 p] 70)) := (Below.refl _ _).alloc (Nat.le_refl _) _
  have hs3 : (w2.alloc (Obj.cells #[Value.slice x zs.length cx, Value.int IntKind.i64 n, Value.int IntKind.i64 p] 70)).heap.size = w2.heap.size + 1 := by simp
  have HNR := newHuffReader_any a ca ls w2.heap.size (w2.alloc (Obj.cells #[Value.slice x zs.length cx, Value.int IntKind.i64 n, Value.int IntKind.i64 p] 70)) ((ha.below hbb2 (Nat.le_refl _)).below hA3 (Nat.le_refl _)) hn2
  go_wp2_with fail
  refine HNR.mono ?_
  clear HNR
  rintro e w4 ⟨H, ao, co, rfl, hhr, hmo, hHs, hb4⟩
  rw [hs3] at hmo hHs
  have hb4' : Below w2.heap.size w2 w4 := hA3.trans (hb4.mono hA3.size)
  have hrd4 : RD w4 w2.heap.size w2.heap.size x zs.length cx n p := hRD.only (Only.ofBelow (S := fun _ => False) hb4 (Nat.le_refl _)) (by simp)
  have HBW : Hid (Below w.heap.size w w2) := hbb2
  clear hb4 hA3 hRD hs3 p0 p1 s0 s1 s2 hx ha h4 hE hG hbb2
  have HHR : Hid (HR w4 H w2.heap.size (hm ls (sbL ls 12)) ao (sbL ls 12).length co) := hhr
  have HMO : Hid (MinI w4 (w2.heap.size + 1) H ao co (sbL ls 12)) := hmo
  have HRD4 : Hid (RD w4 w2.heap.size w2.heap.size x zs.length cx n p) := hrd4
  have hHlt := hhr.lt
  clear hhr hmo hrd4
  go_wp2_with (at_make; refine wpList_make_full _ rfl _ _ 22 rfl w4.heap.size 3 i0 (.int .i64 0) 1 Tryd.underlying22 hi hz0 hz1 .i64 .i64 _ _ N rfl rfl rfl rfl (by rw [hz2]; omega) (by unfold maxLen; omega) (Nat.le_refl _) ?_; intro w5 hown hgrow)
  have hbw : Below w4.heap.size w4 w5 := (Below.refl _ _).grown hgrow (Nat.le_refl _) (by intro k hk; cases hk)
  have H0 : Hid (OwI w5 w4.heap.size w4.heap.size N ([] ++ List.replicate N 0)) := by
    rw [List.nil_append]
    refine ⟨?_, by intro z hz; simp at hz; omega⟩
    rw [made_zeroI] at hown
    simpa using hown
  have HO5 : Only (fun _ => False) w4 w5 := Only.ofBelow (S := fun _ => False) hbw (Nat.le_refl _)
  have HHR5 : Hid (HR w5 H w2.heap.size (hm ls (sbL ls 12)) ao (sbL ls 12).length co) := HHR.out.only HO5 (by simp)
  have HMO5 : Hid (MinI w5 (w2.heap.size + 1) H ao co (sbL ls 12)) := HMO.out.only HO5 (by simp)
  have HRD5 : Hid (RD w5 w2.heap.size w2.heap.size x zs.length cx n p) := HRD4.out.only HO5 (by simp)
  have hz4 : w2.heap.size ≤ w4.heap.size := hb4'.size
  have HB5 : Hid (Below w2.heap.size w2 w5) := hb4'.trans (hbw.mono hz4)
  clear HHR HMO HRD4 HO5 hbw hown hgrow hb4' hi hz0 hz1 hz2
  generalize hg4 : w4.heap.size = g at *
  clear hg4
  generalize hB2 : w2.heap.size = B at *
  have HB2 : Hid (w2.heap.size = B) := hB2
  clear hB2
  go_loopw [52] (fun i wr => ∃ (k : Nat) (q : List Int) (P : Nat), k ≤ N ∧ q.length = k ∧ i = .int .i64 k ∧ Reads ls (crun ls (sbL ls 12)).2.2 n V p q P ∧ OwI wr g g N (q ++ List.replicate (N - k) 0) ∧ HR wr H B (hm ls (sbL ls 12)) ao (sbL ls 12).length co ∧ MinI wr (B + 1) H ao co (sbL ls 12) ∧ RD wr B B x zs.length cx n P ∧ Below B w2 wr) (fun i _ => N - (intOf i).toNat)
  case atStart => exact ⟨0, [], p, Nat.zero_le _, rfl, rfl, .nil, H0.out, HHR5.out, HMO5.out, HRD5.out, HB5.out⟩
  case round =>
    clear H0 HHR5 HMO5 HRD5 HB5
    obtain ⟨k, q, P, hk, hql, rfl, hrds, hown, hhr, hmo, hrd, hbel⟩ := hrel
    have HQL : Hid (q.length = k) := hql
    have HRS : Hid (Reads ls (crun ls (sbL ls 12)).2.2 n V p q P) := hrds
    have HOW : Hid (OwI wr g g N (q ++ List.replicate (N - k) 0)) := hown
    have HHR : Hid (HR wr H B (hm ls (sbL ls 12)) ao (sbL ls 12).length co) := hhr
    have HMO : Hid (MinI wr (B + 1) H ao co (sbL ls 12)) := hmo
    have HRD : Hid (RD wr B B x zs.length cx n P) := hrd
    have HBL : Hid (Below B w2 wr) := hbel
    have HPn : Hid (P ≤ n) := hrds.le hp
    have hgl := hown.lt.2
    clear hql hrds hown hhr hmo hrd hbel
    have HBE : Hid (Below w.heap.size w wr) := HBW.out.trans (HBL.out.mono (Nat.le_of_lt hz2'))
    by_cases hlt : k < N
    · have HSY := symbol_any H B B (B + 1) ao co ls x cx zs n V P w2 wr HX2.out HB2.out HBL.out HZ.out hn HPn.out hn2 HHR.out HMO.out HRD.out (by omega) (by omega) S0 S1 S2 hG2
      go_wp2_with fail
      refine HSY.mono ?_
      clear HSY
      rintro e w6 ⟨hon, ⟨i, m, hone, rfl, hrd6⟩ | ⟨hno, T, y, u, rfl⟩⟩
      · have HR6 : Hid (RD w6 B B x zs.length cx n (P + m)) := hrd6
        have HH6 : Hid (HR w6 H B (hm ls (sbL ls 12)) ao (sbL ls 12).length co) := HHR.out.only hon (by omega)
        have HM6 : Hid (MinI w6 (B + 1) H ao co (sbL ls 12)) := HMO.out.only hon (fun j h1 h2 => by omega)
        have HO6 : Hid (OwI w6 g g N (q ++ List.replicate (N - k) 0)) := HOW.out.only hon (by omega)
        have hBwr : B ≤ wr.heap.size := by have h1 := HBL.out.size; have h2 := HB2.out; omega
        have HB6 : Hid (Below B w2 w6) := HBL.out.trans (hon.below hBwr (fun j hj => by omega))
        have HRS6 : Hid (Reads ls (crun ls (sbL ls 12)).2.2 n V p (q ++ [(i : Int)]) (P + m)) := .snoc HRS.out hone
        have hib : i < 80 := by have := hone.2.2.2.1; omega
        have hll : (q ++ List.replicate (N - k) 0).length = N := by rw [List.length_append, List.length_replicate, HQL.out]; omega
        have hdst := HO6.out.cell k (by rw [hll]; exact hlt)
        have hfz := HO6.out.frozen k
        have hir : -9223372036854775808 ≤ ((i : Nat) : Int) ∧ ((i : Nat) : Int) ≤ 9223372036854775807 := by omega
        have hset : (q ++ List.replicate (N - k) (0 : Int)).set k ((i : Nat) : Int) = (q ++ [((i : Nat) : Int)]) ++ List.replicate (N - (k + 1)) 0 := by
          rw [List.set_append_right _ _ (by rw [HQL.out]; exact Nat.le_refl _), HQL.out, Nat.sub_self, show N - k = (N - (k + 1)) + 1 from by omega, List.replicate_succ, List.set_cons_zero, List.append_assoc]
          rfl
        have hR7 := HO6.out.store k ((i : Nat) : Int) hir
        rw [hset] at hR7
        have HO7 : Hid (OwI (w6.setCell ⟨g, k, none⟩ (.int .i64 (i : Nat))) g g N ((q ++ [((i : Nat) : Int)]) ++ List.replicate (N - (k + 1)) 0)) := hR7
        have hon7 : Only (fun b => b = g) w6 (w6.setCell ⟨g, k, none⟩ (.int .i64 (i : Nat))) := Only.setCell (Only.refl (fun b => b = g) w6) (p := ⟨g, k, none⟩) (.inl rfl) _
        have HR7 : Hid (RD (w6.setCell ⟨g, k, none⟩ (.int .i64 (i : Nat))) B B x zs.length cx n (P + m)) := HR6.out.only hon7 (by omega)
        have HH7 : Hid (HR (w6.setCell ⟨g, k, none⟩ (.int .i64 (i : Nat))) H B (hm ls (sbL ls 12)) ao (sbL ls 12).length co) := HH6.out.only hon7 (by omega)
        have HM7 : Hid (MinI (w6.setCell ⟨g, k, none⟩ (.int .i64 (i : Nat))) (B + 1) H ao co (sbL ls 12)) := HM6.out.only hon7 (fun j h1 h2 => by omega)
        have HB7 : Hid (Below B w2 (w6.setCell ⟨g, k, none⟩ (.int .i64 (i : Nat)))) := HB6.out.setCell (p := ⟨g, k, none⟩) hz4 _
        have HL7 : Hid ((q ++ [((i : Nat) : Int)]).length = k + 1) := by unfold Hid; rw [List.length_append, HQL.out]; rfl
        clear hR7 hon7 hset hll hon hone hrd6 HR6 HH6 HM6 HO6 HB6 HOW HHR HMO HRD HBL HBE
        generalize (q ++ List.replicate (N - k) 0).getD k 0 = old at *
        go_wp2
        go_roundw
        case rel => exact ⟨k + 1, q ++ [((i : Nat) : Int)], P + m, by omega, HL7.out, by go_num, HRS6.out, HO7.out, HH7.out, HM7.out, HR7.out, HB7.out⟩
        case measure => simp [intOf]; omega
      · have HB6 : Hid (Below w.heap.size w w6) := HBE.out.trans (hon.below HBE.out.size (fun j hj => by omega))
        have HNO : Hid (NoHit ls (crun ls (sbL ls 12)).2.2 V P (min 12 (n - P))) := hno
        clear hno hon HOW HHR HMO HRD HBL
        go_wp2
        refine bodyPost_ret (v := .tuple #[.slice none 0 0, .int .i64 (-1), .bool false]) (by simp [results, Tryd.results28, go_sem]) rfl ?_
        exact ⟨HB6.out, .inr ⟨q, P, by rw [HQL.out]; exact hlt, HRS.out, HNO.out, rfl⟩⟩
    · have hkn : k = N := by omega
      subst hkn
      have HFI : Hid (OwI wr w.heap.size g k q) := by
        have := HOW.out
        rw [Nat.sub_self] at this
        simp only [List.replicate_zero, List.append_nil] at this
        exact this.mono (by omega)
      have c0 := HHR.out.c0
      have c2 := cellRR (j := 2) HRD.out.1 rfl
      clear HOW HHR HMO HRD
      go_wp2
      go_quiet (fail)
      go_wp2
      refine bodyPost_ret (v := .tuple #[.slice (some ⟨g, 0, none⟩) k k, .int .i64 (P : Nat), .bool true]) (by simp [results, Tryd.results28, go_sem]) rfl ?_
      exact ⟨below_dHG HBE.out _, .inl ⟨q, P, g, HQL.out, HRS.out, HFI.out.drewN _, rfl⟩⟩
end Go.Proofs.YtpmagpjiacpheaaDoor
