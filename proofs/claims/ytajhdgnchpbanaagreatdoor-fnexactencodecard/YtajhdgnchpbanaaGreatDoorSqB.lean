/-
  The program's SeqBytes and SeqsOk.
-/
import Derived.Test.YtajhdgnchpbanaaGreatDoorEnF
namespace Go.Proofs.YtajhdgnchpbanaaGreatDoor
open Go.RowKit
set_option linter.unusedVariables false

set_option maxHeartbeats 1600000 in
theorem isPiece_any (a : Option Addr) (c : Nat) (zs : List Int) (n d : Int) (m : Nat) (w : World) (hm : m ≤ 64) (rn : rI n) (rd : rI d) :
    Calls Tryz.prog 72 #[.agg #[.slice a zs.length c, .int .i64 n, .int .i64 d], .int .i64 m] w fun e w' => e = .returned (.bool (decide (3 ≤ n ∧ n ≤ 64 - (m : Int) ∧ 1 ≤ d ∧ d ≤ (m : Int)))) ∧ Below w.heap.size w w' := by
  have hw : Below w.heap.size w (w.alloc (Obj.cells #[Value.slice a zs.length c, Value.int IntKind.i64 n, Value.int IntKind.i64 d] 66)) := (Below.refl _ _).alloc (Nat.le_refl _) _
  obtain ⟨rn1, rn2⟩ := rn
  obtain ⟨rd1, rd2⟩ := rd
  by_cases q : 3 ≤ n ∧ n ≤ 64 - (m : Int) ∧ 1 ≤ d ∧ d ≤ (m : Int)
  · have HE : Hid (decide (3 ≤ n ∧ n ≤ 64 - (m : Int) ∧ 1 ≤ d ∧ d ≤ (m : Int)) = true) := by simpa [Hid] using q
    generalize decide (3 ≤ n ∧ n ≤ 64 - (m : Int) ∧ 1 ≤ d ∧ d ≤ (m : Int)) = E at *
    obtain ⟨q1, q2, q3, q4⟩ := q
    go_enter Tryz.func72, Tryz.ntmps72
    go_wp2
    go_ret
    exact ⟨by rw [HE.out]; first | rfl | (simp; omega), hw⟩
  · have HE : Hid (decide (3 ≤ n ∧ n ≤ 64 - (m : Int) ∧ 1 ≤ d ∧ d ≤ (m : Int)) = false) := by simpa only [Hid, decide_eq_false_iff_not] using q
    have key : n < 3 ∨ (3 ≤ n ∧ 64 - (m : Int) < n) ∨ (3 ≤ n ∧ n ≤ 64 - (m : Int) ∧ d < 1) ∨ (3 ≤ n ∧ n ≤ 64 - (m : Int) ∧ 1 ≤ d ∧ (m : Int) < d) := by omega
    generalize decide (3 ≤ n ∧ n ≤ 64 - (m : Int) ∧ 1 ≤ d ∧ d ≤ (m : Int)) = E at *
    clear q
    rcases key with q1 | ⟨q1, q2⟩ | ⟨q1, q2, q3⟩ | ⟨q1, q2, q3, q4⟩
    all_goals
      go_enter Tryz.func72, Tryz.ntmps72
      go_wp2
      go_ret
      exact ⟨by rw [HE.out]; first | rfl | (simp; omega), hw⟩

set_option maxHeartbeats 1600000 in
theorem isRest_any (a : Option Addr) (c : Nat) (zs : List Int) (n d : Int) (w : World) (hl : zs.length ≤ 281474976710656) :
    Calls Tryz.prog 73 #[.agg #[.slice a zs.length c, .int .i64 n, .int .i64 d]] w fun e w' => e = .returned (.bool (decide (n = 0 ∧ d = 0 ∧ 0 < zs.length))) ∧ Below w.heap.size w w' := by
  have hw : Below w.heap.size w (w.alloc (Obj.cells #[Value.slice a zs.length c, Value.int IntKind.i64 n, Value.int IntKind.i64 d] 66)) := (Below.refl _ _).alloc (Nat.le_refl _) _
  by_cases q1 : n = 0
  · by_cases q2 : d = 0
    · by_cases q3 : 0 < zs.length
      · have HE : Hid (decide (n = 0 ∧ d = 0 ∧ 0 < zs.length) = true) := by unfold Hid; rw [decide_eq_true_eq]; exact ⟨q1, q2, q3⟩
        generalize decide (n = 0 ∧ d = 0 ∧ 0 < zs.length) = E at *
        subst q1 q2
        have q3' : (0 : Int) < zs.length := by omega
        go_enter Tryz.func73, Tryz.ntmps73
        go_wp2
        go_ret
        exact ⟨by rw [HE.out]; first | rfl | (simp; omega), hw⟩
      · have HE : Hid (decide (n = 0 ∧ d = 0 ∧ 0 < zs.length) = false) := by unfold Hid; rw [decide_eq_false_iff_not]; exact fun h => q3 h.2.2
        generalize decide (n = 0 ∧ d = 0 ∧ 0 < zs.length) = E at *
        subst q1 q2
        obtain rfl : zs = [] := List.eq_nil_of_length_eq_zero (by omega)
        clear q3
        go_enter Tryz.func73, Tryz.ntmps73
        go_wp2
        go_ret
        exact ⟨by rw [HE.out]; first | rfl | (simp; omega), hw⟩
    · have HE : Hid (decide (n = 0 ∧ d = 0 ∧ 0 < zs.length) = false) := by unfold Hid; rw [decide_eq_false_iff_not]; exact fun h => q2 h.2.1
      have q2' : (d == 0) = false := by rw [beq_eq_false_iff_ne]; exact q2
      generalize decide (n = 0 ∧ d = 0 ∧ 0 < zs.length) = E at *
      subst q1
      clear q2
      go_enter Tryz.func73, Tryz.ntmps73
      go_wp2
      go_ret
      exact ⟨by rw [HE.out]; first | rfl | (simp; omega), hw⟩
  · have HE : Hid (decide (n = 0 ∧ d = 0 ∧ 0 < zs.length) = false) := by unfold Hid; rw [decide_eq_false_iff_not]; exact fun h => q1 h.1
    have q1' : (n == 0) = false := by rw [beq_eq_false_iff_ne]; exact q1
    generalize decide (n = 0 ∧ d = 0 ∧ 0 < zs.length) = E at *
    clear q1
    go_enter Tryz.func73, Tryz.ntmps73
    go_wp2
    go_ret
    exact ⟨by rw [HE.out]; first | rfl | (simp; omega), hw⟩

/-- What SeqBytes answers. -/
def sqz (ss : List Sq) : Int := match sqn ss with
  | some m => m
  | none => -1
theorem sqz_none {ss : List Sq} (h : sqn ss = none) : sqz ss = -1 := by simp [sqz, h]
theorem sqz_some {ss : List Sq} {m : Nat} (h : sqn ss = some m) : sqz ss = m := by simp [sqz, h]

theorem stp_yes1 {last : Bool} {m : Nat} {s : Sq} (h : ¬ 64 < m + s.ls.length) (q : 3 ≤ s.n ∧ s.n ≤ 64 - ((m + s.ls.length : Nat) : Int) ∧ 1 ≤ s.d ∧ s.d ≤ ((m + s.ls.length : Nat) : Int)) : stp last m s = some (m + s.ls.length + s.n.toNat) := by
  rw [stp_piece h (by omega), if_pos q]
theorem stp_yes2 {last : Bool} {m : Nat} {s : Sq} (h : ¬ 64 < m + s.ls.length) (hl : last = true) (q : s.n = 0 ∧ s.d = 0 ∧ 0 < s.ls.length) : stp last m s = some (m + s.ls.length + s.n.toNat) := by
  rw [stp_rest h q.1, if_pos ⟨q.2.1, hl, q.2.2⟩, q.1]
  simp
theorem stp_no {last : Bool} {m : Nat} {s : Sq} (h : ¬ 64 < m + s.ls.length) (q1 : ¬ (3 ≤ s.n ∧ s.n ≤ 64 - ((m + s.ls.length : Nat) : Int) ∧ 1 ≤ s.d ∧ s.d ≤ ((m + s.ls.length : Nat) : Int))) (q2 : ¬ (last = true ∧ s.n = 0 ∧ s.d = 0 ∧ 0 < s.ls.length)) : stp last m s = none := by
  by_cases h0 : s.n = 0
  · rw [stp_rest h h0, if_neg (fun hh => q2 ⟨hh.2.1, h0, hh.1, hh.2.2⟩)]
  · rw [stp_piece h h0, if_neg q1]

set_option maxRecDepth 20000 in
set_option maxHeartbeats 8000000 in
theorem implSeqBytes_any (a : Option Addr) (cap : Nat) (ss : List Sq) (w : World) (hb : Sqs w a ss) (hx : ss.length ≤ 281474976710656) (hxl : ∀ s ∈ ss, s.ls.length ≤ 281474976710656) :
    Calls Tryz.prog 56 #[.slice a ss.length cap] w fun e w' => e = .returned (.int .i64 (sqz ss)) ∧ Below w.heap.size w w' := by
  by_cases h40 : ss.length ≤ 40
  · have HSS : Hid (Sqs w a ss) := hb
    have HXL : Hid (∀ s ∈ ss, s.ls.length ≤ 281474976710656) := hxl
    have HST : Hid _ := fun k m => @sqc_step ss k m
    have HNO : Hid _ := fun k m => @sqn_none ss k m
    have HYE : Hid _ := fun m => @sqn_some ss m
    have HZN : Hid _ := @sqz_none ss
    have HZS : Hid _ := @sqz_some ss
    clear hb hxl
    generalize hlen : ss.length = n at *
    have HL : Hid (ss.length = n) := hlen
    clear hlen
    generalize sqz ss = Z at *
    go_enter Tryz.func56, Tryz.ntmps56
    go_wp2
    go_loopw [3, 12] (fun x i wr => ∃ k m : Nat, k ≤ n ∧ m ≤ 64 ∧ i = .int .i64 k ∧ x = .int .i64 m ∧ sqc ss k = some m ∧ Below w.heap.size w wr) (fun _ i _ => n - (intOf i).toNat)
    case atStart => exact ⟨0, 0, Nat.zero_le _, by omega, rfl, rfl, rfl, Below.refl _ _⟩
    case round =>
      obtain ⟨k, m, hk, hm, rfl, rfl, hsq, hbel⟩ := hrel
      have HSQ : Hid (sqc ss k = some m) := hsq
      clear hsq
      by_cases hlt : k < n
      · obtain ⟨b, off, rfl, hb1, hc1⟩ := (HSS.out.below hbel (Nat.le_refl _)).len_pos k (by rw [HL.out]; exact hlt)
        have hli := hc1 k (by rw [HL.out]; exact hlt)
        have hrg := HSS.out.rng k (by rw [HL.out]; exact hlt)
        have hll := HXL.out _ (getD_memS (k := k) (by rw [HL.out]; exact hlt))
        have HS := HST.out k m HSQ.out
        have HN := HNO.out k m HSQ.out hlt
        clear hc1
        generalize ss.getD k dq = s at *
        obtain ⟨sa, sc, sl, sn, sd⟩ := s
        obtain ⟨c0, c1, c2, hby⟩ := hli
        simp only at c0 c1 c2 hrg hll
        have HRG : Hid (rI sn ∧ rI sd) := ⟨hrg.1, hrg.2.1⟩
        obtain ⟨⟨rn1, rn2⟩, ⟨rd1, rd2⟩, -⟩ := hrg
        have HB2 : Hid (Below w.heap.size w (wr.alloc (Obj.cells #[Value.slice sa sl.length sc, Value.int IntKind.i64 sn, Value.int IntKind.i64 sd] 66))) := hbel.alloc hbel.size _
        have HW : Hid (wr.heap.size < (wr.alloc (Obj.cells #[Value.slice sa sl.length sc, Value.int IntKind.i64 sn, Value.int IntKind.i64 sd] 66)).heap.size) := by simp [Hid]
        clear hby
        by_cases g1 : 64 < m + sl.length
        · have HF : Hid (Z = -1) := HZN.out (HN (stp_over g1))
          have g1' : 64 - (m : Int) < sl.length := by omega
          clear HS HN
          go_wp2
          go_ret
          exact ⟨by rw [HF.out]; rfl, HB2.out⟩
        · have g1' : ¬ 64 - (m : Int) < sl.length := by omega
          have HN1 := fun q1 q2 => HN (stp_no (s := ⟨sa, sc, sl, sn, sd⟩) g1 q1 q2)
          have HY1 := fun q => HS.trans (stp_yes1 (s := ⟨sa, sc, sl, sn, sd⟩) g1 q)
          have HY2 := fun hl q => HS.trans (stp_yes2 (s := ⟨sa, sc, sl, sn, sd⟩) g1 hl q)
          simp only at HN1 HY1 HY2
          have r0 : (wr.alloc (Obj.cells #[Value.slice sa sl.length sc, Value.int IntKind.i64 sn, Value.int IntKind.i64 sd] 66)).cell? ⟨wr.heap.size, 0, none⟩ = some (.slice sa sl.length sc) := by simp
          have r1 : (wr.alloc (Obj.cells #[Value.slice sa sl.length sc, Value.int IntKind.i64 sn, Value.int IntKind.i64 sd] 66)).cell? ⟨wr.heap.size, 1, none⟩ = some (.int .i64 sn) := by simp
          have r2 : (wr.alloc (Obj.cells #[Value.slice sa sl.length sc, Value.int IntKind.i64 sn, Value.int IntKind.i64 sd] 66)).cell? ⟨wr.heap.size, 2, none⟩ = some (.int .i64 sd) := by simp
          have HPC := isPiece_any sa sc sl sn sd (m + sl.length) (wr.alloc (Obj.cells #[Value.slice sa sl.length sc, Value.int IntKind.i64 sn, Value.int IntKind.i64 sd] 66)) (by omega) HRG.out.1 HRG.out.2
          have hcast : ((m + sl.length : Nat) : Int) = (m : Int) + sl.length := by omega
          rw [hcast] at HPC HN1 HY1
          clear HS HN hcast
          go_wp2_with fail
          generalize wr.alloc (Obj.cells #[Value.slice sa sl.length sc, Value.int IntKind.i64 sn, Value.int IntKind.i64 sd] 66) = W at *
          refine HPC.mono ?_
          clear HPC
          rintro e w1 ⟨rfl, hb2⟩
          have q0 := keep hb2 HW.out r0
          have q1 := keep hb2 HW.out r1
          have q2 := keep hb2 HW.out r2
          have HB3 : Hid (Below w.heap.size w w1) := HB2.out.trans (hb2.mono HB2.out.size)
          clear hb2 r0 r1 r2 c0 c1 c2
          by_cases q : 3 ≤ sn ∧ sn ≤ 64 - ((m : Int) + sl.length) ∧ 1 ≤ sd ∧ sd ≤ (m : Int) + sl.length
          · rw [decide_eq_true q]
            have HS2 : Hid (sqc ss (k + 1) = some (m + sl.length + sn.toNat)) := HY1 q
            obtain ⟨u1, u2, u3, u4⟩ := q
            clear HN1 HY1 HY2
            go_wp2
            go_roundw
            case rel => exact ⟨k + 1, m + sl.length + sn.toNat, by omega, by omega, by go_num, by go_num, HS2.out, HB3.out⟩
            case measure => simp [intOf]; omega
          · rw [decide_eq_false q]
            have HNQ : Hid (¬ (3 ≤ sn ∧ sn ≤ 64 - ((m : Int) + sl.length) ∧ 1 ≤ sd ∧ sd ≤ (m : Int) + sl.length)) := q
            clear HY1 q
            by_cases hla : k + 1 = n
            · have hla' : ((k : Int) == (n : Int) - 1) = true := by rw [beq_iff_eq]; omega
              have HRS := isRest_any sa sc sl sn sd w1 hll
              go_wp2_with fail
              refine HRS.mono ?_
              clear HRS
              rintro e w2 ⟨rfl, hb4⟩
              have hz1 : wr.heap.size < w1.heap.size := World.block_lt_of_cell? _ _ q0
              have v1 := keep hb4 hz1 q1
              have HB4 : Hid (Below w.heap.size w w2) := HB3.out.trans (hb4.mono HB3.out.size)
              clear hb4 q0 q1 q2
              by_cases qr : sn = 0 ∧ sd = 0 ∧ 0 < sl.length
              · rw [decide_eq_true qr]
                have HS2 : Hid (sqc ss (k + 1) = some (m + sl.length + sn.toNat)) := HY2 (by simpa using hla) qr
                obtain ⟨rfl, rfl, u3⟩ := qr
                clear HN1 HY2
                go_wp2
                go_roundw
                case rel => exact ⟨k + 1, m + sl.length + (0 : Int).toNat, by omega, by simp; omega, by go_num, by go_num, HS2.out, HB4.out⟩
                case measure => simp [intOf]; omega
              · rw [decide_eq_false qr]
                have HF : Hid (Z = -1) := HZN.out (HN1 HNQ.out (fun h => qr h.2))
                clear HN1 HY2 qr
                go_wp2
                go_ret
                exact ⟨by rw [HF.out]; rfl, HB4.out⟩
            · have hla' : ((k : Int) == (n : Int) - 1) = false := by rw [beq_eq_false_iff_ne]; omega
              have HF : Hid (Z = -1) := HZN.out (HN1 HNQ.out (fun h => hla (by simpa using h.1)))
              clear HN1 HY2
              go_wp2
              go_ret
              exact ⟨by rw [HF.out]; rfl, HB3.out⟩
      · have hkn : k = n := by omega
        subst hkn
        have HF : Hid (Z = (m : Int)) := HZS.out (HYE.out m HSQ.out h40)
        go_wp2
        go_ret
        exact ⟨by rw [HF.out]; rfl, hbel⟩
  · have HF : Hid (sqz ss = -1) := sqz_none (sqn_len (by omega))
    go_enter Tryz.func56, Tryz.ntmps56
    go_wp2
    go_ret
    exact ⟨by rw [HF.out]; rfl, Below.refl _ _⟩

set_option maxHeartbeats 800000 in
theorem implSeqsOk_any (a : Option Addr) (cap : Nat) (ss : List Sq) (w : World) (hb : Sqs w a ss) (hx : ss.length ≤ 281474976710656) (hxl : ∀ s ∈ ss, s.ls.length ≤ 281474976710656) :
    Calls Tryz.prog 38 #[.slice a ss.length cap] w fun e w' => e = .returned (.bool (sqn ss).isSome) ∧ Below w.heap.size w w' := by
  have HSB := implSeqBytes_any a cap ss w hb hx hxl
  cases hs : sqn ss with
  | none =>
    rw [sqz_none hs] at HSB
    go_enter Tryz.func38, Tryz.ntmps38
    go_wp2_with fail
    refine HSB.mono ?_
    rintro e w1 ⟨rfl, hb1⟩
    clear HSB
    go_wp2
    go_ret
    exact ⟨rfl, hb1⟩
  | some m =>
    rw [sqz_some hs] at HSB
    go_enter Tryz.func38, Tryz.ntmps38
    go_wp2_with fail
    refine HSB.mono ?_
    rintro e w1 ⟨rfl, hb1⟩
    clear HSB
    go_wp2
    go_ret
    exact ⟨rfl, hb1⟩
end Go.Proofs.YtajhdgnchpbanaaGreatDoor
