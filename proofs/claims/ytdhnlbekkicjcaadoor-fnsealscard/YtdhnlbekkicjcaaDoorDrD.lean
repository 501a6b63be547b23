/-
  What DrawBitsPut draws; the law's own small look at bits.
-/
import Derived.Test.YtdhnlbekkicjcaaDoorDrC
import Derived.Test.YtdhnlbekkicjcaaDoorPut5
import Derived.Test.YtdhnlbekkicjcaaDoorGet2
namespace Go.Proofs.YtdhnlbekkicjcaaDoor
open Go.RowKit
set_option linter.unusedVariables false

set_option maxRecDepth 20000 in
set_option maxHeartbeats 4000000 in
theorem drawBitsPut_any (a : Option Addr) (bs : List Int) (cap : Nat) (w : World) (hb : Byt w a bs) (hl : bs.length ≤ maxLen) :
    Calls Tryd.prog 10 #[.slice a bs.length cap] w fun e w' => ∃ (a' : Option Addr) (c' : Nat) (ys : List Int) (N n d : Int), e = .returned (.tuple #[.agg #[.slice a' ys.length c', .int .i64 N], .int .i64 n, .int .i64 d]) ∧ ys.length ≤ 600 ∧ -1 ≤ N ∧ N ≤ 4097 ∧ -1 ≤ n ∧ n ≤ 1073741823 ∧ -1 ≤ d ∧ d ≤ 31 ∧ Mine w' w.heap.size w'.heap.size a' c' ys ∧ Below w.heap.size w w' := by
  have hw : Below w.heap.size w (w.alloc (Obj.cells #[Value.slice none 0 0, Value.int IntKind.i64 0] 24)) := (Below.refl _ _).alloc (Nat.le_refl _) _
  have HP0 : Hid ((w.alloc (Obj.cells #[Value.slice none 0 0, Value.int IntKind.i64 0] 24)).heap[w.heap.size]? = some (.cells #[Value.slice none 0 0, Value.int IntKind.i64 0] 24 (0, 0))) := heap_alloc_new w _
  have HZ0 : Hid ((w.alloc (Obj.cells #[Value.slice none 0 0, Value.int IntKind.i64 0] 24)).heap.size = w.heap.size + 1) := by simp [Hid]
  have HNW := l1New_any a bs cap _ (hb.below hw (Nat.le_refl _)) hl
  have HBW : Hid _ := hw
  clear hw
  go_enter Tryd.func10, Tryd.ntmps10
  go_wp2_with fail
  generalize w.alloc (Obj.cells #[Value.slice none 0 0, Value.int IntKind.i64 0] 24) = W at *
  refine HNW.mono ?_
  clear HNW
  rintro e w1 ⟨rfl, hd1⟩
  have HD1 : Hid (Dr W w1 W.heap.size W.heap.size a bs cap) := hd1
  clear hd1 hb
  generalize hB : W.heap.size = B at *
  have hBw : w.heap.size < B := by have := HZ0.out; omega
  have HBB : Hid (W.heap.size = B) := hB
  clear hB
  go_wp2_with fail
  refine HD1.out.width.mono ?_
  rintro e w2 ⟨⟨d, hd1, hd2, rfl⟩, hdr2, ho2⟩
  have HD2 : Hid (Dr W w2 B B a bs cap) := hdr2
  have hR2 := hdr2.cur.lt.2
  clear hdr2 ho2 HD1
  have HIN : Hid (∀ T, Ins (w2.alloc (.cells #[.int .i64 0, .int .i64 1, .int .i64 5, .int .i64 (-1), .int .i64 1073741823] T)) (some ⟨w2.heap.size, 0, none⟩) [0, 1, 5, -1, 1073741823]) := fun T => by
    have := ins_newB w2 T [0, 1, 5, -1, 1073741823] (by intro z hz; simp at hz; omega)
    simpa using this
  go_wp2_with fail
  refine ((HD2.out.other (S := fun _ => False) ((Only.refl (fun _ => False) w2).alloc _) (by simp) (by simp)).pick w2.heap.size 5 [0, 1, 5, -1, 1073741823] (HIN.out _) (by omega) (by simp) (by simp)).mono ?_
  rintro e w3 ⟨⟨n, hn, rfl⟩, hdr3, ho3⟩
  have HNR : Hid (-1 ≤ n ∧ n ≤ 1073741823) := by unfold Hid; simp at hn; omega
  have HD3 : Hid (Dr W w3 B B a bs cap) := hdr3
  clear hdr3 ho3 HD2 HIN hn hR2
  have fin : ∀ (w4 w5 : World) (n' : Int), True := fun _ _ _ => trivial
  clear fin
  by_cases hdd : 0 < d ∧ d < 30
  · obtain ⟨h1, h2⟩ := hdd
    obtain ⟨D, rfl⟩ := Int.eq_ofNat_of_zero_le (show 0 ≤ d by omega)
    have HWP := wpowB D (by omega)
    have hpb : 2 ^ D ≤ 2 ^ 30 := Nat.pow_le_pow_right (by omega) (by omega)
    have hpp : 0 < 2 ^ D := Nat.pow_pos (by omega)
    have HBG := HD3.out.belowBig (wrap64 (2 ^ D)) (by rw [HWP]; omega) (by rw [HWP]; omega)
    have HWP' : Hid _ := HWP
    clear HWP
    go_wp2_with fail
    refine HBG.mono ?_
    clear HBG
    rintro e w4 ⟨⟨x, hx1, hx2, rfl⟩, hdr4, ho4⟩
    rw [HWP'.out] at hx2
    have HXR : Hid (-1 ≤ x ∧ x ≤ 1073741823) := by unfold Hid; omega
    have HD4 : Hid (Dr W w4 B B a bs cap) := hdr4
    clear hdr4 ho4 HD3 hx1 hx2
    go_wp2_with fail
    refine HD4.out.bent.mono ?_
    rintro e w5 ⟨⟨a', c', ys, N, rfl, hyl, hN1, hN2, hm5⟩, hdr5, ho5⟩
    have hp5 : w5.heap[w.heap.size]? = some (.cells #[Value.slice none 0 0, Value.int IntKind.i64 0] 24 (0, 0)) := (hdr5.bel.block _ hBw).trans HP0.out
    have p0 : w5.cell? ⟨w.heap.size, 0, none⟩ = some (.slice none 0 0) := cellC (j := 0) hp5 rfl
    have p1 : w5.cell? ⟨w.heap.size, 1, none⟩ = some (.int .i64 0) := cellC (j := 1) hp5 rfl
    have q0 : w5.frozen? ⟨w.heap.size, 0, none⟩ = false := frozen_of_row w5 _ 0 _ _ hp5
    have q1 : w5.frozen? ⟨w.heap.size, 1, none⟩ = false := frozen_of_row w5 _ 1 _ _ hp5
    have hB4 : B ≤ w4.heap.size := by have h1 := HD4.out.cur.lt.2; omega
    have HM5 : Hid (Mine w5 B w5.heap.size a' c' ys) := hm5.mono hB4 (Nat.le_refl _)
    have HB5 : Hid (Below w.heap.size w w5) := HBW.out.trans (hdr5.bel.mono (by omega))
    clear hm5 hdr5 ho5 hp5 HD4 hB4
    go_wp2
    refine bodyPost_ret (v := .tuple #[.agg #[.slice a' ys.length c', .int .i64 N], .int .i64 x, .int .i64 D]) (by simp [results, Tryd.results10, go_sem, p0, p1]) rfl ⟨a', c', ys, N, x, D, rfl, hyl, hN1, hN2, HXR.out.1, HXR.out.2, by omega, by omega, mine_out _ _ HM5.out hBw (Nat.le_refl _), (HB5.out.setCell (by simp) _).setCell (by simp) _⟩
  · have hdd' : d ≤ 0 ∨ (0 < d ∧ 30 ≤ d) := by omega
    clear hdd
    rcases hdd' with h1 | ⟨h1, h2⟩
    all_goals
      go_wp2_with fail
      refine HD3.out.bent.mono ?_
      rintro e w5 ⟨⟨a', c', ys, N, rfl, hyl, hN1, hN2, hm5⟩, hdr5, ho5⟩
      have hp5 : w5.heap[w.heap.size]? = some (.cells #[Value.slice none 0 0, Value.int IntKind.i64 0] 24 (0, 0)) := (hdr5.bel.block _ hBw).trans HP0.out
      have p0 : w5.cell? ⟨w.heap.size, 0, none⟩ = some (.slice none 0 0) := cellC (j := 0) hp5 rfl
      have p1 : w5.cell? ⟨w.heap.size, 1, none⟩ = some (.int .i64 0) := cellC (j := 1) hp5 rfl
      have q0 : w5.frozen? ⟨w.heap.size, 0, none⟩ = false := frozen_of_row w5 _ 0 _ _ hp5
      have q1 : w5.frozen? ⟨w.heap.size, 1, none⟩ = false := frozen_of_row w5 _ 1 _ _ hp5
      have hB4 : B ≤ w3.heap.size := by have h1 := HD3.out.cur.lt.2; omega
      have HM5 : Hid (Mine w5 B w5.heap.size a' c' ys) := hm5.mono hB4 (Nat.le_refl _)
      have HB5 : Hid (Below w.heap.size w w5) := HBW.out.trans (hdr5.bel.mono (by omega))
      clear hm5 hdr5 ho5 hp5 HD3 hB4
      go_wp2
      refine bodyPost_ret (v := .tuple #[.agg #[.slice a' ys.length c', .int .i64 N], .int .i64 n, .int .i64 d]) (by simp [results, Tryd.results10, go_sem, p0, p1]) rfl ⟨a', c', ys, N, n, d, rfl, hyl, hN1, hN2, HNR.out.1, HNR.out.2, by omega, by omega, mine_out _ _ HM5.out hBw (Nat.le_refl _), (HB5.out.setCell (by simp) _).setCell (by simp) _⟩

theorem val_encB (M V : Nat) (h : V < 2 ^ M) : val (enc M V) = V := by
  unfold enc
  rw [val_encL]
  refine Nat.mod_eq_of_lt (Nat.lt_of_lt_of_le h ?_)
  rw [show 256 = 2 ^ 8 from rfl, ← Nat.pow_mul]
  exact Nat.pow_le_pow_right (by omega) (by omega)
theorem okB_encB (M V : Nat) (hM : M ≤ 4096) (h : V < 2 ^ M) : okB (M : Int) (enc M V) = true := by
  have hl := enc_len M V
  by_cases h8 : M % 8 = 0
  · exact okB_full (by omega) (by omega) (by rw [hl]; omega) (by omega)
  · rw [okB_last (by omega) (by omega) (by rw [hl]; omega) (by omega)]
    have h1 := enc_last M V h h8
    have h2 := enc_top M V h
    rw [show (enc M V).length - 1 = M / 8 from by omega, h1, show ((M : Int) % 8).toNat = M % 8 from by omega]
    have e : (((V / 256 ^ (M / 8) : Nat) : Int) / 2 ^ (M % 8)) = ((V / 256 ^ (M / 8) / 2 ^ (M % 8) : Nat) : Int) := by simp
    rw [e, Nat.div_eq_of_lt h2]
    rfl
theorem okB_nil : okB 0 [] = true := by decide

set_option maxHeartbeats 1600000 in
theorem bits_any (w : World) : Calls Tryd.prog 12 #[] w fun e w' => e = .returned (.bool true) ∧ Below w.heap.size w w' := by
  have hpo : putOk 0 5 3 [] := ⟨okB_nil, by omega, by omega, by omega, by decide, by omega⟩
  have HPT := implPut_yes none 0 [] 0 5 3 w ⟨by simp, by simp⟩ hpo
  have hv0 : val ([] : List Int) = 0 := rfl
  rw [hv0] at HPT
  have he : enc ((0 : Int).toNat + (3 : Int).toNat) (0 + (5 : Int).toNat * 2 ^ (0 : Int).toNat) = enc 3 5 := rfl
  rw [he] at HPT
  clear hpo hv0 he
  go_enter Tryd.func12, Tryd.ntmps12
  go_wp2_with fail
  refine HPT.mono ?_
  clear HPT
  rintro e w1 ⟨a', cp, rfl, hm1, hb1⟩
  have hov : Byt (w1.alloc (Obj.cells #[Value.slice a' (enc 3 5).length cp, Value.int IntKind.i64 3] 24)) a' (enc 3 5) := hm1.byt.alloc _
  have HGT := implGet_yes a' cp (enc 3 5) 3 0 3 _ hov (okB_encB 3 5 (by omega) (by omega)) (by omega) (by omega) (by omega) (by omega)
  rw [val_encB 3 5 (by omega)] at HGT
  have HB1 : Hid (Below w.heap.size w (w1.alloc (Obj.cells #[Value.slice a' (enc 3 5).length cp, Value.int IntKind.i64 3] 24))) := hb1.alloc hb1.size _
  clear hm1 hb1 hov
  generalize enc 3 5 = E at *
  go_wp2_with fail
  refine HGT.mono ?_
  clear HGT
  rintro e w2 ⟨rfl, hb2⟩
  have hbb := HB1.out.trans (hb2.mono HB1.out.size)
  clear hb2
  go_wp2
  go_ret
  exact ⟨by simp, hbb⟩
end Go.Proofs.YtdhnlbekkicjcaaDoor
