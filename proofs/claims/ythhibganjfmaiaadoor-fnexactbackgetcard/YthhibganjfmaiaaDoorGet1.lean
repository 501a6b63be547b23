/-
  Getting bits: what l1get and BitsGet of the model answer.
-/
import Derived.Test.YthhibganjfmaiaaDoorBit1
namespace Go.Proofs.YthhibganjfmaiaaDoor
open Go.RowKit
set_option linter.unusedVariables false

set_option maxHeartbeats 800000 in
theorem l1get_any (a : Option Addr) (cap : Nat) (zs : List Int) (N p width : Int) (n v : Nat) (w : World) (hb : Byt w a zs) (hz : zs = enc n v) (hn : n ≤ 4104) (h0 : 0 ≤ p) (h1 : 0 ≤ width) (h2 : width ≤ 30) (h3 : p + width ≤ n) :
    Calls Tryd.prog 58 #[.agg #[.slice a zs.length cap, .int .i64 N], .int .i64 p, .int .i64 width] w fun e w' => e = .returned (.int .i64 (v / 2 ^ p.toNat % 2 ^ width.toNat : Nat)) ∧ Below w.heap.size w w' := by
  have hw : Below w.heap.size w (w.alloc (Obj.cells #[Value.slice a zs.length cap, Value.int IntKind.i64 N] 24)) := (Below.refl _ _).alloc (Nat.le_refl _) _
  obtain ⟨q, rfl⟩ := Int.eq_ofNat_of_zero_le h0
  obtain ⟨m, rfl⟩ := Int.eq_ofNat_of_zero_le h1
  simp only [Int.toNat_natCast] at *
  have HZ : Hid (zs = enc n v) := hz
  have hlen : zs.length = (n + 7) / 8 := by rw [hz, enc_len]
  have HL : Hid (zs.length = (n + 7) / 8) := hlen
  clear hz hlen
  go_enter Tryd.func58, Tryd.ntmps58
  go_wp2
  go_loopw [7, 8] (fun x i wr => ∃ j : Nat, j ≤ m ∧ i = .int .i64 ((j : Int) - 1) ∧ x = .int .i64 (v / 2 ^ (q + j) % 2 ^ (m - j) : Nat) ∧ Below w.heap.size w wr ∧ w.heap.size < wr.heap.size ∧
      wr.cell? ⟨w.heap.size, 0, none⟩ = some (.slice a zs.length cap) ∧ wr.cell? ⟨w.heap.size, 1, none⟩ = some (.int .i64 N)) (fun _ i _ => (intOf i + 1).toNat)
  case atStart => exact ⟨m, Nat.le_refl _, rfl, by simp [Nat.mod_one], hw, by simp, by simp, by simp⟩
  case round =>
    obtain ⟨j, hj, rfl, rfl, hbel, hsz, p0, p1⟩ := hrel
    by_cases hlt : 0 < j
    · obtain ⟨j', rfl⟩ : ∃ j', j = j' + 1 := ⟨j - 1, by omega⟩
      have hx : v / 2 ^ (q + (j' + 1)) % 2 ^ (m - (j' + 1)) < 2 ^ 30 := Nat.lt_of_lt_of_le (Nat.mod_lt _ (Nat.pow_pos (by omega))) (Nat.pow_le_pow_right (by omega) (by omega))
      have hge : (0 : Int) ≤ ((j' + 1 : Nat) : Int) - 1 := by omega
      have HX : Hid (v / 2 ^ (q + j') % 2 ^ (m - j') = 2 * (v / 2 ^ (q + (j' + 1)) % 2 ^ (m - (j' + 1))) + v / 2 ^ (q + j') % 2) := by
        have := get_down v (q + j') (m - (j' + 1))
        rw [show m - (j' + 1) + 1 = m - j' from by omega] at this
        rw [Nat.add_assoc] at this
        exact this
      generalize v / 2 ^ (q + (j' + 1)) % 2 ^ (m - (j' + 1)) = X at *
      have HB : Hid (bitAt zs ((q : Int) + (j' : Int)).toNat = v / 2 ^ (q + j') % 2) := by
        have := enc_bit n v (q + j') (by omega)
        rw [← HZ.out] at this
        rw [show ((q : Int) + (j' : Int)).toNat = q + j' from by omega]
        exact this
      have hbit : v / 2 ^ (q + j') % 2 < 2 := Nat.mod_lt _ (by omega)
      generalize v / 2 ^ (q + j') % 2 = bt at *
      go_wp2_with fail
      refine (l1bit_any a cap zs N _ _ (hb.below hbel (Nat.le_refl _)) (by omega) (by have := HL.out; omega) (by omega)).mono ?_
      rintro e w1 ⟨rfl, hb1⟩
      rw [HB.out]
      have z1 := hb1.size
      have q0 := keep hb1 hsz p0
      have q1 := keep hb1 hsz p1
      have hbel1 := hbel.trans (hb1.mono (Nat.le_of_lt hsz))
      clear p0 p1 hb1 hbel hw
      go_wp2
      go_roundw
      case rel => exact ⟨j', by omega, by go_num, by rw [HX.out]; go_num, hbel1, by omega, q0, q1⟩
      case measure => simp [intOf]
    · have hj0 : j = 0 := by omega
      subst hj0
      go_wp2
      go_ret
      exact ⟨ret_int (by simp), hbel⟩

set_option maxHeartbeats 800000 in
theorem specGet_no (a : Option Addr) (cap : Nat) (zs : List Int) (N p width : Int) (w : World) (hb : Byt w a zs) (hn : zs.length ≤ 281474976710656)
    (h : okB N zs = false ∨ p < 0 ∨ width < 0 ∨ 30 < width ∨ N - width < p) :
    Calls Tryd.prog 31 #[.agg #[.slice a zs.length cap, .int .i64 N], .int .i64 p, .int .i64 width] w fun e w' => e = .returned (.tuple #[.int .i64 0, .int .i64 (-1)]) ∧ Below w.heap.size w w' := by
  have hw : Below w.heap.size w (w.alloc (Obj.cells #[Value.slice a zs.length cap, Value.int IntKind.i64 N] 24)) := (Below.refl _ _).alloc (Nat.le_refl _) _
  by_cases hO : okB N zs = true
  · obtain ⟨n, rfl, hn1, -, -⟩ := okB_enc hO hb.1
    have h' : p < 0 ∨ width < 0 ∨ 30 < width ∨ (n : Int) - width < p := by
      rcases h with h | h
      · rw [hO] at h; cases h
      · exact h
    clear h
    have HO : Hid (okB (n : Int) zs = true) := hO
    clear hO
    have key : (p < 0) ∨ (0 ≤ p ∧ width < 0) ∨ (0 ≤ p ∧ 0 ≤ width ∧ 30 < width) ∨ (0 ≤ p ∧ 0 ≤ width ∧ width ≤ 30 ∧ (n : Int) - width < p) := by omega
    clear h'
    rcases key with g1 | ⟨g1, g2⟩ | ⟨g1, g2, g3⟩ | ⟨g1, g2, g3, g4⟩
    all_goals
      go_enter Tryd.func31, Tryd.ntmps31
      go_wp2_with fail
      refine (specOk_any a cap zs _ _ (hb.below hw (Nat.le_refl _)) hn).mono ?_
      rintro e w1 ⟨rfl, hb1⟩
      rw [HO.out]
      have q0 : w1.cell? ⟨w.heap.size, 0, none⟩ = some (.slice a zs.length cap) := keep hb1 (by simp) (by simp)
      have q1 : w1.cell? ⟨w.heap.size, 1, none⟩ = some (.int .i64 n) := keep hb1 (by simp) (by simp)
      have z1 := hb1.size
      simp at z1
      have hbb := hw.trans (hb1.mono (by simp))
      clear hb1
      go_wp2
      go_ret2
      exact ⟨rfl, hbb⟩
  · have hO' : okB N zs = false := by simpa using hO
    have HO : Hid (okB N zs = false) := hO'
    clear hO hO' h
    go_enter Tryd.func31, Tryd.ntmps31
    go_wp2_with fail
    refine (specOk_any a cap zs _ _ (hb.below hw (Nat.le_refl _)) hn).mono ?_
    rintro e w1 ⟨rfl, hb1⟩
    rw [HO.out]
    have hbb := hw.trans (hb1.mono (by simp))
    clear hb1
    go_wp2
    go_ret2
    exact ⟨rfl, hbb⟩

set_option maxHeartbeats 800000 in
theorem specGet_yes (a : Option Addr) (cap : Nat) (zs : List Int) (N p width : Int) (w : World) (hb : Byt w a zs) (hO : okB N zs = true) (h0 : 0 ≤ p) (h1 : 0 ≤ width) (h2 : width ≤ 30) (h3 : p ≤ N - width) :
    Calls Tryd.prog 31 #[.agg #[.slice a zs.length cap, .int .i64 N], .int .i64 p, .int .i64 width] w fun e w' =>
      e = .returned (.tuple #[.int .i64 (val zs / 2 ^ p.toNat % 2 ^ width.toNat : Nat), .int .i64 (p + width)]) ∧ Below w.heap.size w w' := by
  have hw : Below w.heap.size w (w.alloc (Obj.cells #[Value.slice a zs.length cap, Value.int IntKind.i64 N] 24)) := (Below.refl _ _).alloc (Nat.le_refl _) _
  obtain ⟨n, rfl, hn1, he, hv⟩ := okB_enc hO hb.1
  have hl : zs.length ≤ 281474976710656 := by rw [he, enc_len]; omega
  have HO : Hid (okB (n : Int) zs = true) := hO
  have HE : Hid (zs = enc n (val zs)) := he
  clear hO he hv
  generalize hV : val zs = V at *
  clear hV
  go_enter Tryd.func31, Tryd.ntmps31
  go_wp2_with fail
  refine (specOk_any a cap zs _ _ (hb.below hw (Nat.le_refl _)) hl).mono ?_
  rintro e w1 ⟨rfl, hb1⟩
  rw [HO.out]
  have q0 : w1.cell? ⟨w.heap.size, 0, none⟩ = some (.slice a zs.length cap) := keep hb1 (by simp) (by simp)
  have q1 : w1.cell? ⟨w.heap.size, 1, none⟩ = some (.int .i64 n) := keep hb1 (by simp) (by simp)
  have z1 := hb1.size
  simp at z1
  have hbb := hw.trans (hb1.mono (by simp))
  clear hb1 hw
  go_wp2_with fail
  refine (l1get_any a cap zs _ p width n V _ (hb.below hbb (Nat.le_refl _)) HE.out (by omega) h0 h1 h2 (by omega)).mono ?_
  rintro e w2 ⟨rfl, hb2⟩
  have hbb2 := hbb.trans (hb2.mono (by omega))
  clear hb2
  go_wp2
  go_ret2
  exact ⟨rfl, hbb2⟩

end Go.Proofs.YthhibganjfmaiaaDoor
