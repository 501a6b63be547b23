/-
  Getting bits in the program: the reader's number, get and back; BitsGet and BackGet.
-/
import Derived.Test.YtfgimfiepoiifagDoorGet1
namespace Go.Proofs.YtfgimfiepoiifagDoor
open Go.RowKit
set_option linter.unusedVariables false

theorem widthOk_any (n : Int) (w : World) : Calls Tryd.prog 32 #[.int .i64 n] w fun e w' => e = .returned (.bool (decide (0 ≤ n ∧ n ≤ 30))) ∧ w' = w := by
  by_cases h0 : 0 ≤ n
  · by_cases h1 : n ≤ 30
    · have hE : decide (0 ≤ n ∧ n ≤ 30) = true := by simp [h0, h1]
      rw [hE]
      clear hE
      go_enter Tryd.func32, Tryd.ntmps32
      go_wp2
      go_ret
      exact ⟨by simp, rfl⟩
    · have hE : decide (0 ≤ n ∧ n ≤ 30) = false := by simp [h1]
      rw [hE]
      clear hE
      go_enter Tryd.func32, Tryd.ntmps32
      go_wp2
      go_ret
      exact ⟨by simp, rfl⟩
  · have hE : decide (0 ≤ n ∧ n ≤ 30) = false := by simp [h0]
    rw [hE]
    clear hE
    go_enter Tryd.func32, Tryd.ntmps32
    go_wp2
    go_ret
    exact ⟨by simp, rfl⟩

set_option maxHeartbeats 800000 in
/-- The reader lies at block R: its bits' bytes, their number, its place. -/
theorem number_any (R : Nat) (a : Option Addr) (cap : Nat) (zs : List Int) (N at0 p width : Int) (n v : Nat) (w : World) (hb : Byt w a zs) (hz : zs = enc n v) (hn : n ≤ 4104)
    (c0 : w.cell? ⟨R, 0, none⟩ = some (.slice a zs.length cap))
    (h0 : 0 ≤ p) (h1 : 0 ≤ width) (h2 : width ≤ 30) (h3 : p + width ≤ n) :
    Calls Tryd.prog 34 #[.pointer (some ⟨R, 0, none⟩), .int .i64 p, .int .i64 width] w fun e w' => e = .returned (.int .i64 (v / 2 ^ p.toNat % 2 ^ width.toNat : Nat)) ∧ w' = w := by
  obtain ⟨q, rfl⟩ := Int.eq_ofNat_of_zero_le h0
  obtain ⟨m, rfl⟩ := Int.eq_ofNat_of_zero_le h1
  simp only [Int.toNat_natCast] at *
  have HZ : Hid (zs = enc n v) := hz
  have hlen : zs.length = (n + 7) / 8 := by rw [hz, enc_len]
  have HL : Hid (zs.length = (n + 7) / 8) := hlen
  clear hz hlen
  go_enter Tryd.func34, Tryd.ntmps34
  go_wp2
  go_loop [7, 12] (fun x i => ∃ j : Nat, j ≤ m ∧ i = .int .i64 j ∧ x = .int .i64 (v / 2 ^ q % 2 ^ j : Nat)) (fun _ i => m - (intOf i).toNat)
  case atStart => exact ⟨0, Nat.zero_le _, rfl, by simp [Nat.mod_one]⟩
  case round =>
    obtain ⟨j, hj, rfl, rfl⟩ := hrel
    by_cases hlt : j < m
    · have hx : v / 2 ^ q % 2 ^ j < 2 ^ j := Nat.mod_lt _ (Nat.pow_pos (by omega))
      have HX := get_up v q j
      have HB := enc_bit n v (q + j) (by omega)
      rw [← HZ.out] at HB
      have hbit : v / 2 ^ (q + j) % 2 < 2 := Nat.mod_lt _ (by omega)
      have hll : (q + j) / 8 < zs.length := by have := HL.out; omega
      obtain ⟨b, off, rfl, hbl, hc⟩ := hb.len_pos ((q + j) / 8) hll
      have hs := hc ((q + j) / 8) hll
      have hr := getD_rng hb.1 ((q + j) / 8)
      generalize hX : v / 2 ^ q % 2 ^ j = X at *
      generalize hbt : v / 2 ^ (q + j) % 2 = bt at *
      generalize zs.getD ((q + j) / 8) 0 = z at *
      have HX' : Hid (v / 2 ^ q % 2 ^ (j + 1) = X + bt * 2 ^ j) := HX
      have HB' : Hid (z.toNat / 2 ^ ((q + j) % 8) % 2 = bt) := HB
      clear HX HB hX hbt hc
      go_wp2
      go_round
      case rel => exact ⟨j + 1, by omega, by go_num, by rw [or_step64 X j _ z hr hx (by omega), HB'.out, HX'.out]⟩
      case measure => simp [intOf]; omega
    · have hj0 : j = m := by omega
      subst hj0
      go_wp2
      go_ret
      exact ⟨rfl, rfl⟩

/-- What the sentinels hold: each an error that is not nil. -/
def Sent (w : World) (g : Nat) : Prop := ∃ T x, w.cell? ⟨g, 0, none⟩ = some (.iface T x)

set_option maxHeartbeats 1600000 in
theorem get_no (R : Nat) (a : Option Addr) (cap : Nat) (zs : List Int) (n : Nat) (p width : Int) (w : World) (hn : n ≤ 4104) (pb : p ≤ 9223372036854775807)
    (c0 : w.cell? ⟨R, 0, none⟩ = some (.slice a zs.length cap)) (c1 : w.cell? ⟨R, 1, none⟩ = some (.int .i64 n)) (c2 : w.cell? ⟨R, 2, none⟩ = some (.int .i64 p))
    (s0 : Sent w 0) (s2 : Sent w 2)
    (h : width < 0 ∨ 30 < width ∨ p < 0 ∨ (n : Int) - width < p) :
    Calls Tryd.prog 29 #[.pointer (some ⟨R, 0, none⟩), .int .i64 width] w fun e w' => (∃ T x, e = .returned (.tuple #[.int .i64 0, .iface T x])) ∧ ∃ m, w' = w.drewN m := by
  obtain ⟨T0, x0, g0⟩ := s0
  obtain ⟨T2, x2, g2⟩ := s2
  have key : (width < 0 ∨ 30 < width) ∨ (0 ≤ width ∧ width ≤ 30 ∧ p < 0) ∨ (0 ≤ width ∧ width ≤ 30 ∧ 0 ≤ p ∧ (n : Int) - width < p) := by omega
  clear h
  rcases key with hh | ⟨k1, k2, k3⟩ | ⟨k1, k2, k3, k4⟩
  · have hd : Hid (decide (0 ≤ width ∧ width ≤ 30) = false) := by simp [Hid]; omega
    go_enter Tryd.func29, Tryd.ntmps29
    go_wp2_with fail
    refine (widthOk_any width _).mono ?_
    rintro e w1 ⟨rfl, rfl⟩
    rw [hd.out]
    go_wp2_with fail
    go_quiet (fail)
    go_wp2
    go_ret2
    exact ⟨⟨_, _, rfl⟩, _, rfl⟩
  · have hd : Hid (decide (0 ≤ width ∧ width ≤ 30) = true) := by simp [Hid]; omega
    have hp : decide (p < 0) = true := by simpa using k3
    go_enter Tryd.func29, Tryd.ntmps29
    go_wp2_with fail
    refine (widthOk_any width _).mono ?_
    rintro e w1 ⟨rfl, rfl⟩
    rw [hd.out]
    go_wp2_with fail
    go_quiet (fail)
    go_wp2
    go_quiet (fail)
    go_wp2
    go_ret2
    exact ⟨⟨_, _, rfl⟩, _, World.drewN_drewN ..⟩
  · have hd : Hid (decide (0 ≤ width ∧ width ≤ 30) = true) := by simp [Hid]; omega
    have hp : decide (p < 0) = false := by simpa using k3
    go_enter Tryd.func29, Tryd.ntmps29
    go_wp2_with fail
    refine (widthOk_any width _).mono ?_
    rintro e w1 ⟨rfl, rfl⟩
    rw [hd.out]
    go_wp2_with fail
    go_quiet (fail)
    go_wp2
    go_quiet (fail)
    go_wp2
    go_ret2
    exact ⟨⟨_, _, rfl⟩, _, World.drewN_drewN ..⟩

set_option maxHeartbeats 1600000 in
theorem get_yes (R : Nat) (a : Option Addr) (cap : Nat) (zs : List Int) (n v : Nat) (p width : Int) (w : World) (hn : n ≤ 4104) (hb : Byt w a zs) (hz : zs = enc n v)
    (c0 : w.cell? ⟨R, 0, none⟩ = some (.slice a zs.length cap)) (c1 : w.cell? ⟨R, 1, none⟩ = some (.int .i64 n)) (c2 : w.cell? ⟨R, 2, none⟩ = some (.int .i64 p)) (f2 : w.frozen? ⟨R, 2, none⟩ = false)
    (k1 : 0 ≤ width) (k2 : width ≤ 30) (k3 : 0 ≤ p) (k4 : p ≤ (n : Int) - width) :
    Calls Tryd.prog 29 #[.pointer (some ⟨R, 0, none⟩), .int .i64 width] w fun e w' =>
      e = .returned (.tuple #[.int .i64 (v / 2 ^ p.toNat % 2 ^ width.toNat : Nat), .nilIface]) ∧ ∃ m, w' = (w.drewN m).setCell ⟨R, 2, none⟩ (.int .i64 (p + width)) := by
  have hd : Hid (decide (0 ≤ width ∧ width ≤ 30) = true) := by simp [Hid]; omega
  have hp : decide (p < 0) = false := by simpa using k3
  have HZ : Hid (zs = enc n v) := hz
  clear hz
  go_enter Tryd.func29, Tryd.ntmps29
  go_wp2_with fail
  refine (widthOk_any width _).mono ?_
  rintro e w1 ⟨rfl, rfl⟩
  rw [hd.out]
  go_wp2_with fail
  go_quiet (fail)
  go_wp2_with fail
  refine (number_any R a cap zs n p p width n v _ (hb.drewN _) HZ.out hn (by simpa using c0) k3 k1 k2 (by omega)).mono ?_
  rintro e w2 ⟨rfl, rfl⟩
  go_wp2
  go_ret2
  exact ⟨rfl, _, rfl⟩


set_option maxHeartbeats 1600000 in
theorem implGet_no (a : Option Addr) (cap : Nat) (zs : List Int) (N p width : Int) (w : World) (hb : Byt w a zs) (hl : zs.length ≤ 281474976710656) (pb : p ≤ 9223372036854775807) (s0 : Sent w 0) (s2 : Sent w 2) (hG : 2 < w.heap.size)
    (h : okB N zs = false ∨ p < 0 ∨ width < 0 ∨ 30 < width ∨ N - width < p) :
    Calls Tryd.prog 14 #[.agg #[.slice a zs.length cap, .int .i64 N], .int .i64 p, .int .i64 width] w fun e w' => e = .returned (.tuple #[.int .i64 0, .int .i64 (-1)]) ∧ Below w.heap.size w w' := by
  have hw : Below w.heap.size w (w.alloc (Obj.cells #[Value.slice a zs.length cap, Value.int IntKind.i64 N] 26)) := (Below.refl _ _).alloc (Nat.le_refl _) _
  by_cases hO : okB N zs = true
  · obtain ⟨n, rfl, hn1, -, -⟩ := okB_enc hO hb.1
    have h' : width < 0 ∨ 30 < width ∨ p < 0 ∨ (n : Int) - width < p := by
      rcases h with h | h
      · rw [hO] at h; cases h
      · omega
    have HH : Hid (width < 0 ∨ 30 < width ∨ p < 0 ∨ (n : Int) - width < p) := h'
    clear h h'
    have HO : Hid (okB (n : Int) zs = true) := hO
    clear hO
    obtain ⟨T0, x0, g0⟩ := s0
    obtain ⟨T2, x2, g2⟩ := s2
    go_enter Tryd.func14, Tryd.ntmps14
    go_wp2_with fail
    refine (implOk_any a cap zs _ _ (hb.below hw (Nat.le_refl _)) hl).mono ?_
    rintro e w1 ⟨rfl, hb1⟩
    rw [HO.out]
    have q0 : w1.cell? ⟨w.heap.size, 0, none⟩ = some (.slice a zs.length cap) := keep hb1 (by simp) (by simp)
    have q1 : w1.cell? ⟨w.heap.size, 1, none⟩ = some (.int .i64 n) := keep hb1 (by simp) (by simp)
    have e0 := keep hb1 (by simp) (keepA (Obj.cells #[Value.slice a zs.length cap, Value.int IntKind.i64 n] 26) (by omega) g0)
    have e2 := keep hb1 (by simp; omega) (keepA (Obj.cells #[Value.slice a zs.length cap, Value.int IntKind.i64 n] 26) (by omega) g2)
    have z1 := hb1.size
    simp at z1
    have hbb := hw.trans (hb1.mono (by simp))
    clear hb1 g0 g2
    go_wp2_with fail
    refine (get_no w1.heap.size a cap zs n p width _ (by omega) pb (by simp) (by simp) (by simp) ⟨T0, x0, keepA _ (by omega) e0⟩ ⟨T2, x2, keepA _ (by omega) e2⟩ HH.out).mono ?_
    rintro e w2 ⟨⟨T, x, rfl⟩, m, rfl⟩
    go_wp2
    go_ret2
    exact ⟨rfl, below_drewN (hbb.alloc (by omega) _) _⟩
  · have hO' : okB N zs = false := by simpa using hO
    have HO : Hid (okB N zs = false) := hO'
    clear hO hO' h
    go_enter Tryd.func14, Tryd.ntmps14
    go_wp2_with fail
    refine (implOk_any a cap zs _ _ (hb.below hw (Nat.le_refl _)) hl).mono ?_
    rintro e w1 ⟨rfl, hb1⟩
    rw [HO.out]
    have hbb := hw.trans (hb1.mono (by simp))
    clear hb1
    go_wp2
    go_ret2
    exact ⟨rfl, hbb⟩

set_option maxHeartbeats 1600000 in
theorem implGet_yes (a : Option Addr) (cap : Nat) (zs : List Int) (N p width : Int) (w : World) (hb : Byt w a zs) (hO : okB N zs = true) (h0 : 0 ≤ p) (h1 : 0 ≤ width) (h2 : width ≤ 30) (h3 : p ≤ N - width) :
    Calls Tryd.prog 14 #[.agg #[.slice a zs.length cap, .int .i64 N], .int .i64 p, .int .i64 width] w fun e w' =>
      e = .returned (.tuple #[.int .i64 (val zs / 2 ^ p.toNat % 2 ^ width.toNat : Nat), .int .i64 (p + width)]) ∧ Below w.heap.size w w' := by
  have hw : Below w.heap.size w (w.alloc (Obj.cells #[Value.slice a zs.length cap, Value.int IntKind.i64 N] 26)) := (Below.refl _ _).alloc (Nat.le_refl _) _
  obtain ⟨n, rfl, hn1, he, hv⟩ := okB_enc hO hb.1
  have hl : zs.length ≤ 281474976710656 := by rw [he, enc_len]; omega
  have HO : Hid (okB (n : Int) zs = true) := hO
  have HE : Hid (zs = enc n (val zs)) := he
  clear hO he hv
  generalize hV : val zs = V at *
  clear hV
  go_enter Tryd.func14, Tryd.ntmps14
  go_wp2_with fail
  refine (implOk_any a cap zs _ _ (hb.below hw (Nat.le_refl _)) hl).mono ?_
  rintro e w1 ⟨rfl, hb1⟩
  rw [HO.out]
  have q0 : w1.cell? ⟨w.heap.size, 0, none⟩ = some (.slice a zs.length cap) := keep hb1 (by simp) (by simp)
  have q1 : w1.cell? ⟨w.heap.size, 1, none⟩ = some (.int .i64 n) := keep hb1 (by simp) (by simp)
  have z1 := hb1.size
  simp at z1
  have hbb := hw.trans (hb1.mono (by simp))
  clear hb1
  go_wp2_with fail
  refine (get_yes w1.heap.size a cap zs n V p width _ (by omega) (hb.below (hbb.alloc (by omega) _) (Nat.le_refl _)) HE.out (by simp) (by simp) (by simp) (by simp) h1 h2 h0 h3).mono ?_
  rintro e w2 ⟨rfl, m, rfl⟩
  go_wp2
  go_quiet (fail)
  go_wp2
  go_ret2
  exact ⟨rfl, below_drewN (Below.setCell (below_drewN (hbb.alloc (by omega) _) _) (by simp; omega) _) _⟩

end Go.Proofs.YtfgimfiepoiifagDoor
