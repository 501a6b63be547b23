/-
  Getting bits from behind: BackGet in the model and in the program.
-/
import Derived.Test.YtpknhljdnmondaaDoorOkS
import Derived.Test.YtpknhljdnmondaaDoorGet1
import Derived.Test.YtpknhljdnmondaaDoorOkI
import Derived.Test.YtpknhljdnmondaaDoorReader
namespace Go.Proofs.YtpknhljdnmondaaDoor
open Go.RowKit
set_option linter.unusedVariables false

set_option maxHeartbeats 800000 in
theorem specBack_no (a : Option Addr) (cap : Nat) (zs : List Int) (N p width : Int) (w : World) (hb : Byt w a zs) (hn : zs.length ≤ 281474976710656)
    (h : okB N zs = false ∨ width < 0 ∨ 30 < width ∨ N < p ∨ p < width) :
    Calls Tryd.prog 32 #[.agg #[.slice a zs.length cap, .int .i64 N], .int .i64 p, .int .i64 width] w fun e w' => e = .returned (.tuple #[.int .i64 0, .int .i64 (-1)]) ∧ Below w.heap.size w w' := by
  have hw : Below w.heap.size w (w.alloc (Obj.cells #[Value.slice a zs.length cap, Value.int IntKind.i64 N] 24)) := (Below.refl _ _).alloc (Nat.le_refl _) _
  by_cases hO : okB N zs = true
  · obtain ⟨n, rfl, hn1, -, -⟩ := okB_enc hO hb.1
    have h' : width < 0 ∨ 30 < width ∨ (n : Int) < p ∨ p < width := by
      rcases h with h | h
      · rw [hO] at h; cases h
      · exact h
    clear h
    have HO : Hid (okB (n : Int) zs = true) := hO
    clear hO
    have key : (width < 0) ∨ (0 ≤ width ∧ 30 < width) ∨ (0 ≤ width ∧ width ≤ 30 ∧ (n : Int) < p) ∨ (0 ≤ width ∧ width ≤ 30 ∧ p ≤ (n : Int) ∧ p < width) := by omega
    clear h'
    rcases key with g1 | ⟨g1, g2⟩ | ⟨g1, g2, g3⟩ | ⟨g1, g2, g3, g4⟩
    all_goals
      go_enter Tryd.func32, Tryd.ntmps32
      go_wp2_with fail
      refine (specOk_any a cap zs _ _ (hb.below hw (Nat.le_refl _)) hn).mono ?_
      rintro e w1 ⟨rfl, hb1⟩
      rw [HO.out]
      have q0 : w1.cell? ⟨w.heap.size, 0, none⟩ = some (.slice a zs.length cap) := keep hb1 (by simp) (by simp)
      have q1 : w1.cell? ⟨w.heap.size, 1, none⟩ = some (.int .i64 n) := keep hb1 (by simp) (by simp)
      have z1 := hb1.size
      simp at z1
      have hbb := hw.trans (hb1.mono (by simp))
      clear hb1
      go_wp2
      go_ret2
      exact ⟨rfl, hbb⟩
  · have hO' : okB N zs = false := by simpa using hO
    have HO : Hid (okB N zs = false) := hO'
    clear hO hO' h
    go_enter Tryd.func32, Tryd.ntmps32
    go_wp2_with fail
    refine (specOk_any a cap zs _ _ (hb.below hw (Nat.le_refl _)) hn).mono ?_
    rintro e w1 ⟨rfl, hb1⟩
    rw [HO.out]
    have hbb := hw.trans (hb1.mono (by simp))
    clear hb1
    go_wp2
    go_ret2
    exact ⟨rfl, hbb⟩

set_option maxHeartbeats 800000 in
theorem specBack_yes (a : Option Addr) (cap : Nat) (zs : List Int) (N p width : Int) (w : World) (hb : Byt w a zs) (hO : okB N zs = true) (h1 : 0 ≤ width) (h2 : width ≤ 30) (h0 : width ≤ p) (h3 : p ≤ N) :
    Calls Tryd.prog 32 #[.agg #[.slice a zs.length cap, .int .i64 N], .int .i64 p, .int .i64 width] w fun e w' =>
      e = .returned (.tuple #[.int .i64 (val zs / 2 ^ (p - width).toNat % 2 ^ width.toNat : Nat), .int .i64 (p - width)]) ∧ Below w.heap.size w w' := by
  have hw : Below w.heap.size w (w.alloc (Obj.cells #[Value.slice a zs.length cap, Value.int IntKind.i64 N] 24)) := (Below.refl _ _).alloc (Nat.le_refl _) _
  obtain ⟨n, rfl, hn1, he, hv⟩ := okB_enc hO hb.1
  have hl : zs.length ≤ 281474976710656 := by rw [he, enc_len]; omega
  have HO : Hid (okB (n : Int) zs = true) := hO
  have HE : Hid (zs = enc n (val zs)) := he
  clear hO he hv
  generalize hV : val zs = V at *
  clear hV
  go_enter Tryd.func32, Tryd.ntmps32
  go_wp2_with fail
  refine (specOk_any a cap zs _ _ (hb.below hw (Nat.le_refl _)) hl).mono ?_
  rintro e w1 ⟨rfl, hb1⟩
  rw [HO.out]
  have q0 : w1.cell? ⟨w.heap.size, 0, none⟩ = some (.slice a zs.length cap) := keep hb1 (by simp) (by simp)
  have q1 : w1.cell? ⟨w.heap.size, 1, none⟩ = some (.int .i64 n) := keep hb1 (by simp) (by simp)
  have z1 := hb1.size
  simp at z1
  have hbb := hw.trans (hb1.mono (by simp))
  clear hb1 hw
  go_wp2_with fail
  refine (l1get_any a cap zs _ (p - width) width n V _ (hb.below hbb (Nat.le_refl _)) HE.out (by omega) (by omega) h1 h2 (by omega)).mono ?_
  rintro e w2 ⟨rfl, hb2⟩
  have hbb2 := hbb.trans (hb2.mono (by omega))
  clear hb2
  go_wp2
  go_ret2
  exact ⟨rfl, hbb2⟩

set_option maxHeartbeats 1600000 in
theorem back_no (R : Nat) (a : Option Addr) (cap : Nat) (zs : List Int) (n : Nat) (p width : Int) (w : World) (hn : n ≤ 4104) (pb : p ≤ 9223372036854775807)
    (c0 : w.cell? ⟨R, 0, none⟩ = some (.slice a zs.length cap)) (c1 : w.cell? ⟨R, 1, none⟩ = some (.int .i64 n)) (c2 : w.cell? ⟨R, 2, none⟩ = some (.int .i64 p))
    (s0 : Sent w 1) (s2 : Sent w 0)
    (h : width < 0 ∨ 30 < width ∨ (n : Int) < p ∨ p < width) :
    Calls Tryd.prog 46 #[.pointer (some ⟨R, 0, none⟩), .int .i64 width] w fun e w' => (∃ T x, e = .returned (.tuple #[.int .i64 0, .iface T x])) ∧ ∃ m, w' = w.drewN m := by
  obtain ⟨T0, x0, g0⟩ := s0
  obtain ⟨T2, x2, g2⟩ := s2
  have key : (width < 0 ∨ 30 < width) ∨ (0 ≤ width ∧ width ≤ 30 ∧ (n : Int) < p) ∨ (0 ≤ width ∧ width ≤ 30 ∧ p ≤ (n : Int) ∧ p < width) := by omega
  clear h
  rcases key with hh | ⟨k1, k2, k3⟩ | ⟨k1, k2, k3, k4⟩
  · have hd : Hid (decide (0 ≤ width ∧ width ≤ 30) = false) := by simp [Hid]; omega
    go_enter Tryd.func46, Tryd.ntmps46
    go_wp2_with fail
    refine (widthOk_any width _).mono ?_
    rintro e w1 ⟨rfl, rfl⟩
    rw [hd.out]
    go_wp2_with fail
    go_quiet (fail)
    go_wp2
    go_ret2
    exact ⟨⟨_, _, rfl⟩, _, rfl⟩
  · have hd : Hid (decide (0 ≤ width ∧ width ≤ 30) = true) := by simp [Hid]; omega
    have hp : decide ((n : Int) < p) = true := by simpa using k3
    go_enter Tryd.func46, Tryd.ntmps46
    go_wp2_with fail
    refine (widthOk_any width _).mono ?_
    rintro e w1 ⟨rfl, rfl⟩
    rw [hd.out]
    go_wp2_with fail
    go_quiet (fail)
    go_wp2
    go_quiet (fail)
    go_wp2
    go_ret2
    exact ⟨⟨_, _, rfl⟩, _, World.drewN_drewN ..⟩
  · have hd : Hid (decide (0 ≤ width ∧ width ≤ 30) = true) := by simp [Hid]; omega
    have hp : decide ((n : Int) < p) = false := by simpa using k3
    go_enter Tryd.func46, Tryd.ntmps46
    go_wp2_with fail
    refine (widthOk_any width _).mono ?_
    rintro e w1 ⟨rfl, rfl⟩
    rw [hd.out]
    go_wp2_with fail
    go_quiet (fail)
    go_wp2
    go_quiet (fail)
    go_wp2
    go_ret2
    exact ⟨⟨_, _, rfl⟩, _, World.drewN_drewN ..⟩

set_option maxHeartbeats 1600000 in
theorem back_yes (R : Nat) (a : Option Addr) (cap : Nat) (zs : List Int) (n v : Nat) (p width : Int) (w : World) (hn : n ≤ 4104) (hb : ∀ m x, Byt ((w.drewN m).setCell ⟨R, 2, none⟩ x) a zs) (hz : zs = enc n v)
    (c0 : w.cell? ⟨R, 0, none⟩ = some (.slice a zs.length cap)) (c1 : w.cell? ⟨R, 1, none⟩ = some (.int .i64 n)) (c2 : w.cell? ⟨R, 2, none⟩ = some (.int .i64 p)) (f2 : w.frozen? ⟨R, 2, none⟩ = false)
    (k1 : 0 ≤ width) (k2 : width ≤ 30) (k3 : p ≤ (n : Int)) (k4 : width ≤ p) :
    Calls Tryd.prog 46 #[.pointer (some ⟨R, 0, none⟩), .int .i64 width] w fun e w' =>
      e = .returned (.tuple #[.int .i64 (v / 2 ^ (p - width).toNat % 2 ^ width.toNat : Nat), .nilIface]) ∧ ∃ m, w' = (w.drewN m).setCell ⟨R, 2, none⟩ (.int .i64 (p - width)) := by
  have hd : Hid (decide (0 ≤ width ∧ width ≤ 30) = true) := by simp [Hid]; omega
  have hp : decide ((n : Int) < p) = false := by simpa using k3
  have HZ : Hid (zs = enc n v) := hz
  clear hz
  go_enter Tryd.func46, Tryd.ntmps46
  go_wp2_with fail
  refine (widthOk_any width _).mono ?_
  rintro e w1 ⟨rfl, rfl⟩
  rw [hd.out]
  go_wp2_with fail
  go_quiet (fail)
  go_wp2_with fail
  refine (number_any R a cap zs n p (p - width) width n v _ (hb _ _) HZ.out hn (by rw [World.cell?_setCell_other _ _ _ _ (by simp)]; exact c0) (by omega) k1 k2 (by omega)).mono ?_
  rintro e w2 ⟨rfl, rfl⟩
  go_wp2
  go_ret2
  exact ⟨rfl, _, rfl⟩


set_option maxHeartbeats 1600000 in
theorem implBack_no (a : Option Addr) (cap : Nat) (zs : List Int) (N p width : Int) (w : World) (hb : Byt w a zs) (hl : zs.length ≤ 281474976710656) (pb : p ≤ 9223372036854775807) (s0 : Sent w 1) (s2 : Sent w 0) (hG : 1 < w.heap.size ∧ 0 < w.heap.size)
    (h : okB N zs = false ∨ width < 0 ∨ 30 < width ∨ N < p ∨ p < width) :
    Calls Tryd.prog 14 #[.agg #[.slice a zs.length cap, .int .i64 N], .int .i64 p, .int .i64 width] w fun e w' => e = .returned (.tuple #[.int .i64 0, .int .i64 (-1)]) ∧ Below w.heap.size w w' := by
  have hw : Below w.heap.size w (w.alloc (Obj.cells #[Value.slice a zs.length cap, Value.int IntKind.i64 N] 24)) := (Below.refl _ _).alloc (Nat.le_refl _) _
  by_cases hO : okB N zs = true
  · obtain ⟨n, rfl, hn1, -, -⟩ := okB_enc hO hb.1
    have h' : width < 0 ∨ 30 < width ∨ (n : Int) < p ∨ p < width := by
      rcases h with h | h
      · rw [hO] at h; cases h
      · omega
    have HH : Hid (width < 0 ∨ 30 < width ∨ (n : Int) < p ∨ p < width) := h'
    clear h h'
    have HO : Hid (okB (n : Int) zs = true) := hO
    clear hO
    obtain ⟨T0, x0, g0⟩ := s0
    obtain ⟨T2, x2, g2⟩ := s2
    go_enter Tryd.func14, Tryd.ntmps14
    go_wp2_with fail
    refine (implOk_any a cap zs _ _ (hb.below hw (Nat.le_refl _)) hl).mono ?_
    rintro e w1 ⟨rfl, hb1⟩
    rw [HO.out]
    have q0 : w1.cell? ⟨w.heap.size, 0, none⟩ = some (.slice a zs.length cap) := keep hb1 (by simp) (by simp)
    have q1 : w1.cell? ⟨w.heap.size, 1, none⟩ = some (.int .i64 n) := keep hb1 (by simp) (by simp)
    have e0 := keep hb1 (by simp <;> omega) (keepA (Obj.cells #[Value.slice a zs.length cap, Value.int IntKind.i64 n] 24) (by omega) g0)
    have e2 := keep hb1 (by simp <;> omega) (keepA (Obj.cells #[Value.slice a zs.length cap, Value.int IntKind.i64 n] 24) (by omega) g2)
    have z1 := hb1.size
    simp at z1
    have hbb := hw.trans (hb1.mono (by simp))
    clear hb1 g0 g2
    go_wp2_with fail
    refine (back_no w1.heap.size a cap zs n p width _ (by omega) pb (by simp) (by simp) (by simp) ⟨T0, x0, keepA _ (by omega) e0⟩ ⟨T2, x2, keepA _ (by omega) e2⟩ HH.out).mono ?_
    rintro e w2 ⟨⟨T, x, rfl⟩, m, rfl⟩
    go_wp2
    go_ret2
    exact ⟨rfl, below_drewN (hbb.alloc (by omega) _) _⟩
  · have hO' : okB N zs = false := by simpa using hO
    have HO : Hid (okB N zs = false) := hO'
    clear hO hO' h
    go_enter Tryd.func14, Tryd.ntmps14
    go_wp2_with fail
    refine (implOk_any a cap zs _ _ (hb.below hw (Nat.le_refl _)) hl).mono ?_
    rintro e w1 ⟨rfl, hb1⟩
    rw [HO.out]
    have hbb := hw.trans (hb1.mono (by simp))
    clear hb1
    go_wp2
    go_ret2
    exact ⟨rfl, hbb⟩

set_option maxHeartbeats 1600000 in
theorem implBack_yes (a : Option Addr) (cap : Nat) (zs : List Int) (N p width : Int) (w : World) (hb : Byt w a zs) (hO : okB N zs = true) (h1 : 0 ≤ width) (h2 : width ≤ 30) (h0 : width ≤ p) (h3 : p ≤ N) :
    Calls Tryd.prog 14 #[.agg #[.slice a zs.length cap, .int .i64 N], .int .i64 p, .int .i64 width] w fun e w' =>
      e = .returned (.tuple #[.int .i64 (val zs / 2 ^ (p - width).toNat % 2 ^ width.toNat : Nat), .int .i64 (p - width)]) ∧ Below w.heap.size w w' := by
  have hw : Below w.heap.size w (w.alloc (Obj.cells #[Value.slice a zs.length cap, Value.int IntKind.i64 N] 24)) := (Below.refl _ _).alloc (Nat.le_refl _) _
  obtain ⟨n, rfl, hn1, he, hv⟩ := okB_enc hO hb.1
  have hl : zs.length ≤ 281474976710656 := by rw [he, enc_len]; omega
  have HO : Hid (okB (n : Int) zs = true) := hO
  have HE : Hid (zs = enc n (val zs)) := he
  clear hO he hv
  generalize hV : val zs = V at *
  clear hV
  go_enter Tryd.func14, Tryd.ntmps14
  go_wp2_with fail
  refine (implOk_any a cap zs _ _ (hb.below hw (Nat.le_refl _)) hl).mono ?_
  rintro e w1 ⟨rfl, hb1⟩
  rw [HO.out]
  have q0 : w1.cell? ⟨w.heap.size, 0, none⟩ = some (.slice a zs.length cap) := keep hb1 (by simp) (by simp)
  have q1 : w1.cell? ⟨w.heap.size, 1, none⟩ = some (.int .i64 n) := keep hb1 (by simp) (by simp)
  have z1 := hb1.size
  simp at z1
  have hbb := hw.trans (hb1.mono (by simp))
  clear hb1
  go_wp2_with fail
  refine (back_yes w1.heap.size a cap zs n V p width _ (by omega) (fun m x => hb.below (Below.setCell (below_drewN (hbb.alloc (by omega) _) m) (by simp; omega) x) (Nat.le_refl _)) HE.out (by simp) (by simp) (by simp) (by simp) h1 h2 h3 h0).mono ?_
  rintro e w2 ⟨rfl, m, rfl⟩
  go_wp2
  go_quiet (fail)
  go_wp2
  go_ret2
  exact ⟨rfl, below_drewN (Below.setCell (below_drewN (hbb.alloc (by omega) _) _) (by simp; omega) _) _⟩

end Go.Proofs.YtpknhljdnmondaaDoor
