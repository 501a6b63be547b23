/-
  The program's reader from behind: back.
-/
import Derived.Test.YtmhpgkfaihcmeaaDoorReader
namespace Go.Proofs.YtmhpgkfaihcmeaaDoor
open Go.RowKit
set_option linter.unusedVariables false

set_option maxHeartbeats 1600000 in
theorem back_no (R : Nat) (a : Option Addr) (cap : Nat) (zs : List Int) (n : Nat) (p width : Int) (w : World) (hn : n ≤ 4104) (pb : p ≤ 9223372036854775807)
    (c0 : w.cell? ⟨R, 0, none⟩ = some (.slice a zs.length cap)) (c1 : w.cell? ⟨R, 1, none⟩ = some (.int .i64 n)) (c2 : w.cell? ⟨R, 2, none⟩ = some (.int .i64 p))
    (s0 : Sent w 3) (s2 : Sent w 5)
    (h : width < 0 ∨ 30 < width ∨ (n : Int) < p ∨ p < width) :
    Calls Tryd.prog 60 #[.pointer (some ⟨R, 0, none⟩), .int .i64 width] w fun e w' => (∃ T x, e = .returned (.tuple #[.int .i64 0, .iface T x])) ∧ ∃ m, w' = w.drewN m := by
  obtain ⟨T0, x0, g0⟩ := s0
  obtain ⟨T2, x2, g2⟩ := s2
  have key : (width < 0 ∨ 30 < width) ∨ (0 ≤ width ∧ width ≤ 30 ∧ (n : Int) < p) ∨ (0 ≤ width ∧ width ≤ 30 ∧ p ≤ (n : Int) ∧ p < width) := by omega
  clear h
  rcases key with hh | ⟨k1, k2, k3⟩ | ⟨k1, k2, k3, k4⟩
  · have hd : Hid (decide (0 ≤ width ∧ width ≤ 30) = false) := by simp [Hid]; omega
    go_enter Tryd.func60, Tryd.ntmps60
    go_wp2_with fail
    refine (widthOk_any width _).mono ?_
    rintro e w1 ⟨rfl, rfl⟩
    rw [hd.out]
    go_wp2_with fail
    go_quiet (fail)
    go_wp2
    go_ret2
    exact ⟨⟨_, _, rfl⟩, _, rfl⟩
  · have hd : Hid (decide (0 ≤ width ∧ width ≤ 30) = true) := by simp [Hid]; omega
    have hp : decide ((n : Int) < p) = true := by simpa using k3
    go_enter Tryd.func60, Tryd.ntmps60
    go_wp2_with fail
    refine (widthOk_any width _).mono ?_
    rintro e w1 ⟨rfl, rfl⟩
    rw [hd.out]
    go_wp2_with fail
    go_quiet (fail)
    go_wp2
    go_quiet (fail)
    go_wp2
    go_ret2
    exact ⟨⟨_, _, rfl⟩, _, World.drewN_drewN ..⟩
  · have hd : Hid (decide (0 ≤ width ∧ width ≤ 30) = true) := by simp [Hid]; omega
    have hp : decide ((n : Int) < p) = false := by simpa using k3
    go_enter Tryd.func60, Tryd.ntmps60
    go_wp2_with fail
    refine (widthOk_any width _).mono ?_
    rintro e w1 ⟨rfl, rfl⟩
    rw [hd.out]
    go_wp2_with fail
    go_quiet (fail)
    go_wp2
    go_quiet (fail)
    go_wp2
    go_ret2
    exact ⟨⟨_, _, rfl⟩, _, World.drewN_drewN ..⟩

set_option maxHeartbeats 1600000 in
theorem back_yes (R : Nat) (a : Option Addr) (cap : Nat) (zs : List Int) (n v : Nat) (p width : Int) (w : World) (hn : n ≤ 4104) (hb : ∀ m x, Byt ((w.drewN m).setCell ⟨R, 2, none⟩ x) a zs) (hz : zs = enc n v)
    (c0 : w.cell? ⟨R, 0, none⟩ = some (.slice a zs.length cap)) (c1 : w.cell? ⟨R, 1, none⟩ = some (.int .i64 n)) (c2 : w.cell? ⟨R, 2, none⟩ = some (.int .i64 p)) (f2 : w.frozen? ⟨R, 2, none⟩ = false)
    (k1 : 0 ≤ width) (k2 : width ≤ 30) (k3 : p ≤ (n : Int)) (k4 : width ≤ p) :
    Calls Tryd.prog 60 #[.pointer (some ⟨R, 0, none⟩), .int .i64 width] w fun e w' =>
      e = .returned (.tuple #[.int .i64 (v / 2 ^ (p - width).toNat % 2 ^ width.toNat : Nat), .nilIface]) ∧ ∃ m, w' = (w.drewN m).setCell ⟨R, 2, none⟩ (.int .i64 (p - width)) := by
  have hd : Hid (decide (0 ≤ width ∧ width ≤ 30) = true) := by simp [Hid]; omega
  have hp : decide ((n : Int) < p) = false := by simpa using k3
  have HZ : Hid (zs = enc n v) := hz
  clear hz
  go_enter Tryd.func60, Tryd.ntmps60
  go_wp2_with fail
  refine (widthOk_any width _).mono ?_
  rintro e w1 ⟨rfl, rfl⟩
  rw [hd.out]
  go_wp2_with fail
  go_quiet (fail)
  go_wp2_with fail
  refine (number_any R a cap zs n p (p - width) width n v _ (hb _ _) HZ.out hn (by rw [World.cell?_setCell_other _ _ _ _ (by simp)]; exact c0) (by omega) k1 k2 (by omega)).mono ?_
  rintro e w2 ⟨rfl, rfl⟩
  go_wp2
  go_ret2
  exact ⟨rfl, _, rfl⟩


end Go.Proofs.YtmhpgkfaihcmeaaDoor
