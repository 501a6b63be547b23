/-
  Getting bits: what l1get and BitsGet of the model answer.
-/
import Derived.Test.YtjeippleimlljaaGreatDoorCodes1
namespace Go.Proofs.YtjeippleimlljaaGreatDoor
open Go.RowKit
set_option linter.unusedVariables false

set_option maxHeartbeats 800000 in
theorem l1get_any (a : Option Addr) (cap : Nat) (zs : List Int) (N p width : Int) (n v : Nat) (w : World) (hb : Byt w a zs) (hz : zs = enc n v) (hn : n ≤ 4104) (h0 : 0 ≤ p) (h1 : 0 ≤ width) (h2 : width ≤ 30) (h3 : p + width ≤ n) :
    Calls Tryz.prog 44 #[.agg #[.slice a zs.length cap, .int .i64 N], .int .i64 p, .int .i64 width] w fun e w' => e = .returned (.int .i64 (v / 2 ^ p.toNat % 2 ^ width.toNat : Nat)) ∧ Below w.heap.size w w' := by
  have hw : Below w.heap.size w (w.alloc (Obj.cells #[Value.slice a zs.length cap, Value.int IntKind.i64 N] 61)) := (Below.refl _ _).alloc (Nat.le_refl _) _
  obtain ⟨q, rfl⟩ := Int.eq_ofNat_of_zero_le h0
  obtain ⟨m, rfl⟩ := Int.eq_ofNat_of_zero_le h1
  simp only [Int.toNat_natCast] at *
  have HZ : Hid (zs = enc n v) := hz
  have hlen : zs.length = (n + 7) / 8 := by rw [hz, enc_len]
  have HL : Hid (zs.length = (n + 7) / 8) := hlen
  clear hz hlen
  go_enter Tryz.func44, Tryz.ntmps44
  go_wp2
  go_loopw [7, 8] (fun x i wr => ∃ j : Nat, j ≤ m ∧ i = .int .i64 ((j : Int) - 1) ∧ x = .int .i64 (v / 2 ^ (q + j) % 2 ^ (m - j) : Nat) ∧ Below w.heap.size w wr ∧ w.heap.size < wr.heap.size ∧
      wr.cell? ⟨w.heap.size, 0, none⟩ = some (.slice a zs.length cap) ∧ wr.cell? ⟨w.heap.size, 1, none⟩ = some (.int .i64 N)) (fun _ i _ => (intOf i + 1).toNat)
  case atStart => exact ⟨m, Nat.le_refl _, rfl, by simp [Nat.mod_one], hw, by simp, by simp, by simp⟩
  case round =>
    obtain ⟨j, hj, rfl, rfl, hbel, hsz, p0, p1⟩ := hrel
    by_cases hlt : 0 < j
    · obtain ⟨j', rfl⟩ : ∃ j', j = j' + 1 := ⟨j - 1, by omega⟩
      have hx : v / 2 ^ (q + (j' + 1)) % 2 ^ (m - (j' + 1)) < 2 ^ 30 := Nat.lt_of_lt_of_le (Nat.mod_lt _ (Nat.pow_pos (by omega))) (Nat.pow_le_pow_right (by omega) (by omega))
      have hge : (0 : Int) ≤ ((j' + 1 : Nat) : Int) - 1 := by omega
      have HX : Hid (v / 2 ^ (q + j') % 2 ^ (m - j') = 2 * (v / 2 ^ (q + (j' + 1)) % 2 ^ (m - (j' + 1))) + v / 2 ^ (q + j') % 2) := by
        have := get_down v (q + j') (m - (j' + 1))
        rw [show m - (j' + 1) + 1 = m - j' from by omega] at this
        rw [Nat.add_assoc] at this
        exact this
      generalize v / 2 ^ (q + (j' + 1)) % 2 ^ (m - (j' + 1)) = X at *
      have HB : Hid (bitAt zs ((q : Int) + (j' : Int)).toNat = v / 2 ^ (q + j') % 2) := by
        have := enc_bit n v (q + j') (by omega)
        rw [← HZ.out] at this
        rw [show ((q : Int) + (j' : Int)).toNat = q + j' from by omega]
        exact this
      have hbit : v / 2 ^ (q + j') % 2 < 2 := Nat.mod_lt _ (by omega)
      generalize v / 2 ^ (q + j') % 2 = bt at *
      go_wp2_with fail
      refine (l1bit_any a cap zs N _ _ (hb.below hbel (Nat.le_refl _)) (by omega) (by have := HL.out; omega) (by omega)).mono ?_
      rintro e w1 ⟨rfl, hb1⟩
      rw [HB.out]
      have z1 := hb1.size
      have q0 := keep hb1 hsz p0
      have q1 := keep hb1 hsz p1
      have hbel1 := hbel.trans (hb1.mono (Nat.le_of_lt hsz))
      clear p0 p1 hb1 hbel hw
      go_wp2
      go_roundw
      case rel => exact ⟨j', by omega, by go_num, by rw [HX.out]; go_num, hbel1, by omega, q0, q1⟩
      case measure => simp [intOf]
    · have hj0 : j = 0 := by omega
      subst hj0
      go_wp2
      go_ret
      exact ⟨ret_int (by simp), hbel⟩
end Go.Proofs.YtjeippleimlljaaGreatDoor
