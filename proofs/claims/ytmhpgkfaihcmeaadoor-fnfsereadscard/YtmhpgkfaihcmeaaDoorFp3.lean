/-
  l3from of the model.
-/
import Derived.Test.YtmhpgkfaihcmeaaDoorFp2
namespace Go.Proofs.YtmhpgkfaihcmeaaDoor
open Go.RowKit
set_option linter.unusedVariables false

theorem powP (b : Nat) (h : b ≤ 6) : ∃ Pw : Nat, Pw = 2 ^ b ∧ wrap64 (2 ^ b) = (Pw : Int) ∧ Pw ≤ 64 ∧ (0 : Int) ≤ wrap64 (2 ^ b) ∧ wrap64 (2 ^ b) ≤ 64 := by
  obtain ⟨h1, h2, h3⟩ := pow6 b h
  exact ⟨2 ^ b, rfl, h1, h2, by omega, by omega⟩
theorem in_cell {z p Pw : Nat} {u : Int} (hu : u = (Pw : Int)) (h : p < z + Pw) : (p : Int) < (z : Int) + u := by omega
theorem out_cell {z p Pw : Nat} {u : Int} (hu : u = (Pw : Int)) (h : ¬ p < z + Pw) : ¬ (p : Int) < (z : Int) + u := by omega

set_option maxRecDepth 20000 in
set_option maxHeartbeats 4000000 in
theorem l3from_any (a : Option Addr) (c : Nat) (T : List Int) (L : Nat) (s : Int) (p q : Nat) (w : World) (ha : Ins w a T) (hT : Gd T L) (hF : First T s p q) (hp : p < 64) :
    Calls Tryd.prog 62 #[.slice a 64 c, .int .i64 s, .int .i64 p] w fun e w' => e = .returned (.tuple #[.int .i64 (q : Nat), .int .i64 (cB T q : Nat)]) ∧ Below w.heap.size w w' := by
  have HA : Hid (Ins w a T) := ha
  have HT : Hid (Gd T L) := hT
  have HF : Hid (First T s p q) := hF
  have hq64 := hF.1
  clear ha hT hF
  go_enter Tryd.func62, Tryd.ntmps62
  go_wp2
  go_loopw [8] (fun i wr => ∃ k : Nat, k ≤ q ∧ i = .int .i64 k ∧ Below w.heap.size w wr) (fun i _ => 64 - (intOf i).toNat)
  case atStart => exact ⟨0, Nat.zero_le _, rfl, Below.refl _ _⟩
  case round =>
    obtain ⟨k, hk, rfl, hbel⟩ := hrel
    have HBL : Hid (Below w.heap.size w wr ∧ w.heap.size ≤ wr.heap.size) := ⟨hbel, hbel.size⟩
    obtain ⟨sy, b, z, e1, e2, e3, hsy, hb6, hz64⟩ := HT.out.cell k (by omega)
    obtain ⟨gT, oT, rfl, hgT, hcT⟩ := (HA.out.below hbel (Nat.le_refl _)).len_pos (k * 3) (by rw [HT.out.len]; omega)
    have t0 := hcT (k * 3) (by rw [HT.out.len]; omega)
    have t1 := hcT (k * 3 + 1) (by rw [HT.out.len]; omega)
    have t2 := hcT (k * 3 + 2) (by rw [HT.out.len]; omega)
    rw [e1] at t0
    rw [e2, ← Nat.add_assoc] at t1
    rw [e3, ← Nat.add_assoc] at t2
    have HCB : Hid (cB T k = b ∧ cZ T k = z ∧ T.getD (k * 3) 0 = (sy : Int)) := ⟨by unfold cB; rw [e2, Int.toNat_natCast], by unfold cZ; rw [e3, Int.toNat_natCast], e1⟩
    have hz63 : (z : Int) ≤ 64 := Int.ofNat_le.2 (Nat.le_trans (Nat.le_add_right z (2 ^ b)) hz64)
    have hk63 : (k : Int) < 64 := by omega
    obtain ⟨Pw, hPw, ew, ep1, hp0, hp1⟩ := powP b hb6
    rw [← hPw] at hz64
    have HEW : Hid (wrap64 (2 ^ b) = (Pw : Int) ∧ Pw = 2 ^ b) := ⟨ew, hPw⟩
    have HBA : Hid (Below w.heap.size w (wr.alloc (Obj.cells #[Value.int .i64 sy, Value.int .i64 b, Value.int .i64 z] 81)) ∧ True) := ⟨hbel.alloc HBL.out.2 _, trivial⟩
    clear hcT e1 e2 e3 ew ep1 hPw hz64 hbel
    by_cases hkq : k = q
    · subst hkq
      have hh := HF.out.2.1
      unfold hit at hh
      rw [HCB.out.1, HCB.out.2.1, HCB.out.2.2, ← HEW.out.2] at hh
      obtain ⟨g1, g2, g3⟩ := hh
      subst g1
      have h0 : ((sy : Int) == (sy : Int)) = true := by simp
      have h1i : (z : Int) ≤ (p : Int) := by omega
      have h2i : (p : Int) < (z : Int) + wrap64 (2 ^ b) := in_cell HEW.out.1 g3
      clear g2 g3
      go_wp2_with fail
      go_quiet (fail)
      go_wp2
      go_quiet (fail)
      go_wp2
      go_ret2
      refine ⟨?_, below_dP (below_dP HBA.out.1 _) _⟩
      rw [HCB.out.1]
      rfl
    · have hnh := HF.out.2.2 k (by omega)
      unfold hit at hnh
      rw [HCB.out.1, HCB.out.2.1, HCB.out.2.2, ← HEW.out.2] at hnh
      by_cases g1 : (sy : Int) = s
      · subst g1
        have h0 : ((sy : Int) == (sy : Int)) = true := by simp
        by_cases g2 : z ≤ p
        · have h1i : (z : Int) ≤ (p : Int) := by omega
          have h2i : ¬ (p : Int) < (z : Int) + wrap64 (2 ^ b) := out_cell HEW.out.1 (fun h => hnh ⟨rfl, g2, h⟩)
          have h2j : decide ((p : Int) < (z : Int) + wrap64 (2 ^ b)) = false := decide_eq_false h2i
          clear hnh g2
          go_wp2_with fail
          go_quiet (fail)
          go_wp2
          go_roundw
          case rel => exact ⟨k + 1, by omega, by go_num, below_dP HBA.out.1 _⟩
          case measure => simp [intOf]; omega
        · have h1j : decide (z ≤ p) = false := decide_eq_false (by omega)
          clear hnh g2
          go_wp2_with fail
          go_quiet (fail)
          go_wp2
          go_roundw
          case rel => exact ⟨k + 1, by omega, by go_num, below_dP HBA.out.1 _⟩
          case measure => simp [intOf]; omega
      · have h0 : ((sy : Int) == s) = false := by simpa using g1
        clear hnh g1
        go_wp2_with fail
        go_quiet (fail)
        go_wp2
        go_roundw
        case rel => exact ⟨k + 1, by omega, by go_num, below_dP HBA.out.1 _⟩
        case measure => simp [intOf]; omega

end Go.Proofs.YtmhpgkfaihcmeaaDoor
