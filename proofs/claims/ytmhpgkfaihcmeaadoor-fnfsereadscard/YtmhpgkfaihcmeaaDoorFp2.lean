/-
  The cell by which a place is come to: l3from of the model, placeFor of the program.
-/
import Derived.Test.YtmhpgkfaihcmeaaDoorOps
import Derived.Test.YtmhpgkfaihcmeaaDoorTb4
import Derived.Test.YtmhpgkfaihcmeaaDoorPut3
namespace Go.Proofs.YtmhpgkfaihcmeaaDoor
open Go.RowKit
set_option linter.unusedVariables false

theorem below_dP {B : Nat} {a b : World} (h : Below B a b) (n : Nat) : Below B a (b.drewN n) := ⟨h.os, h.tape, h.output, h.size, h.block⟩
theorem pow6 (b : Nat) (h : b ≤ 6) : wrap64 (2 ^ b) = ((2 ^ b : Nat) : Int) ∧ 2 ^ b ≤ 64 ∧ 1 ≤ 2 ^ b := by
  have h1 : 2 ^ b ≤ 2 ^ 6 := Nat.pow_le_pow_right (by omega) h
  have h2 : 0 < 2 ^ b := Nat.pow_pos (by omega)
  have e : ((2 : Int) ^ b) = ((2 ^ b : Nat) : Int) := by simp
  refine ⟨?_, h1, h2⟩
  rw [e]
  exact IntWalk.wrap64_in _ (by omega)

set_option maxHeartbeats 2000000 in
theorem has_any (sy : Int) (b z p : Nat) (w : World) (hb : b ≤ 6) (hz : z ≤ 64) (hp : p ≤ 64) :
    Calls Tryd.prog 55 #[.agg #[.int .i64 sy, .int .i64 b, .int .i64 z], .int .i64 p] w fun e w' => e = .returned (.bool (decide (z ≤ p ∧ p < z + 2 ^ b))) ∧ Below w.heap.size w w' := by
  have hw : Below w.heap.size w (w.alloc (Obj.cells #[Value.int IntKind.i64 sy, Value.int IntKind.i64 b, Value.int IntKind.i64 z] 81)) := (Below.refl _ _).alloc (Nat.le_refl _) _
  obtain ⟨e1, e2, e3⟩ := pow6 b hb
  have HP : Hid (wrap64 (2 ^ b) = ((2 ^ b : Nat) : Int) ∧ 2 ^ b ≤ 64) := ⟨e1, e2⟩
  have hpw : (0 : Int) ≤ wrap64 (2 ^ b) ∧ wrap64 (2 ^ b) ≤ 64 := by omega
  obtain ⟨hp0, hp1⟩ := hpw
  have HW : Hid (Below w.heap.size w (w.alloc (Obj.cells #[Value.int IntKind.i64 sy, Value.int IntKind.i64 b, Value.int IntKind.i64 z] 81)) ∧ True) := ⟨hw, trivial⟩
  clear hw
  by_cases h1 : z ≤ p
  · by_cases h2 : p < z + 2 ^ b
    · have HD : Hid (decide (z ≤ p ∧ p < z + 2 ^ b) = true ∧ True) := ⟨by simp; omega, trivial⟩
      have h1i : (z : Int) ≤ (p : Int) := by omega
      have h2i : (p : Int) < (z : Int) + wrap64 (2 ^ b) := by rw [e1]; omega
      clear e1 e2 e3 h1 h2
      go_enter Tryd.func55, Tryd.ntmps55
      go_wp2_with fail
      go_quiet (fail)
      go_wp2
      go_ret
      exact ⟨by rw [HD.out.1]; rfl, below_dP HW.out.1 _⟩
    · have HD : Hid (decide (z ≤ p ∧ p < z + 2 ^ b) = false ∧ True) := ⟨by simp; omega, trivial⟩
      have h1i : (z : Int) ≤ (p : Int) := by omega
      have h2i : ¬ (p : Int) < (z : Int) + wrap64 (2 ^ b) := by rw [e1]; omega
      have h2j : decide ((p : Int) < (z : Int) + wrap64 (2 ^ b)) = false := decide_eq_false h2i
      clear e1 e2 e3 h1 h2
      go_enter Tryd.func55, Tryd.ntmps55
      go_wp2_with fail
      go_quiet (fail)
      go_wp2
      go_ret
      exact ⟨by rw [HD.out.1]; rfl, below_dP HW.out.1 _⟩
  · have HD : Hid (decide (z ≤ p ∧ p < z + 2 ^ b) = false ∧ True) := ⟨by simp; omega, trivial⟩
    have h1j : decide (z ≤ p) = false := decide_eq_false (by omega)
    clear e1 e2 e3 h1
    go_enter Tryd.func55, Tryd.ntmps55
    go_wp2_with fail
    go_quiet (fail)
    go_wp2
    go_ret
    exact ⟨by rw [HD.out.1]; rfl, below_dP HW.out.1 _⟩

end Go.Proofs.YtmhpgkfaihcmeaaDoor
