/-
  math/bits.Reverse16.
-/
import Derived.Test.YtiiaffkhnahofaaDoorRev1
import Derived.Laws.BitsAllLaws
import Derived.BigQuiet
namespace Go.Proofs.YtiiaffkhnahofaaDoor
open Go.RowKit
set_option linter.unusedVariables false

theorem u16_and (a : Nat) (h : a < 65536) : bits .and .u16 (a : Int) 255 = ((a % 256 : Nat) : Int) := by
  have e : bits .and .u16 (a : Int) 255 = IntKind.u16.wrap ((BitVec.ofInt 16 (a : Int) &&& BitVec.ofInt 16 255).toNat : Int) := rfl
  rw [e, BitVec.toNat_and]
  have e1 : (BitVec.ofInt 16 (a : Int)).toNat = a := by rw [BitVec.ofInt_natCast, BitVec.toNat_ofNat]; exact Nat.mod_eq_of_lt (by omega)
  have e2 : (BitVec.ofInt 16 255).toNat = 2 ^ 8 - 1 := by decide
  rw [e1, e2, Nat.and_two_pow_sub_one_eq_mod]
  exact IntWalk.u16_in _ (by omega)
theorem u16_or (a b : Nat) (ha : a < 256) (hb : b < 256) : bits .or .u16 (a : Int) ((b * 256 : Nat) : Int) = ((a + 256 * b : Nat) : Int) := by
  have e : bits .or .u16 (a : Int) ((b * 256 : Nat) : Int) = IntKind.u16.wrap ((BitVec.ofInt 16 (a : Int) ||| BitVec.ofInt 16 ((b * 256 : Nat) : Int)).toNat : Int) := rfl
  rw [e, BitVec.toNat_or]
  have e1 : (BitVec.ofInt 16 (a : Int)).toNat = a := by rw [BitVec.ofInt_natCast, BitVec.toNat_ofNat]; exact Nat.mod_eq_of_lt (by omega)
  have e2 : (BitVec.ofInt 16 ((b * 256 : Nat) : Int)).toNat = b * 256 := by rw [BitVec.ofInt_natCast, BitVec.toNat_ofNat]; exact Nat.mod_eq_of_lt (by omega)
  have e3 : a ||| b * 256 = a + 256 * b := by
    rw [Nat.or_comm, Nat.mul_comm, show 256 = 2 ^ 8 from rfl, ← Nat.two_pow_add_eq_or_of_lt (by omega)]
    omega
  rw [e1, e2, e3]
  exact IntWalk.u16_in _ (by omega)

set_option maxRecDepth 100000 in
set_option maxHeartbeats 3200000 in
theorem rev16_any (y z : Nat) (w : World) (hy : y < 256) (hz : z < 256) :
    Calls Tryd.prog 77 #[.int .u16 ((y * 256 + z : Nat) : Int)] w fun e w' => e = .returned (.int .u16 ((rvp y 8 8 + 256 * rvp z 8 8 : Nat) : Int)) ∧ ∃ m, w' = w.drewN m := by
  have h1 : bits .and .u16 ((y * 256 + z : Nat) : Int) 255 = ((z : Nat) : Int) := by
    rw [u16_and _ (by omega)]
    congr 1
    omega
  have h2 : (((y * 256 + z : Nat) : Int)) / 256 = ((y : Nat) : Int) := by omega
  have hyI : (y : Int) < 256 := by omega
  have hzI : (z : Int) < 256 := by omega
  generalize ((y * 256 + z : Nat) : Int) = x at *
  go_enter Tryd.func77, Tryd.ntmps77
  go_wp2
  go_quiet (fail)
  go_wp2
  go_ret
  refine ⟨ret_int ?_, _, rfl⟩
  have e : ∀ (n : Nat) (S : ByteArray) (h : n < S.size), S[n] = S.data.toList.getD n 0 := by
    intro n S h
    have h' : n < S.data.toList.length := by simpa using h
    rw [List.getD_eq_getElem?_getD, List.getElem?_eq_getElem h']
    rfl
  rw [e y, e z]
  clear e h1 h2 hyI hzI
  have H : ∀ (L : List UInt8), (∀ n : Nat, n < 256 → (L.getD n 0).toNat = rvp n 8 8) → bits .or .u16 (IntKind.u16.wrap ((L.getD y 0).toNat : Int)) (IntKind.u16.wrap (IntKind.u16.wrap ((L.getD z 0).toNat : Int) * 256)) = ((rvp y 8 8 + 256 * rvp z 8 8 : Nat) : Int) := by
    intro L hL
    rw [hL y hy, hL z hz]
    have r1 : rvp y 8 8 < 256 := rvp_lt y 8 8
    have r2 : rvp z 8 8 < 256 := rvp_lt z 8 8
    generalize rvp y 8 8 = p at *
    generalize rvp z 8 8 = q at *
    rw [IntWalk.u16_in (p : Int) (by omega), IntWalk.u16_in (q : Int) (by omega), IntWalk.u16_in ((q : Int) * 256) (by omega), show ((q : Int) * 256) = ((q * 256 : Nat) : Int) from by simp]
    exact u16_or p q r1 r2
  exact H _ (by decide +kernel)

set_option maxHeartbeats 800000 in
theorem rev16_rvp (c : Nat) (w : World) (h : c < 65536) :
    Calls Tryd.prog 77 #[.int .u16 (c : Int)] w fun e w' => e = .returned (.int .u16 ((rvp c 16 16 : Nat) : Int)) ∧ ∃ m, w' = w.drewN m := by
  have := rev16_any (c / 256) (c % 256) w (by omega) (by omega)
  rw [show c / 256 * 256 + c % 256 = c from by omega, ← rvp_16 c] at this
  exact this
end Go.Proofs.YtiiaffkhnahofaaDoor
