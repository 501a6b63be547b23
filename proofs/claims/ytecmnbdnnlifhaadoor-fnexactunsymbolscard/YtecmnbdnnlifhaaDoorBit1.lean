/-
  What the model's l1bit answers.
-/
import Derived.Test.YtecmnbdnnlifhaaDoorOk2
import Derived.Test.YtecmnbdnnlifhaaDoorOps
namespace Go.Proofs.YtecmnbdnnlifhaaDoor
open Go.RowKit
set_option linter.unusedVariables false

/-- The bit at place p of some bytes. -/
def bitAt (zs : List Int) (p : Nat) : Nat := (zs.getD (p / 8) 0).toNat / 2 ^ (p % 8) % 2

set_option maxHeartbeats 400000 in
theorem l1bit_any (a : Option Addr) (cap : Nat) (zs : List Int) (N p : Int) (w : World) (hb : Byt w a zs) (h0 : 0 ≤ p) (h1 : p.toNat / 8 < zs.length) (hp : p ≤ 8388608) :
    Calls Tryd.prog 58 #[.agg #[.slice a zs.length cap, .int .i64 N], .int .i64 p] w fun e w' => e = .returned (.int .i64 (bitAt zs p.toNat : Nat)) ∧ Below w.heap.size w w' := by
  have hw : Below w.heap.size w (w.alloc (Obj.cells #[Value.slice a zs.length cap, Value.int IntKind.i64 N] 27)) := (Below.refl _ _).alloc (Nat.le_refl _) _
  obtain ⟨q, rfl⟩ := Int.eq_ofNat_of_zero_le h0
  simp only [Int.toNat_natCast] at *
  obtain ⟨b, off, rfl, hbl, hc⟩ := hb.len_pos (q / 8) h1
  have hs := hc (q / 8) h1
  have hr := getD_rng hb.1 (q / 8)
  have hlen : (q / 8 : Nat) < zs.length := h1
  generalize hz : zs.getD (q / 8) 0 = z at *
  have HZ : Hid (zs.getD (q / 8) 0 = z) := hz
  clear hz hc
  go_enter Tryd.func58, Tryd.ntmps58
  go_wp2
  go_ret
  exact ⟨ret_int (by unfold bitAt; rw [HZ.out]; exact bit64 z _ hr), hw⟩

end Go.Proofs.YtecmnbdnnlifhaaDoor
