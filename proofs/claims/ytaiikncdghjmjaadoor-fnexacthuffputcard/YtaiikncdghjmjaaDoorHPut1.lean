/-
  The program's putCode; what a text comes to.
-/
import Derived.Test.YtaiikncdghjmjaaDoorRev2
import Derived.Test.YtaiikncdghjmjaaDoorWri
import Derived.Test.YtaiikncdghjmjaaDoorCodes1
namespace Go.Proofs.YtaiikncdghjmjaaDoor
open Go.RowKit
set_option linter.unusedVariables false

theorem below_dH {B : Nat} {a b : World} (h : Below B a b) (n : Nat) : Below B a (b.drewN n) := ⟨h.os, h.tape, h.output, h.size, h.block⟩
theorem turned (c L : Nat) (h : L ≤ 12) : rvp (c % 65536) 16 16 / 2 ^ (16 - L) = rvp c L L := by
  rw [rvp_shift _ L (by omega), show 65536 = 2 ^ 16 from rfl, rvp_mod c L 16 (by omega)]

set_option maxHeartbeats 1600000 in
theorem putCode_yes (w : World) (B R n V c L : Nat) (h : WI w B R n V) (h1 : 1 ≤ L) (h2 : L ≤ 12) (hc : c ≤ 8192000) (hn : n + L ≤ 4096) :
    Calls Tryd.prog 44 #[.pointer (some ⟨R, 0, none⟩), .int .i64 (c : Nat), .int .i64 (L : Nat)] w fun e w' => e = .returned .nilIface ∧ WI w' B R (n + L) (V + rvp c L L * 2 ^ n) ∧ Below B w w' := by
  have H : Hid (WI w B R n V) := h
  have HT : Hid (rvp (c % 65536) 16 16 / 2 ^ (16 - L) = rvp c L L) := turned c L h2
  have hlt := rvp_lt (c % 65536) 16 16
  have hlt2 := rvp_lt c L L
  have e1 : IntKind.u16.wrap (c : Int) = ((c % 65536 : Nat) : Int) := by
    show (c : Int) % 65536 = _
    omega
  have hc16 : c % 65536 < 65536 := by omega
  clear h
  generalize c % 65536 = d at *
  go_enter Tryd.func44, Tryd.ntmps44
  go_wp2_with fail
  refine (rev16_rvp d w hc16).mono ?_
  rintro e w1 ⟨rfl, m1, rfl⟩
  generalize hr : rvp d 16 16 = r at *
  clear hr
  go_wp2_with fail
  have e2 : wrap64 ((r : Int) / 2 ^ (16 - L)) = ((rvp c L L : Nat) : Int) := by
    rw [show ((r : Int) / 2 ^ (16 - L)) = ((r / 2 ^ (16 - L) : Nat) : Int) from by simp, HT.out]
    have h12 : 2 ^ L ≤ 2 ^ 12 := Nat.pow_le_pow_right (by omega) h2
    exact IntWalk.wrap64_in _ (by omega)
  rw [e2]
  have hxw : ((rvp c L L : Nat) : Int) < 2 ^ ((L : Nat) : Int).toNat := by
    have e : ((2 : Int) ^ ((L : Nat) : Int).toNat) = ((2 ^ L : Nat) : Int) := by simp
    rw [e]
    omega
  refine ((H.out.drewN m1).put ((rvp c L L : Nat) : Int) ((L : Nat) : Int) (by omega) (by omega) (by omega) hxw (by omega) (by omega)).mono ?_
  rintro e w2 ⟨rfl, hw2, hb2⟩
  have HW2 : Hid (WI w2 B R (n + L) (V + rvp c L L * 2 ^ n)) := by simpa [Hid] using hw2
  have HB2 : Hid (Below B w w2) := (below_dH (Below.refl B w) m1).trans hb2
  clear hw2 hb2 hxw e2 HT
  go_wp2
  go_ret
  exact ⟨rfl, HW2.out, HB2.out⟩

/-- Bits and number of the first k symbols of a text. -/
def hN (ls ts : List Int) : Nat → Nat
  | 0 => 0
  | k + 1 => hN ls ts k + zN ls (ts.getD k 0)
def hV (ls cs ts : List Int) : Nat → Nat
  | 0 => 0
  | k + 1 => hV ls cs ts k + rvp (cs.getD (ts.getD k 0).toNat 0).toNat (zN ls (ts.getD k 0)) (zN ls (ts.getD k 0)) * 2 ^ hN ls ts k
theorem hN_le {ls ts : List Int} (h : ∀ z ∈ ls, 0 ≤ z ∧ z ≤ 12) (k : Nat) : hN ls ts k ≤ 12 * k := by
  induction k with
  | zero => simp [hN]
  | succ k ih =>
    have h1 : zN ls (ts.getD k 0) ≤ 12 := by
      unfold zN
      by_cases hi : (ts.getD k 0).toNat < ls.length
      · have := h _ (getD_mem hi); omega
      · rw [List.getD_eq_getElem?_getD, List.getElem?_eq_none (by omega)]; simp
    simp only [hN]
    omega
end Go.Proofs.YtaiikncdghjmjaaDoor
