/-
  The program's reader at R, from block B on; what a get makes of it.
-/
import Derived.Test.YtecmnbdnnlifhaaDoorReader
import Derived.Test.YtecmnbdnnlifhaaDoorOnly
namespace Go.Proofs.YtecmnbdnnlifhaaDoor
open Go.RowKit
set_option linter.unusedVariables false

def RD (w : World) (B R : Nat) (a : Option Addr) (L cap n p : Nat) : Prop := w.heap[R]? = some (.cells #[.slice a L cap, .int .i64 n, .int .i64 p] 85 (0, 0)) ∧ B ≤ R ∧ B ≤ w.heap.size

theorem cellRR {w : World} {R j : Nat} {cur : Array Value} {T : TypeId} {v : Value} (hR : w.heap[R]? = some (.cells cur T (0, 0))) (hv : cur[j]? = some v) : w.cell? ⟨R, j, none⟩ = some v := by
  rw [cell_of_row w R j cur T (0, 0) hR]; exact hv
theorem RD.frz {w : World} {B R : Nat} {a : Option Addr} {L cap n p : Nat} (h : RD w B R a L cap n p) (j : Nat) : w.frozen? ⟨R, j, none⟩ = false := frozen_of_row w R j _ _ h.1

theorem RD.yes {w : World} {B R : Nat} {a : Option Addr} {zs : List Int} {cap n p : Nat} (h : RD w B R a zs.length cap n p) (v : Nat) (width : Int) (hn : n ≤ 4104) (hb : Byt w a zs) (hz : zs = enc n v) (k1 : 0 ≤ width) (k2 : width ≤ 30) (k4 : (p : Int) ≤ (n : Int) - width) :
    Calls Tryd.prog 64 #[.pointer (some ⟨R, 0, none⟩), .int .i64 width] w fun e w' =>
      e = .returned (.tuple #[.int .i64 (v / 2 ^ p % 2 ^ width.toNat : Nat), .nilIface]) ∧ RD w' B R a zs.length cap n (p + width.toNat) ∧ Only (fun k => k = R) w w' ∧ Below B w w' := by
  refine (get_yes R a cap zs n v p width w hn hb hz (cellRR (j := 0) h.1 rfl) (cellRR (j := 1) h.1 rfl) (cellRR (j := 2) h.1 rfl) (h.frz 2) k1 k2 (by omega) k4).mono ?_
  rintro e w' ⟨rfl, m, rfl⟩
  have hR : (w.drewN m).heap[R]? = some (.cells #[.slice a zs.length cap, .int .i64 n, .int .i64 p] 85 (0, 0)) := h.1
  have hO : Only (fun k => k = R) w ((w.drewN m).setCell ⟨R, 2, none⟩ (.int .i64 ((p : Int) + width))) := by
    have h0 : Only (fun k => k = R) w (w.drewN m) := Only.ofBelow (S := fun k => k = R) (B := w.heap.size) ⟨rfl, rfl, rfl, Nat.le_refl _, fun _ _ => rfl⟩ (Nat.le_refl _)
    exact Only.setCell h0 (p := ⟨R, 2, none⟩) (.inl rfl) _
  refine ⟨by simp, ⟨?_, h.2.1, Nat.le_trans h.2.2 hO.size⟩, hO, hO.below h.2.2 (fun k hk => by rw [hk]; exact h.2.1)⟩
  rw [heap_setCell_same _ R 2 _ _ _ hR]
  have e : ((p : Int) + width) = ((p + width.toNat : Nat) : Int) := by omega
  rw [e]
  simp

theorem RD.no {w : World} {B R : Nat} {a : Option Addr} {zs : List Int} {cap n p : Nat} (h : RD w B R a zs.length cap n p) (width : Int) (hn : n ≤ 4104) (hp : p ≤ 4104) (s0 : Sent w 2) (s2 : Sent w 5) (k4 : width < 0 ∨ 30 < width ∨ (n : Int) - width < p) :
    Calls Tryd.prog 64 #[.pointer (some ⟨R, 0, none⟩), .int .i64 width] w fun e w' => (∃ T x, e = .returned (.tuple #[.int .i64 0, .iface T x])) ∧ ∃ m, w' = w.drewN m :=
  get_no R a cap zs n p width w hn (by omega) (cellRR (j := 0) h.1 rfl) (cellRR (j := 1) h.1 rfl) (cellRR (j := 2) h.1 rfl) s0 s2 (by omega)
theorem RD.only {w w' : World} {B R : Nat} {a : Option Addr} {L cap n p : Nat} {S : Nat → Prop} (h : RD w B R a L cap n p) (ho : Only S w w') (hs : ¬ S R) : RD w' B R a L cap n p :=
  ⟨(ho.block R (Array.getElem?_eq_some_iff.1 h.1).1 hs).trans h.1, h.2.1, Nat.le_trans h.2.2 ho.size⟩
end Go.Proofs.YtecmnbdnnlifhaaDoor
