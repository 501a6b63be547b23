/-
  The program's isTaken: who is at the sector of a place is looked through for one who has just it.
-/
import Derived.Test.YtnelpioadpdphaaMpA
import Derived.Test.YtnelpioadpdphaaMpG
import Derived.Test.YtnelpioadpdphaaIApp0
import Derived.Deep.RegionHeld3
import Derived.Deep.RegionWith
namespace Go.Proofs.Ytnelpioadpdphaa
open Go.RowKit
set_option linter.unusedVariables false
set_option linter.unusedSimpArgs false

/-- The atlas lies in the block R: its list, and its map in the block M. -/
structure Atl (w : World) (R M : Nat) (a : Option Addr) (n c : Nat) : Prop where
  blk : w.heap[R]? = some (.cells #[.slice a n c, .map (some M)] 64 (0, 0))
theorem Atl.c0 {w : World} {R M : Nat} {a : Option Addr} {n c : Nat} (h : Atl w R M a n c) : w.cell? ⟨R, 0, none⟩ = some (.slice a n c) := by
  rw [cell_of_row w R 0 _ _ (0, 0) h.blk]; rfl
theorem Atl.c1 {w : World} {R M : Nat} {a : Option Addr} {n c : Nat} (h : Atl w R M a n c) : w.cell? ⟨R, 1, none⟩ = some (.map (some M)) := by
  rw [cell_of_row w R 1 _ _ (0, 0) h.blk]; rfl
theorem Atl.lt {w : World} {R M : Nat} {a : Option Addr} {n c : Nat} (h : Atl w R M a n c) : R < w.heap.size := (Array.getElem?_eq_some_iff.1 h.blk).1
theorem Atl.below {w w' : World} {R M : Nat} {a : Option Addr} {n c : Nat} (h : Atl w R M a n c) (hb : Below w.heap.size w w') : Atl w' R M a n c := ⟨(hb.block R h.lt).trans h.blk⟩

set_option maxHeartbeats 2000000 in
theorem isTaken1_any (R M P Q : Nat) (a : Option Addr) (c : Nat) (ps : List (Int × Int)) (z x y : Int) (w : World) (hA : Atl w R M a ps.length c) (hb : Pls w a ps) (hn : ps.length ≤ 1048576)
    (hP : w.cell? ⟨P, 0, none⟩ = some (.pointer (some ⟨R, 0, none⟩))) (hQ0 : w.cell? ⟨Q, 0, none⟩ = some (.int .i64 x)) (hQ1 : w.cell? ⟨Q, 1, none⟩ = some (.int .i64 y)) (hPl : P < w.heap.size) (hQl : Q < w.heap.size) :
    Calls Try.prog 35 #[.int .i64 z, .pointer (some ⟨P, 0, none⟩), .pointer (some ⟨Q, 0, none⟩)] w fun e w' => e = .returned (.bool (plcO ps z == (x, y))) ∧ Below w.heap.size w w' := by
  have hR := hA.lt
  have HPO := placeOf_any a c ps z w.drew hb hn
  have HC : Hid (w.cell? ⟨P, 0, none⟩ = some (.pointer (some ⟨R, 0, none⟩)) ∧ w.cell? ⟨R, 0, none⟩ = some (.slice a ps.length c) ∧ w.cell? ⟨Q, 0, none⟩ = some (.int .i64 x) ∧ w.cell? ⟨Q, 1, none⟩ = some (.int .i64 y)) := ⟨hP, hA.c0, hQ0, hQ1⟩
  clear hb hA hP hQ0 hQ1
  generalize plcO ps z = q at *
  obtain ⟨x2, y2⟩ := q
  simp only at HPO
  have key : (x2 = x ∧ y2 = y) ∨ ¬ x2 = x ∨ (x2 = x ∧ ¬ y2 = y) := by omega
  rcases key with ⟨rfl, rfl⟩ | h | ⟨rfl, h⟩
  · rw [show ((x2, y2) == (x2, y2)) = true from by simp]
    go_enter Try.func35, Try.ntmps35
    go_wp2_with fail
    go_region_held3 (fun W => W.cell? ⟨P, 0, none⟩ = some (.pointer (some ⟨R, 0, none⟩)) ∧ W.cell? ⟨R, 0, none⟩ = some (.slice a ps.length c) ∧ W.cell? ⟨Q, 0, none⟩ = some (.int .i64 x2) ∧ W.cell? ⟨Q, 1, none⟩ = some (.int .i64 y2))
      (first | exact HC.out | exact HC8.out)
      (first
        | (go_at_call 28; refine HPO.mono ?_; rintro e w8 ⟨rfl, hb8'⟩; have hb8 := Below.drewS hb8'; have HC8 : Hid (w8.cell? ⟨P, 0, none⟩ = some (.pointer (some ⟨R, 0, none⟩)) ∧ w8.cell? ⟨R, 0, none⟩ = some (.slice a ps.length c) ∧ w8.cell? ⟨Q, 0, none⟩ = some (.int .i64 x2) ∧ w8.cell? ⟨Q, 1, none⟩ = some (.int .i64 y2)) := ⟨keep hb8 hPl HC.out.1, keep hb8 hR HC.out.2.1, keep hb8 hQl HC.out.2.2.1, keep hb8 hQl HC.out.2.2.2⟩))
    go_wp2
    go_ret
    exact ⟨rfl, hb8⟩
  · rw [show ((x2, y2) == (x, y)) = false from by simp; exact fun e => absurd e h]
    go_enter Try.func35, Try.ntmps35
    go_wp2_with fail
    go_region_held3 (fun W => W.cell? ⟨P, 0, none⟩ = some (.pointer (some ⟨R, 0, none⟩)) ∧ W.cell? ⟨R, 0, none⟩ = some (.slice a ps.length c) ∧ W.cell? ⟨Q, 0, none⟩ = some (.int .i64 x) ∧ W.cell? ⟨Q, 1, none⟩ = some (.int .i64 y))
      (first | exact HC.out | exact HC8.out)
      (first
        | (go_at_call 28; refine HPO.mono ?_; rintro e w8 ⟨rfl, hb8'⟩; have hb8 := Below.drewS hb8'; have HC8 : Hid (w8.cell? ⟨P, 0, none⟩ = some (.pointer (some ⟨R, 0, none⟩)) ∧ w8.cell? ⟨R, 0, none⟩ = some (.slice a ps.length c) ∧ w8.cell? ⟨Q, 0, none⟩ = some (.int .i64 x) ∧ w8.cell? ⟨Q, 1, none⟩ = some (.int .i64 y)) := ⟨keep hb8 hPl HC.out.1, keep hb8 hR HC.out.2.1, keep hb8 hQl HC.out.2.2.1, keep hb8 hQl HC.out.2.2.2⟩))
    go_wp2
    go_ret
    exact ⟨rfl, hb8⟩
  · rw [show ((x2, y2) == (x2, y)) = false from by simp; exact h]
    go_enter Try.func35, Try.ntmps35
    go_wp2_with fail
    go_region_held3 (fun W => W.cell? ⟨P, 0, none⟩ = some (.pointer (some ⟨R, 0, none⟩)) ∧ W.cell? ⟨R, 0, none⟩ = some (.slice a ps.length c) ∧ W.cell? ⟨Q, 0, none⟩ = some (.int .i64 x2) ∧ W.cell? ⟨Q, 1, none⟩ = some (.int .i64 y))
      (first | exact HC.out | exact HC8.out)
      (first
        | (go_at_call 28; refine HPO.mono ?_; rintro e w8 ⟨rfl, hb8'⟩; have hb8 := Below.drewS hb8'; have HC8 : Hid (w8.cell? ⟨P, 0, none⟩ = some (.pointer (some ⟨R, 0, none⟩)) ∧ w8.cell? ⟨R, 0, none⟩ = some (.slice a ps.length c) ∧ w8.cell? ⟨Q, 0, none⟩ = some (.int .i64 x2) ∧ w8.cell? ⟨Q, 1, none⟩ = some (.int .i64 y)) := ⟨keep hb8 hPl HC.out.1, keep hb8 hR HC.out.2.1, keep hb8 hQl HC.out.2.2.1, keep hb8 hQl HC.out.2.2.2⟩))
    go_wp2
    go_ret
    exact ⟨rfl, hb8⟩
end Go.Proofs.Ytnelpioadpdphaa
