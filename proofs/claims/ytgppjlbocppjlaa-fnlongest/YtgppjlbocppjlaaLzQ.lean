/-
  The program's longest: one place is offered.
-/
import Derived.Test.YtgppjlbocppjlaaLzP
namespace Go.Proofs.Ytgppjlbocppjlaa
open Go.RowKit Go.Maps
set_option linter.unusedVariables false
set_option linter.unusedSimpArgs false

/-- The best one behind the offer of the place p. -/
def ofr (ys : List Int) (at_ p : Nat) (b : Nat × Nat) : Nat × Nat := if b.1 ≤ alk ys p at_ then (alk ys p at_, at_ - p) else b

set_option maxRecDepth 20000 in
set_option maxHeartbeats 4000000 in
theorem offer_any (R M P Q T : Nat) (a : Option Addr) (c : Nat) (ys : List Int) (p q x y : Nat) (w : World) (hH : Hst w R M a ys.length c) (hb : Byt w a ys) (hn : ys.length ≤ 64) (hp : p < q) (hq : q < ys.length)
    (hP : w.cell? ⟨P, 0, none⟩ = some (.pointer (some ⟨R, 0, none⟩))) (hQ : w.cell? ⟨Q, 0, none⟩ = some (.int .i64 q)) (hT : w.heap[T]? = some (.cells #[.int .i64 x, .int .i64 y] 35 (0, 0))) (hPl : P < w.heap.size) (hQl : Q < w.heap.size) (hQT : Q ≠ T) :
    Calls Try.prog 15 #[.int .i64 p, .pointer (some ⟨P, 0, none⟩), .pointer (some ⟨Q, 0, none⟩), .pointer (some ⟨T, 0, none⟩)] w fun e w' =>
      e = .returned (.tuple #[]) ∧ w'.heap[T]? = some (.cells #[.int .i64 (ofr ys q p (x, y)).1, .int .i64 (ofr ys q p (x, y)).2] 35 (0, 0)) ∧ Only (fun k => k = T) w w' := by
  have HAF : Hid (∀ W, Below w.heap.size w W → Calls Try.prog 16 #[.pointer (some ⟨R, 0, none⟩), .int .i64 p, .int .i64 q] W fun e w' => e = .returned (.int .i64 (alk ys p q)) ∧ Below W.heap.size W w') := fun W hW => alikeFrom_any R M a c ys p q W (hH.below hW) (hb.below hW (Nat.le_refl _)) hn hp hq
  have hTl : T < w.heap.size := (Array.getElem?_eq_some_iff.1 hT).1
  have HT : Hid (w.heap[T]? = some (.cells #[.int .i64 x, .int .i64 y] 35 (0, 0))) := hT
  have HO : Hid (ofr ys q p (x, y) = if x ≤ alk ys p q then (alk ys p q, q - p) else (x, y)) := rfl
  have hal := alk_le ys p q
  clear hH hb hT
  generalize alk ys p q = m at *
  have hm64 : m ≤ 64 := by omega
  clear hal
  have hAF := HAF.out w (Below.refl _ _)
  go_enter Try.func15, Try.ntmps15
  go_wp2_with fail
  refine hAF.mono ?_
  clear hAF HAF
  rintro e w1 ⟨rfl, hb1⟩
  have HB1 : Hid (Below w.heap.size w w1) := hb1
  have HT1 : Hid (w1.heap[T]? = some (.cells #[.int .i64 x, .int .i64 y] 35 (0, 0))) := (hb1.block T hTl).trans HT.out
  have t0 : w1.cell? ⟨T, 0, none⟩ = some (.int .i64 x) := blk_cellI HT1.out rfl
  have t1 : w1.cell? ⟨T, 1, none⟩ = some (.int .i64 y) := blk_cellI HT1.out rfl
  have q1 := keep hb1 hQl hQ
  have f0 := frozen_of_row w1 T 0 _ _ HT1.out
  have f1 := frozen_of_row w1 T 1 _ _ HT1.out
  clear hb1
  by_cases hc : x ≤ m
  · have hc2 : (x : Int) ≤ (m : Int) := by omega
    have HO1 : Hid (ofr ys q p (x, y) = (m, q - p)) := by unfold Hid; rw [HO.out, if_pos hc]
    go_wp2
    go_end0
    refine ⟨rfl, ?_, ((Only.ofBelow (S := fun k => k = T) HB1.out (Nat.le_refl _)).setCell (p := ⟨T, 0, none⟩) (.inl rfl) _).setCell (p := ⟨T, 1, none⟩) (.inl rfl) _⟩
    rw [HO1.out, heap_setCell_same _ T 1 _ _ _ (heap_setCell_same _ T 0 _ _ _ HT1.out)]
    simp
    omega
  · have hc2 : ¬ (x : Int) ≤ (m : Int) := by omega
    have HO1 : Hid (ofr ys q p (x, y) = (x, y)) := by unfold Hid; rw [HO.out, if_neg hc]
    go_wp2
    go_end0
    rw [HO1.out]
    exact ⟨rfl, HT1.out, Only.ofBelow HB1.out (Nat.le_refl _)⟩
end Go.Proofs.Ytgppjlbocppjlaa
