/-
  The words of Parts, for rows of numbers.
-/
import Derived.Test.YtgppjlbocppjlaaParts
namespace Go.Proofs.Ytgppjlbocppjlaa
open Go.RowKit

/-- A slice value that starts at 'a' and has as many elements as 'zs' reads as the numbers 'zs'. -/
def Ins (w : World) (a : Option Addr) (zs : List Int) : Prop :=
  (∀ z ∈ zs, -9223372036854775808 ≤ z ∧ z ≤ 9223372036854775807) ∧ (0 < zs.length → ∃ b off, a = some ⟨b, off, none⟩ ∧ b < w.heap.size ∧ ∀ i, i < zs.length → w.cell? ⟨b, off + i, none⟩ = some (.int .i64 (zs.getD i 0)))

/-- A slice value that the call itself made, from block 'B' on: it owns the numbers 'zs'. -/
def OwI (w : World) (B g cap : Nat) (zs : List Int) : Prop :=
  w.ownsRow B 3 1 (.slice (some ⟨g, 0, none⟩) zs.length cap) zs.length (zs.map (Value.int .i64)) ∧ ∀ z ∈ zs, -9223372036854775808 ≤ z ∧ z ≤ 9223372036854775807

theorem OwI.lt {w : World} {B g cap : Nat} {zs : List Int} (h : OwI w B g cap zs) : B ≤ g ∧ g < w.heap.size := h.1.lt g rfl

theorem OwI.cell {w : World} {B g cap : Nat} {zs : List Int} (h : OwI w B g cap zs) (i : Nat) (hi : i < zs.length) : w.cell? ⟨g, i, none⟩ = some (.int .i64 (zs.getD i 0)) := by
  rw [h.1.cellAt i (by omega)]
  simp [List.getElem?_eq_getElem hi]

theorem OwI.byt {w : World} {B g cap : Nat} {zs : List Int} (h : OwI w B g cap zs) : Ins w (some ⟨g, 0, none⟩) zs :=
  ⟨h.2, fun _ => ⟨g, 0, rfl, h.lt.2, fun i hi => by rw [Nat.zero_add]; exact h.cell i hi⟩⟩

theorem Ins.below {w w' : World} {a : Option Addr} {zs : List Int} {B : Nat} (h : Ins w a zs) (hb : Below B w w') (hB : w.heap.size ≤ B) : Ins w' a zs := by
  refine ⟨h.1, fun hz => ?_⟩
  obtain ⟨b, off, rfl, hlt, hc⟩ := h.2 hz
  refine ⟨b, off, rfl, Nat.lt_of_lt_of_le hlt hb.size, fun i hi => ?_⟩
  rw [hb.cell (p := ⟨b, off + i, none⟩) (Nat.lt_of_lt_of_le hlt hB)]
  exact hc i hi

theorem OwI.below {w w' : World} {B B' g cap : Nat} {zs : List Int} (h : OwI w B g cap zs) (hb : Below B' w w') (hB : w.heap.size ≤ B') : OwI w' B g cap zs := by
  refine ⟨⟨h.1.1, ?_⟩, h.2⟩
  rcases h.1.2 with ⟨h', _⟩ | ⟨g', cap', cur, h', hg, hh, r⟩
  · simp at h'
  · refine .inr ⟨g', cap', cur, h', hg, ?_, r⟩
    rw [hb.block g' (by have := (Array.getElem?_eq_some_iff.1 hh).1; omega)]
    exact hh

theorem OwI.mono {w : World} {B B' g cap : Nat} {zs : List Int} (h : OwI w B g cap zs) (hB : B' ≤ B) : OwI w B' g cap zs := by
  refine ⟨⟨h.1.1, ?_⟩, h.2⟩
  rcases h.1.2 with ⟨h', _⟩ | ⟨g', cap', cur, h', hg, r⟩
  · simp at h'
  · exact .inr ⟨g', cap', cur, h', by omega, r⟩

theorem Ins.len_pos {w : World} {a : Option Addr} {zs : List Int} (h : Ins w a zs) (i : Nat) (hi : i < zs.length) : ∃ b off, a = some ⟨b, off, none⟩ ∧ b < w.heap.size ∧ ∀ i, i < zs.length → w.cell? ⟨b, off + i, none⟩ = some (.int .i64 (zs.getD i 0)) := h.2 (by omega)

theorem part_rngI (zs : List Int) (k : Nat) (h : ∀ z ∈ zs, -9223372036854775808 ≤ z ∧ z ≤ 9223372036854775807) : ∀ z ∈ part zs k, -9223372036854775808 ≤ z ∧ z ≤ 9223372036854775807 := by
  intro z hz
  simp only [part, List.mem_append, List.mem_replicate] at hz
  rcases hz with hz | ⟨_, rfl⟩
  · exact h z (List.mem_of_mem_take hz)
  · omega

theorem getD_rngI {zs : List Int} (h : ∀ z ∈ zs, -9223372036854775808 ≤ z ∧ z ≤ 9223372036854775807) (i : Nat) : -9223372036854775808 ≤ zs.getD i 0 ∧ zs.getD i 0 ≤ 9223372036854775807 := by
  rw [List.getD_eq_getElem?_getD]
  by_cases hi : i < zs.length
  · rw [List.getElem?_eq_getElem hi]; exact h _ (List.getElem_mem hi)
  · rw [List.getElem?_eq_none (by omega)]; simp

/-- A store into an owned row. -/
theorem OwI.store {w : World} {B g cap : Nat} {zs : List Int} (h : OwI w B g cap zs) (i : Nat) (z : Int) (hz : -9223372036854775808 ≤ z ∧ z ≤ 9223372036854775807) : OwI (w.setCell ⟨g, i, none⟩ (.int .i64 z)) B g cap (zs.set i z) := by
  have := (h.1.stored i (.int .i64 z)).1
  refine ⟨?_, ?_⟩
  · simpa [List.map_set] using this
  · intro y hy
    rcases List.mem_or_eq_of_mem_set hy with hy | rfl
    · exact h.2 y hy
    · exact hz

theorem OwI.frozen {w : World} {B g cap : Nat} {zs : List Int} (h : OwI w B g cap zs) (i : Nat) : w.frozen? ⟨g, i, none⟩ = false := h.1.frozenAt i

/-- Another row, owned from a block further on, stays while a cell of this one is written. -/
theorem OwI.setCell_other {w : World} {B g cap : Nat} {zs : List Int} (h : OwI w B g cap zs) {p : Addr} (hp : p.block ≠ g) (u : Value) : OwI (w.setCell p u) B g cap zs := by
  refine ⟨⟨h.1.1, ?_⟩, h.2⟩
  rcases h.1.2 with ⟨h', _⟩ | ⟨g', cap', cur, h', hg, hh, r⟩
  · simp at h'
  · have e : g' = g := by simp at h'; exact h'.1.symm
    subst e
    exact .inr ⟨g', cap', cur, h', hg, by rw [Below.heap_setCell _ _ _ _ (by omega)]; exact hh, r⟩

theorem Ins.drewN {w : World} {a : Option Addr} {zs : List Int} (h : Ins w a zs) (n : Nat) : Ins (w.drewN n) a zs := h
theorem OwI.drewN {w : World} {B g cap : Nat} {zs : List Int} (h : OwI w B g cap zs) (n : Nat) : OwI (w.drewN n) B g cap zs := h

theorem OwI.alloc {w : World} {B g cap : Nat} {zs : List Int} (h : OwI w B g cap zs) (ob : Obj) : OwI (w.alloc ob) B g cap zs := h.below ((Below.refl w.heap.size w).alloc (Nat.le_refl _) ob) (Nat.le_refl _)
theorem Ins.alloc {w : World} {a : Option Addr} {zs : List Int} (h : Ins w a zs) (ob : Obj) : Ins (w.alloc ob) a zs := h.below ((Below.refl w.heap.size w).alloc (Nat.le_refl _) ob) (Nat.le_refl _)
end Go.Proofs.Ytgppjlbocppjlaa
