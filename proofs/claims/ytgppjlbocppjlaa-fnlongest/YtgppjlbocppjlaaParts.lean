/-
  Words and plain lemmas about rows of bytes: that a slice value reads as given bytes, that it is owned, and how this lasts from one world to a later one.
-/
import Derived.WalkKit
import Derived.ProofKit
import Derived.Below
import Derived.Deep.Draws
namespace Go.Proofs.Ytgppjlbocppjlaa
open Go.RowKit

/-- A slice value that starts at 'a' and has as many elements as 'zs' reads as the bytes 'zs'. -/
def Byt (w : World) (a : Option Addr) (zs : List Int) : Prop :=
  (∀ z ∈ zs, 0 ≤ z ∧ z ≤ 255) ∧ (0 < zs.length → ∃ b off, a = some ⟨b, off, none⟩ ∧ b < w.heap.size ∧ ∀ i, i < zs.length → w.cell? ⟨b, off + i, none⟩ = some (.int .u8 (zs.getD i 0)))

/-- A slice value that the call itself made, from block 'B' on: it owns the bytes 'zs'. -/
def Own (w : World) (B g cap : Nat) (zs : List Int) : Prop :=
  w.ownsRow B 5 1 (.slice (some ⟨g, 0, none⟩) zs.length cap) zs.length (zs.map (Value.int .u8)) ∧ ∀ z ∈ zs, 0 ≤ z ∧ z ≤ 255

theorem Own.lt {w : World} {B g cap : Nat} {zs : List Int} (h : Own w B g cap zs) : B ≤ g ∧ g < w.heap.size := h.1.lt g rfl

theorem Own.cell {w : World} {B g cap : Nat} {zs : List Int} (h : Own w B g cap zs) (i : Nat) (hi : i < zs.length) : w.cell? ⟨g, i, none⟩ = some (.int .u8 (zs.getD i 0)) := by
  rw [h.1.cellAt i (by omega)]
  simp [List.getElem?_eq_getElem hi]

theorem Own.byt {w : World} {B g cap : Nat} {zs : List Int} (h : Own w B g cap zs) : Byt w (some ⟨g, 0, none⟩) zs :=
  ⟨h.2, fun _ => ⟨g, 0, rfl, h.lt.2, fun i hi => by rw [Nat.zero_add]; exact h.cell i hi⟩⟩

theorem Byt.below {w w' : World} {a : Option Addr} {zs : List Int} {B : Nat} (h : Byt w a zs) (hb : Below B w w') (hB : w.heap.size ≤ B) : Byt w' a zs := by
  refine ⟨h.1, fun hz => ?_⟩
  obtain ⟨b, off, rfl, hlt, hc⟩ := h.2 hz
  refine ⟨b, off, rfl, Nat.lt_of_lt_of_le hlt hb.size, fun i hi => ?_⟩
  rw [hb.cell (p := ⟨b, off + i, none⟩) (Nat.lt_of_lt_of_le hlt hB)]
  exact hc i hi

theorem Own.below {w w' : World} {B B' g cap : Nat} {zs : List Int} (h : Own w B g cap zs) (hb : Below B' w w') (hB : w.heap.size ≤ B') : Own w' B g cap zs := by
  refine ⟨⟨h.1.1, ?_⟩, h.2⟩
  rcases h.1.2 with ⟨h', _⟩ | ⟨g', cap', cur, h', hg, hh, r⟩
  · simp at h'
  · refine .inr ⟨g', cap', cur, h', hg, ?_, r⟩
    rw [hb.block g' (by have := (Array.getElem?_eq_some_iff.1 hh).1; omega)]
    exact hh

theorem Own.mono {w : World} {B B' g cap : Nat} {zs : List Int} (h : Own w B g cap zs) (hB : B' ≤ B) : Own w B' g cap zs := by
  refine ⟨⟨h.1.1, ?_⟩, h.2⟩
  rcases h.1.2 with ⟨h', _⟩ | ⟨g', cap', cur, h', hg, r⟩
  · simp at h'
  · exact .inr ⟨g', cap', cur, h', by omega, r⟩

theorem Byt.len_pos {w : World} {a : Option Addr} {zs : List Int} (h : Byt w a zs) (i : Nat) (hi : i < zs.length) : ∃ b off, a = some ⟨b, off, none⟩ ∧ b < w.heap.size ∧ ∀ i, i < zs.length → w.cell? ⟨b, off + i, none⟩ = some (.int .u8 (zs.getD i 0)) := h.2 (by omega)

theorem ret_int {k : IntKind} {a b : Int} (h : a = b) : Ending.returned (.int k a) = .returned (.int k b) := by rw [h]

theorem bcell {B : Nat} {W w1 : World} (hb : Below B W w1) : (∀ b o, b < B → w1.cell? ⟨b, o, none⟩ = W.cell? ⟨b, o, none⟩) ∧ (∀ b o, b < B → w1.frozen? ⟨b, o, none⟩ = W.frozen? ⟨b, o, none⟩) :=
  ⟨fun b o h => hb.cell (p := ⟨b, o, none⟩) h, fun b o h => hb.frozen (p := ⟨b, o, none⟩) h⟩

/-- What a copying loop has behind k rounds: the first k of zs, the rest still 0. -/
def part (zs : List Int) (k : Nat) : List Int := zs.take k ++ List.replicate (zs.length - k) 0

theorem part_len (zs : List Int) (k : Nat) (h : k ≤ zs.length) : (part zs k).length = zs.length := by simp [part]; omega
theorem part_all (zs : List Int) : part zs zs.length = zs := by simp [part]
theorem part_zero (zs : List Int) : part zs 0 = List.replicate zs.length 0 := by simp [part]

theorem part_get (zs : List Int) (k i : Nat) (h : k ≤ zs.length) : (part zs k)[i]? = if i < k then zs[i]? else if i < zs.length then some 0 else none := by
  unfold part
  rw [List.getElem?_append, List.length_take, Nat.min_eq_left h]
  by_cases h1 : i < k
  · rw [if_pos h1, if_pos h1, List.getElem?_take, if_pos h1]
  · rw [if_neg h1, if_neg h1, List.getElem?_replicate]
    by_cases h2 : i < zs.length
    · rw [if_pos (by omega), if_pos h2]
    · rw [if_neg (by omega), if_neg h2]

theorem part_set (zs : List Int) (k : Nat) (h : k < zs.length) : (part zs k).set k (zs.getD k 0) = part zs (k + 1) := by
  apply List.ext_getElem?
  intro i
  rw [List.getElem?_set, part_get _ _ _ (by omega), part_get _ _ _ (by omega), part_len _ _ (by omega)]
  by_cases e : k = i
  · subst e
    rw [if_pos rfl, if_pos h, if_pos (by omega)]
    simp [h]
  · rw [if_neg e]
    by_cases h1 : i < k
    · rw [if_pos h1, if_pos (by omega)]
    · have h3 : ¬ i < k + 1 := by omega
      rw [if_neg h1, if_neg h3]

theorem part_rng (zs : List Int) (k : Nat) (h : ∀ z ∈ zs, 0 ≤ z ∧ z ≤ 255) : ∀ z ∈ part zs k, 0 ≤ z ∧ z ≤ 255 := by
  intro z hz
  simp only [part, List.mem_append, List.mem_replicate] at hz
  rcases hz with hz | ⟨_, rfl⟩
  · exact h z (List.mem_of_mem_take hz)
  · omega

theorem getD_rng {zs : List Int} (h : ∀ z ∈ zs, 0 ≤ z ∧ z ≤ 255) (i : Nat) : 0 ≤ zs.getD i 0 ∧ zs.getD i 0 ≤ 255 := by
  rw [List.getD_eq_getElem?_getD]
  by_cases hi : i < zs.length
  · rw [List.getElem?_eq_getElem hi]; exact h _ (List.getElem_mem hi)
  · rw [List.getElem?_eq_none (by omega)]; simp

/-- A store into an owned row. -/
theorem Own.store {w : World} {B g cap : Nat} {zs : List Int} (h : Own w B g cap zs) (i : Nat) (z : Int) (hz : 0 ≤ z ∧ z ≤ 255) : Own (w.setCell ⟨g, i, none⟩ (.int .u8 z)) B g cap (zs.set i z) := by
  have := (h.1.stored i (.int .u8 z)).1
  refine ⟨?_, ?_⟩
  · simpa [List.map_set] using this
  · intro y hy
    rcases List.mem_or_eq_of_mem_set hy with hy | rfl
    · exact h.2 y hy
    · exact hz

theorem Own.frozen {w : World} {B g cap : Nat} {zs : List Int} (h : Own w B g cap zs) (i : Nat) : w.frozen? ⟨g, i, none⟩ = false := h.1.frozenAt i

/-- Another row, owned from a block further on, stays while a cell of this one is written. -/
theorem Own.setCell_other {w : World} {B g cap : Nat} {zs : List Int} (h : Own w B g cap zs) {p : Addr} (hp : p.block ≠ g) (u : Value) : Own (w.setCell p u) B g cap zs := by
  refine ⟨⟨h.1.1, ?_⟩, h.2⟩
  rcases h.1.2 with ⟨h', _⟩ | ⟨g', cap', cur, h', hg, hh, r⟩
  · simp at h'
  · have e : g' = g := by simp at h'; exact h'.1.symm
    subst e
    exact .inr ⟨g', cap', cur, h', hg, by rw [Below.heap_setCell _ _ _ _ (by omega)]; exact hh, r⟩

theorem take_eq_succ {xs ys : List Int} {k : Nat} (h : xs.take k = ys.take k) (hx : k < xs.length) (hy : k < ys.length) (he : xs.getD k 0 = ys.getD k 0) : xs.take (k + 1) = ys.take (k + 1) := by
  rw [List.take_succ_eq_append_getElem hx, List.take_succ_eq_append_getElem hy, h]
  simp [hx, hy] at he
  rw [he]

theorem ne_of_getD {xs ys : List Int} {k : Nat} (he : xs.getD k 0 ≠ ys.getD k 0) : xs ≠ ys := fun h => he (by rw [h])

theorem Byt.drewN {w : World} {a : Option Addr} {zs : List Int} (h : Byt w a zs) (n : Nat) : Byt (w.drewN n) a zs := h
theorem Own.drewN {w : World} {B g cap : Nat} {zs : List Int} (h : Own w B g cap zs) (n : Nat) : Own (w.drewN n) B g cap zs := h

/-- A cell of a block below B is there in a later world. -/
theorem keep {B : Nat} {w w' : World} (h : Below B w w') {b o : Nat} {v : Value} (hb : b < B) (hc : w.cell? ⟨b, o, none⟩ = some v) : w'.cell? ⟨b, o, none⟩ = some v := (h.cell (p := ⟨b, o, none⟩) hb).trans hc

theorem keepA {w : World} (ob : Obj) {b o : Nat} {v : Value} (hb : b < w.heap.size) (hc : w.cell? ⟨b, o, none⟩ = some v) : (w.alloc ob).cell? ⟨b, o, none⟩ = some v := keep ((Below.refl w.heap.size w).alloc (Nat.le_refl _) ob) hb hc
theorem Own.alloc {w : World} {B g cap : Nat} {zs : List Int} (h : Own w B g cap zs) (ob : Obj) : Own (w.alloc ob) B g cap zs := h.below ((Below.refl w.heap.size w).alloc (Nat.le_refl _) ob) (Nat.le_refl _)
theorem Byt.alloc {w : World} {a : Option Addr} {zs : List Int} (h : Byt w a zs) (ob : Obj) : Byt (w.alloc ob) a zs := h.below ((Below.refl w.heap.size w).alloc (Nat.le_refl _) ob) (Nat.le_refl _)
theorem Below.drewS {B : Nat} {w w' : World} (h : Below B w.drew w') : Below B w w' := ⟨h.os, h.tape, h.output, h.size, h.block⟩

end Go.Proofs.Ytgppjlbocppjlaa
