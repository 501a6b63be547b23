/-
  Words about rows of places: a sector, an index.
-/
import Derived.WalkKit
import Derived.ProofKit
import Derived.Below
import Derived.Deep.Draws
import Derived.Test.YtennmikgehidiaaGreatDoorProg
import Derived.WalkLawsBesides
import Derived.Outline
import Derived.BigQuiet
import Derived.Deep.QuietTactic
namespace Go.Proofs.YtennmikgehidiaaGreatDoor
open Go.RowKit

/-- A slice value that starts at 'a' and has as many elements as 'zs' reads as the bytes 'zs'. -/
def Byt (w : World) (a : Option Addr) (zs : List Int) : Prop :=
  (∀ z ∈ zs, 0 ≤ z ∧ z ≤ 255) ∧ (0 < zs.length → ∃ b off, a = some ⟨b, off, none⟩ ∧ b < w.heap.size ∧ ∀ i, i < zs.length → w.cell? ⟨b, off + i, none⟩ = some (.int .u8 (zs.getD i 0)))

/-- A slice value that the call itself made, from block 'B' on: it owns the bytes 'zs'. -/
def Own (w : World) (B g cap : Nat) (zs : List Int) : Prop :=
  w.ownsRow B 5 1 (.slice (some ⟨g, 0, none⟩) zs.length cap) zs.length (zs.map (Value.int .u8)) ∧ ∀ z ∈ zs, 0 ≤ z ∧ z ≤ 255

theorem Own.lt {w : World} {B g cap : Nat} {zs : List Int} (h : Own w B g cap zs) : B ≤ g ∧ g < w.heap.size := h.1.lt g rfl

theorem Own.cell {w : World} {B g cap : Nat} {zs : List Int} (h : Own w B g cap zs) (i : Nat) (hi : i < zs.length) : w.cell? ⟨g, i, none⟩ = some (.int .u8 (zs.getD i 0)) := by
  rw [h.1.cellAt i (by omega)]
  simp [List.getElem?_eq_getElem hi]

theorem Own.byt {w : World} {B g cap : Nat} {zs : List Int} (h : Own w B g cap zs) : Byt w (some ⟨g, 0, none⟩) zs :=
  ⟨h.2, fun _ => ⟨g, 0, rfl, h.lt.2, fun i hi => by rw [Nat.zero_add]; exact h.cell i hi⟩⟩

theorem Byt.below {w w' : World} {a : Option Addr} {zs : List Int} {B : Nat} (h : Byt w a zs) (hb : Below B w w') (hB : w.heap.size ≤ B) : Byt w' a zs := by
  refine ⟨h.1, fun hz => ?_⟩
  obtain ⟨b, off, rfl, hlt, hc⟩ := h.2 hz
  refine ⟨b, off, rfl, Nat.lt_of_lt_of_le hlt hb.size, fun i hi => ?_⟩
  rw [hb.cell (p := ⟨b, off + i, none⟩) (Nat.lt_of_lt_of_le hlt hB)]
  exact hc i hi

theorem Own.below {w w' : World} {B B' g cap : Nat} {zs : List Int} (h : Own w B g cap zs) (hb : Below B' w w') (hB : w.heap.size ≤ B') : Own w' B g cap zs := by
  refine ⟨⟨h.1.1, ?_⟩, h.2⟩
  rcases h.1.2 with ⟨h', _⟩ | ⟨g', cap', cur, h', hg, hh, r⟩
  · simp at h'
  · refine .inr ⟨g', cap', cur, h', hg, ?_, r⟩
    rw [hb.block g' (by have := (Array.getElem?_eq_some_iff.1 hh).1; omega)]
    exact hh

theorem Own.mono {w : World} {B B' g cap : Nat} {zs : List Int} (h : Own w B g cap zs) (hB : B' ≤ B) : Own w B' g cap zs := by
  refine ⟨⟨h.1.1, ?_⟩, h.2⟩
  rcases h.1.2 with ⟨h', _⟩ | ⟨g', cap', cur, h', hg, r⟩
  · simp at h'
  · exact .inr ⟨g', cap', cur, h', by omega, r⟩

theorem Byt.len_pos {w : World} {a : Option Addr} {zs : List Int} (h : Byt w a zs) (i : Nat) (hi : i < zs.length) : ∃ b off, a = some ⟨b, off, none⟩ ∧ b < w.heap.size ∧ ∀ i, i < zs.length → w.cell? ⟨b, off + i, none⟩ = some (.int .u8 (zs.getD i 0)) := h.2 (by omega)

theorem ret_int {k : IntKind} {a b : Int} (h : a = b) : Ending.returned (.int k a) = .returned (.int k b) := by rw [h]

theorem bcell {B : Nat} {W w1 : World} (hb : Below B W w1) : (∀ b o, b < B → w1.cell? ⟨b, o, none⟩ = W.cell? ⟨b, o, none⟩) ∧ (∀ b o, b < B → w1.frozen? ⟨b, o, none⟩ = W.frozen? ⟨b, o, none⟩) :=
  ⟨fun b o h => hb.cell (p := ⟨b, o, none⟩) h, fun b o h => hb.frozen (p := ⟨b, o, none⟩) h⟩

/-- What a copying loop has behind k rounds: the first k of zs, the rest still 0. -/
def part (zs : List Int) (k : Nat) : List Int := zs.take k ++ List.replicate (zs.length - k) 0

theorem part_len (zs : List Int) (k : Nat) (h : k ≤ zs.length) : (part zs k).length = zs.length := by simp [part]; omega
theorem part_all (zs : List Int) : part zs zs.length = zs := by simp [part]
theorem part_zero (zs : List Int) : part zs 0 = List.replicate zs.length 0 := by simp [part]

theorem part_get (zs : List Int) (k i : Nat) (h : k ≤ zs.length) : (part zs k)[i]? = if i < k then zs[i]? else if i < zs.length then some 0 else none := by
  unfold part
  rw [List.getElem?_append, List.length_take, Nat.min_eq_left h]
  by_cases h1 : i < k
  · rw [if_pos h1, if_pos h1, List.getElem?_take, if_pos h1]
  · rw [if_neg h1, if_neg h1, List.getElem?_replicate]
    by_cases h2 : i < zs.length
    · rw [if_pos (by omega), if_pos h2]
    · rw [if_neg (by omega), if_neg h2]

theorem part_set (zs : List Int) (k : Nat) (h : k < zs.length) : (part zs k).set k (zs.getD k 0) = part zs (k + 1) := by
  apply List.ext_getElem?
  intro i
  rw [List.getElem?_set, part_get _ _ _ (by omega), part_get _ _ _ (by omega), part_len _ _ (by omega)]
  by_cases e : k = i
  · subst e
    rw [if_pos rfl, if_pos h, if_pos (by omega)]
    simp [h]
  · rw [if_neg e]
    by_cases h1 : i < k
    · rw [if_pos h1, if_pos (by omega)]
    · have h3 : ¬ i < k + 1 := by omega
      rw [if_neg h1, if_neg h3]

theorem part_rng (zs : List Int) (k : Nat) (h : ∀ z ∈ zs, 0 ≤ z ∧ z ≤ 255) : ∀ z ∈ part zs k, 0 ≤ z ∧ z ≤ 255 := by
  intro z hz
  simp only [part, List.mem_append, List.mem_replicate] at hz
  rcases hz with hz | ⟨_, rfl⟩
  · exact h z (List.mem_of_mem_take hz)
  · omega

theorem getD_rng {zs : List Int} (h : ∀ z ∈ zs, 0 ≤ z ∧ z ≤ 255) (i : Nat) : 0 ≤ zs.getD i 0 ∧ zs.getD i 0 ≤ 255 := by
  rw [List.getD_eq_getElem?_getD]
  by_cases hi : i < zs.length
  · rw [List.getElem?_eq_getElem hi]; exact h _ (List.getElem_mem hi)
  · rw [List.getElem?_eq_none (by omega)]; simp

/-- A store into an owned row. -/
theorem Own.store {w : World} {B g cap : Nat} {zs : List Int} (h : Own w B g cap zs) (i : Nat) (z : Int) (hz : 0 ≤ z ∧ z ≤ 255) : Own (w.setCell ⟨g, i, none⟩ (.int .u8 z)) B g cap (zs.set i z) := by
  have := (h.1.stored i (.int .u8 z)).1
  refine ⟨?_, ?_⟩
  · simpa [List.map_set] using this
  · intro y hy
    rcases List.mem_or_eq_of_mem_set hy with hy | rfl
    · exact h.2 y hy
    · exact hz

theorem Own.frozen {w : World} {B g cap : Nat} {zs : List Int} (h : Own w B g cap zs) (i : Nat) : w.frozen? ⟨g, i, none⟩ = false := h.1.frozenAt i

/-- Another row, owned from a block further on, stays while a cell of this one is written. -/
theorem Own.setCell_other {w : World} {B g cap : Nat} {zs : List Int} (h : Own w B g cap zs) {p : Addr} (hp : p.block ≠ g) (u : Value) : Own (w.setCell p u) B g cap zs := by
  refine ⟨⟨h.1.1, ?_⟩, h.2⟩
  rcases h.1.2 with ⟨h', _⟩ | ⟨g', cap', cur, h', hg, hh, r⟩
  · simp at h'
  · have e : g' = g := by simp at h'; exact h'.1.symm
    subst e
    exact .inr ⟨g', cap', cur, h', hg, by rw [Below.heap_setCell _ _ _ _ (by omega)]; exact hh, r⟩

theorem take_eq_succ {xs ys : List Int} {k : Nat} (h : xs.take k = ys.take k) (hx : k < xs.length) (hy : k < ys.length) (he : xs.getD k 0 = ys.getD k 0) : xs.take (k + 1) = ys.take (k + 1) := by
  rw [List.take_succ_eq_append_getElem hx, List.take_succ_eq_append_getElem hy, h]
  simp [hx, hy] at he
  rw [he]

theorem ne_of_getD {xs ys : List Int} {k : Nat} (he : xs.getD k 0 ≠ ys.getD k 0) : xs ≠ ys := fun h => he (by rw [h])

theorem Byt.drewN {w : World} {a : Option Addr} {zs : List Int} (h : Byt w a zs) (n : Nat) : Byt (w.drewN n) a zs := h
theorem Own.drewN {w : World} {B g cap : Nat} {zs : List Int} (h : Own w B g cap zs) (n : Nat) : Own (w.drewN n) B g cap zs := h

/-- A cell of a block below B is there in a later world. -/
theorem keep {B : Nat} {w w' : World} (h : Below B w w') {b o : Nat} {v : Value} (hb : b < B) (hc : w.cell? ⟨b, o, none⟩ = some v) : w'.cell? ⟨b, o, none⟩ = some v := (h.cell (p := ⟨b, o, none⟩) hb).trans hc

theorem keepA {w : World} (ob : Obj) {b o : Nat} {v : Value} (hb : b < w.heap.size) (hc : w.cell? ⟨b, o, none⟩ = some v) : (w.alloc ob).cell? ⟨b, o, none⟩ = some v := keep ((Below.refl w.heap.size w).alloc (Nat.le_refl _) ob) hb hc
theorem Own.alloc {w : World} {B g cap : Nat} {zs : List Int} (h : Own w B g cap zs) (ob : Obj) : Own (w.alloc ob) B g cap zs := h.below ((Below.refl w.heap.size w).alloc (Nat.le_refl _) ob) (Nat.le_refl _)
theorem Byt.alloc {w : World} {a : Option Addr} {zs : List Int} (h : Byt w a zs) (ob : Obj) : Byt (w.alloc ob) a zs := h.below ((Below.refl w.heap.size w).alloc (Nat.le_refl _) ob) (Nat.le_refl _)
theorem Below.drewS {B : Nat} {w w' : World} (h : Below B w.drew w') : Below B w w' := ⟨h.os, h.tape, h.output, h.size, h.block⟩

end Go.Proofs.YtennmikgehidiaaGreatDoor
namespace Go.Proofs.YtennmikgehidiaaGreatDoor
open Go.RowKit

/-- A slice value that starts at 'a' and has as many elements as 'zs' reads as the numbers 'zs'. -/
def Ins (w : World) (a : Option Addr) (zs : List Int) : Prop :=
  (∀ z ∈ zs, -9223372036854775808 ≤ z ∧ z ≤ 9223372036854775807) ∧ (0 < zs.length → ∃ b off, a = some ⟨b, off, none⟩ ∧ b < w.heap.size ∧ ∀ i, i < zs.length → w.cell? ⟨b, off + i, none⟩ = some (.int .i64 (zs.getD i 0)))

/-- A slice value that the call itself made, from block 'B' on: it owns the numbers 'zs'. -/
def OwI (w : World) (B g cap : Nat) (zs : List Int) : Prop :=
  w.ownsRow B 3 1 (.slice (some ⟨g, 0, none⟩) zs.length cap) zs.length (zs.map (Value.int .i64)) ∧ ∀ z ∈ zs, -9223372036854775808 ≤ z ∧ z ≤ 9223372036854775807

theorem OwI.lt {w : World} {B g cap : Nat} {zs : List Int} (h : OwI w B g cap zs) : B ≤ g ∧ g < w.heap.size := h.1.lt g rfl

theorem OwI.cell {w : World} {B g cap : Nat} {zs : List Int} (h : OwI w B g cap zs) (i : Nat) (hi : i < zs.length) : w.cell? ⟨g, i, none⟩ = some (.int .i64 (zs.getD i 0)) := by
  rw [h.1.cellAt i (by omega)]
  simp [List.getElem?_eq_getElem hi]

theorem OwI.byt {w : World} {B g cap : Nat} {zs : List Int} (h : OwI w B g cap zs) : Ins w (some ⟨g, 0, none⟩) zs :=
  ⟨h.2, fun _ => ⟨g, 0, rfl, h.lt.2, fun i hi => by rw [Nat.zero_add]; exact h.cell i hi⟩⟩

theorem Ins.below {w w' : World} {a : Option Addr} {zs : List Int} {B : Nat} (h : Ins w a zs) (hb : Below B w w') (hB : w.heap.size ≤ B) : Ins w' a zs := by
  refine ⟨h.1, fun hz => ?_⟩
  obtain ⟨b, off, rfl, hlt, hc⟩ := h.2 hz
  refine ⟨b, off, rfl, Nat.lt_of_lt_of_le hlt hb.size, fun i hi => ?_⟩
  rw [hb.cell (p := ⟨b, off + i, none⟩) (Nat.lt_of_lt_of_le hlt hB)]
  exact hc i hi

theorem OwI.below {w w' : World} {B B' g cap : Nat} {zs : List Int} (h : OwI w B g cap zs) (hb : Below B' w w') (hB : w.heap.size ≤ B') : OwI w' B g cap zs := by
  refine ⟨⟨h.1.1, ?_⟩, h.2⟩
  rcases h.1.2 with ⟨h', _⟩ | ⟨g', cap', cur, h', hg, hh, r⟩
  · simp at h'
  · refine .inr ⟨g', cap', cur, h', hg, ?_, r⟩
    rw [hb.block g' (by have := (Array.getElem?_eq_some_iff.1 hh).1; omega)]
    exact hh

theorem OwI.mono {w : World} {B B' g cap : Nat} {zs : List Int} (h : OwI w B g cap zs) (hB : B' ≤ B) : OwI w B' g cap zs := by
  refine ⟨⟨h.1.1, ?_⟩, h.2⟩
  rcases h.1.2 with ⟨h', _⟩ | ⟨g', cap', cur, h', hg, r⟩
  · simp at h'
  · exact .inr ⟨g', cap', cur, h', by omega, r⟩

theorem Ins.len_pos {w : World} {a : Option Addr} {zs : List Int} (h : Ins w a zs) (i : Nat) (hi : i < zs.length) : ∃ b off, a = some ⟨b, off, none⟩ ∧ b < w.heap.size ∧ ∀ i, i < zs.length → w.cell? ⟨b, off + i, none⟩ = some (.int .i64 (zs.getD i 0)) := h.2 (by omega)

theorem part_rngI (zs : List Int) (k : Nat) (h : ∀ z ∈ zs, -9223372036854775808 ≤ z ∧ z ≤ 9223372036854775807) : ∀ z ∈ part zs k, -9223372036854775808 ≤ z ∧ z ≤ 9223372036854775807 := by
  intro z hz
  simp only [part, List.mem_append, List.mem_replicate] at hz
  rcases hz with hz | ⟨_, rfl⟩
  · exact h z (List.mem_of_mem_take hz)
  · omega

theorem getD_rngI {zs : List Int} (h : ∀ z ∈ zs, -9223372036854775808 ≤ z ∧ z ≤ 9223372036854775807) (i : Nat) : -9223372036854775808 ≤ zs.getD i 0 ∧ zs.getD i 0 ≤ 9223372036854775807 := by
  rw [List.getD_eq_getElem?_getD]
  by_cases hi : i < zs.length
  · rw [List.getElem?_eq_getElem hi]; exact h _ (List.getElem_mem hi)
  · rw [List.getElem?_eq_none (by omega)]; simp

/-- A store into an owned row. -/
theorem OwI.store {w : World} {B g cap : Nat} {zs : List Int} (h : OwI w B g cap zs) (i : Nat) (z : Int) (hz : -9223372036854775808 ≤ z ∧ z ≤ 9223372036854775807) : OwI (w.setCell ⟨g, i, none⟩ (.int .i64 z)) B g cap (zs.set i z) := by
  have := (h.1.stored i (.int .i64 z)).1
  refine ⟨?_, ?_⟩
  · simpa [List.map_set] using this
  · intro y hy
    rcases List.mem_or_eq_of_mem_set hy with hy | rfl
    · exact h.2 y hy
    · exact hz

theorem OwI.frozen {w : World} {B g cap : Nat} {zs : List Int} (h : OwI w B g cap zs) (i : Nat) : w.frozen? ⟨g, i, none⟩ = false := h.1.frozenAt i

/-- Another row, owned from a block further on, stays while a cell of this one is written. -/
theorem OwI.setCell_other {w : World} {B g cap : Nat} {zs : List Int} (h : OwI w B g cap zs) {p : Addr} (hp : p.block ≠ g) (u : Value) : OwI (w.setCell p u) B g cap zs := by
  refine ⟨⟨h.1.1, ?_⟩, h.2⟩
  rcases h.1.2 with ⟨h', _⟩ | ⟨g', cap', cur, h', hg, hh, r⟩
  · simp at h'
  · have e : g' = g := by simp at h'; exact h'.1.symm
    subst e
    exact .inr ⟨g', cap', cur, h', hg, by rw [Below.heap_setCell _ _ _ _ (by omega)]; exact hh, r⟩

theorem Ins.drewN {w : World} {a : Option Addr} {zs : List Int} (h : Ins w a zs) (n : Nat) : Ins (w.drewN n) a zs := h
theorem OwI.drewN {w : World} {B g cap : Nat} {zs : List Int} (h : OwI w B g cap zs) (n : Nat) : OwI (w.drewN n) B g cap zs := h

theorem OwI.alloc {w : World} {B g cap : Nat} {zs : List Int} (h : OwI w B g cap zs) (ob : Obj) : OwI (w.alloc ob) B g cap zs := h.below ((Below.refl w.heap.size w).alloc (Nat.le_refl _) ob) (Nat.le_refl _)
theorem Ins.alloc {w : World} {a : Option Addr} {zs : List Int} (h : Ins w a zs) (ob : Obj) : Ins (w.alloc ob) a zs := h.below ((Below.refl w.heap.size w).alloc (Nat.le_refl _) ob) (Nat.le_refl _)
end Go.Proofs.YtennmikgehidiaaGreatDoor
namespace Go.Proofs.YtennmikgehidiaaGreatDoor
open Go.RowKit
set_option linter.unusedVariables false

theorem Tryz.infoU8 : (Tryz.prog.info? 5).map (fun i => (i.zero, i.size, i.bytes)) = some (some (.int .u8 0), 1, 1) := by kernel_rfl

theorem made_zero (n : Nat) : (madeCells (Value.int .u8 0).cells (n * 1)).toList = (List.replicate n (0 : Int)).map (Value.int .u8) := by
  simp only [madeCells, Value.cells, Nat.mul_one, Array.toList_map, Array.toList_range, List.map_replicate]
  rw [List.eq_replicate_iff]
  refine ⟨by simp, fun b hb => ?_⟩
  simp only [List.mem_map] at hb
  obtain ⟨x, _, rfl⟩ := hb
  simp [Nat.mod_one]

end Go.Proofs.YtennmikgehidiaaGreatDoor
namespace Go.Proofs.YtennmikgehidiaaGreatDoor
open Go.RowKit
set_option linter.unusedVariables false

/-- From w to w' no block that was there has turned but those in S. -/
structure Only (S : Nat → Prop) (w w' : World) : Prop where
  os : w'.os = w.os
  tape : w'.tape = w.tape
  output : w'.output = w.output
  size : w.heap.size ≤ w'.heap.size
  block : ∀ k, k < w.heap.size → ¬ S k → w'.heap[k]? = w.heap[k]?

theorem Only.refl (S : Nat → Prop) (w : World) : Only S w w := ⟨rfl, rfl, rfl, Nat.le_refl _, fun _ _ _ => rfl⟩
theorem Only.trans {S : Nat → Prop} {a b c : World} (h : Only S a b) (k : Only S b c) : Only S a c :=
  ⟨k.os.trans h.os, k.tape.trans h.tape, k.output.trans h.output, Nat.le_trans h.size k.size, fun i hi hs => (k.block i (Nat.lt_of_lt_of_le hi h.size) hs).trans (h.block i hi hs)⟩
theorem Only.mono {S T : Nat → Prop} {a b : World} (h : Only S a b) (hs : ∀ k, k < a.heap.size → S k → T k) : Only T a b :=
  ⟨h.os, h.tape, h.output, h.size, fun i hi ht => h.block i hi (fun hh => ht (hs i hi hh))⟩
theorem Only.ofBelow {S : Nat → Prop} {B : Nat} {a b : World} (h : Below B a b) (hB : a.heap.size ≤ B) : Only S a b := ⟨h.os, h.tape, h.output, h.size, fun i hi _ => h.block i (by omega)⟩
theorem Only.below {S : Nat → Prop} {B : Nat} {a b : World} (h : Only S a b) (hB : B ≤ a.heap.size) (hs : ∀ k, S k → B ≤ k) : Below B a b :=
  ⟨h.os, h.tape, h.output, h.size, fun k hk => h.block k (by omega) (fun hh => by have := hs k hh; omega)⟩
theorem Only.alloc {S : Nat → Prop} {a b : World} (h : Only S a b) (o : Obj) : Only S a (b.alloc o) :=
  ⟨h.os, h.tape, h.output, by have := h.size; simp; omega, fun i hi hs => (Below.heap_alloc _ _ _ (by have := h.size; omega)).trans (h.block i hi hs)⟩
theorem Only.drewN {S : Nat → Prop} {a b : World} (h : Only S a b) (n : Nat) : Only S a (b.drewN n) := ⟨h.os, h.tape, h.output, h.size, h.block⟩
theorem Only.drew {S : Nat → Prop} {a b : World} (h : Only S a b) : Only S a b.drew := ⟨h.os, h.tape, h.output, h.size, h.block⟩
theorem Only.setCell {S : Nat → Prop} {a b : World} (h : Only S a b) {p : Addr} (hp : S p.block ∨ a.heap.size ≤ p.block) (u : Value) : Only S a (b.setCell p u) := by
  refine ⟨h.os, h.tape, h.output, by have := h.size; simp [World.setCell]; omega, fun i hi hs => ?_⟩
  have hne : i ≠ p.block := by
    rintro rfl
    rcases hp with hp | hp
    · exact hs hp
    · omega
  exact (Below.heap_setCell _ _ _ _ hne).trans (h.block i hi hs)
theorem Only.grown {S : Nat → Prop} {a b c : World} {row : Option Nat} (h : Only S a b) (hg : b.grownBy c row) (hr : ∀ k, row = some k → S k ∨ a.heap.size ≤ k) : Only S a c :=
  ⟨hg.os.trans h.os, hg.tape.trans h.tape, hg.output.trans h.output, Nat.le_trans h.size hg.size, fun i hi hs => (hg.block i (Nat.lt_of_lt_of_le hi h.size) (fun e => by
    rcases hr i e.symm with hh | hh
    · exact hs hh
    · omega)).trans (h.block i hi hs)⟩
theorem Only.cell {S : Nat → Prop} {w w' : World} (h : Only S w w') {b o : Nat} {v : Value} (hb : b < w.heap.size) (hs : ¬ S b) (hc : w.cell? ⟨b, o, none⟩ = some v) : w'.cell? ⟨b, o, none⟩ = some v :=
  (World.cell?_of_block (w := w) (a := ⟨b, o, none⟩) (h.block b hb hs)).trans hc
theorem Own.only {S : Nat → Prop} {w w' : World} {B g cap : Nat} {zs : List Int} (h : Own w B g cap zs) (ho : Only S w w') (hs : ¬ S g) : Own w' B g cap zs := by
  refine ⟨⟨h.1.1, ?_⟩, h.2⟩
  have hlt := h.lt.2
  rcases h.1.2 with ⟨h', _⟩ | ⟨g', cap', cur, h', hg, hh, r⟩
  · simp at h'
  · have e : g' = g := by simp at h'; exact h'.1.symm
    subst e
    exact .inr ⟨g', cap', cur, h', hg, by rw [ho.block g' hlt hs]; exact hh, r⟩

/-- The bytes of an answer: nothing, or a row of its own between two blocks. -/
def Mine (w : World) (B U : Nat) (a : Option Addr) (cap : Nat) (zs : List Int) : Prop :=
  (a = none ∧ zs = [] ∧ cap = 0) ∨ ∃ g, a = some ⟨g, 0, none⟩ ∧ B ≤ g ∧ g < U ∧ Own w B g cap zs

theorem Mine.byt {w : World} {B U : Nat} {a : Option Addr} {cap : Nat} {zs : List Int} (h : Mine w B U a cap zs) : Byt w a zs := by
  rcases h with ⟨rfl, rfl, rfl⟩ | ⟨g, rfl, _, _, h⟩
  · exact ⟨by simp, by simp⟩
  · exact h.byt
theorem Mine.only {S : Nat → Prop} {w w' : World} {B U : Nat} {a : Option Addr} {cap : Nat} {zs : List Int} (h : Mine w B U a cap zs) (ho : Only S w w') (hs : ∀ k, B ≤ k → k < U → ¬ S k) : Mine w' B U a cap zs := by
  rcases h with h | ⟨g, rfl, h1, h2, h⟩
  · exact .inl h
  · exact .inr ⟨g, rfl, h1, h2, h.only ho (hs g h1 h2)⟩
theorem Mine.below {w w' : World} {B U : Nat} {a : Option Addr} {cap : Nat} {zs : List Int} (h : Mine w B U a cap zs) (ho : Below w.heap.size w w') : Mine w' B U a cap zs := h.only (Only.ofBelow (S := fun _ => False) ho (Nat.le_refl _)) (by simp)
theorem Mine.mono {w : World} {B U B' U' : Nat} {a : Option Addr} {cap : Nat} {zs : List Int} (h : Mine w B U a cap zs) (h1 : B' ≤ B) (h2 : U ≤ U') : Mine w B' U' a cap zs := by
  rcases h with h | ⟨g, rfl, g1, g2, h⟩
  · exact .inl h
  · exact .inr ⟨g, rfl, by omega, by omega, h.mono h1⟩
theorem Own.mine {w : World} {B g cap : Nat} {zs : List Int} (h : Own w B g cap zs) : Mine w B w.heap.size (some ⟨g, 0, none⟩) cap zs := .inr ⟨g, rfl, h.lt.1, h.lt.2, h⟩

/-- Only what lies at 'a' is written. -/
def rowOf (a : Option Addr) (k : Nat) : Prop := ∃ x : Addr, a = some x ∧ x.block = k

end Go.Proofs.YtennmikgehidiaaGreatDoor
namespace Go.Proofs.YtennmikgehidiaaGreatDoor
open Go.RowKit
set_option linter.unusedVariables false

theorem Tryz.infoI64 : (Tryz.prog.info? 3).map (fun i => (i.zero, i.size, i.bytes)) = some (some (.int .i64 0), 1, 8) := by kernel_rfl

theorem made_zeroI (n : Nat) : (madeCells (Value.int .i64 0).cells (n * 1)).toList = (List.replicate n (0 : Int)).map (Value.int .i64) := by
  simp only [madeCells, Value.cells, Nat.mul_one, Array.toList_map, Array.toList_range, List.map_replicate]
  rw [List.eq_replicate_iff]
  refine ⟨by simp, fun b hb => ?_⟩
  simp only [List.mem_map] at hb
  obtain ⟨x, _, rfl⟩ := hb
  simp [Nat.mod_one]



theorem OwI.only {S : Nat → Prop} {w w' : World} {B g cap : Nat} {zs : List Int} (h : OwI w B g cap zs) (ho : Only S w w') (hs : ¬ S g) : OwI w' B g cap zs := by
  refine ⟨⟨h.1.1, ?_⟩, h.2⟩
  have hlt := h.lt.2
  rcases h.1.2 with ⟨h', _⟩ | ⟨g', cap', cur, h', hg, hh, r⟩
  · simp at h'
  · have e : g' = g := by simp at h'; exact h'.1.symm
    subst e
    exact .inr ⟨g', cap', cur, h', hg, by rw [ho.block g' hlt hs]; exact hh, r⟩

/-- The numbers of an answer: nothing, or a row of its own between two blocks. -/
def MinI (w : World) (B U : Nat) (a : Option Addr) (cap : Nat) (zs : List Int) : Prop :=
  (a = none ∧ zs = [] ∧ cap = 0) ∨ ∃ g, a = some ⟨g, 0, none⟩ ∧ B ≤ g ∧ g < U ∧ OwI w B g cap zs

theorem MinI.byt {w : World} {B U : Nat} {a : Option Addr} {cap : Nat} {zs : List Int} (h : MinI w B U a cap zs) : Ins w a zs := by
  rcases h with ⟨rfl, rfl, rfl⟩ | ⟨g, rfl, _, _, h⟩
  · exact ⟨by simp, by simp⟩
  · exact h.byt
theorem MinI.only {S : Nat → Prop} {w w' : World} {B U : Nat} {a : Option Addr} {cap : Nat} {zs : List Int} (h : MinI w B U a cap zs) (ho : Only S w w') (hs : ∀ k, B ≤ k → k < U → ¬ S k) : MinI w' B U a cap zs := by
  rcases h with h | ⟨g, rfl, h1, h2, h⟩
  · exact .inl h
  · exact .inr ⟨g, rfl, h1, h2, h.only ho (hs g h1 h2)⟩
theorem MinI.below {w w' : World} {B U : Nat} {a : Option Addr} {cap : Nat} {zs : List Int} (h : MinI w B U a cap zs) (ho : Below w.heap.size w w') : MinI w' B U a cap zs := h.only (Only.ofBelow (S := fun _ => False) ho (Nat.le_refl _)) (by simp)
theorem MinI.mono {w : World} {B U B' U' : Nat} {a : Option Addr} {cap : Nat} {zs : List Int} (h : MinI w B U a cap zs) (h1 : B' ≤ B) (h2 : U ≤ U') : MinI w B' U' a cap zs := by
  rcases h with h | ⟨g, rfl, g1, g2, h⟩
  · exact .inl h
  · exact .inr ⟨g, rfl, by omega, by omega, h.mono h1⟩
theorem OwI.mine {w : World} {B g cap : Nat} {zs : List Int} (h : OwI w B g cap zs) : MinI w B w.heap.size (some ⟨g, 0, none⟩) cap zs := .inr ⟨g, rfl, h.lt.1, h.lt.2, h⟩

end Go.Proofs.YtennmikgehidiaaGreatDoor
namespace Go.Proofs.YtennmikgehidiaaGreatDoor
open Go.RowKit
set_option linter.unusedVariables false

def dp : Int × Int := (0, 0)
def rP (p : Int × Int) : Prop := (-9223372036854775808 ≤ p.1 ∧ p.1 ≤ 9223372036854775807) ∧ (-9223372036854775808 ≤ p.2 ∧ p.2 ≤ 9223372036854775807)
def pcs (p : Int × Int) : List Value := [.int .i64 p.1, .int .i64 p.2]

/-- A slice value that starts at 'a' and has as many elements as 'ps' reads as the places 'ps'. -/
def Pls (w : World) (a : Option Addr) (ps : List (Int × Int)) : Prop :=
  (∀ p ∈ ps, rP p) ∧ (0 < ps.length → ∃ b off, a = some ⟨b, off, none⟩ ∧ b < w.heap.size ∧ ∀ i, i < ps.length → w.cell? ⟨b, off + i * 2, none⟩ = some (.int .i64 (ps.getD i dp).1) ∧ w.cell? ⟨b, off + i * 2 + 1, none⟩ = some (.int .i64 (ps.getD i dp).2))

theorem getD_memP {ps : List (Int × Int)} {k : Nat} (hk : k < ps.length) : ps.getD k dp ∈ ps := by
  rw [List.getD_eq_getElem?_getD, List.getElem?_eq_getElem hk]; exact List.getElem_mem hk
theorem Pls.below {w w' : World} {a : Option Addr} {ps : List (Int × Int)} {B : Nat} (h : Pls w a ps) (hb : Below B w w') (hB : w.heap.size ≤ B) : Pls w' a ps := by
  refine ⟨h.1, fun hz => ?_⟩
  obtain ⟨b, off, rfl, hlt, hc⟩ := h.2 hz
  exact ⟨b, off, rfl, Nat.lt_of_lt_of_le hlt hb.size, fun i hi => ⟨keep hb (by omega) (hc i hi).1, keep hb (by omega) (hc i hi).2⟩⟩
theorem Pls.len_pos {w : World} {a : Option Addr} {ps : List (Int × Int)} (h : Pls w a ps) (i : Nat) (hi : i < ps.length) : ∃ b off, a = some ⟨b, off, none⟩ ∧ b < w.heap.size ∧ ∀ i, i < ps.length → w.cell? ⟨b, off + i * 2, none⟩ = some (.int .i64 (ps.getD i dp).1) ∧ w.cell? ⟨b, off + i * 2 + 1, none⟩ = some (.int .i64 (ps.getD i dp).2) := h.2 (by omega)
theorem Pls.rng {w : World} {a : Option Addr} {ps : List (Int × Int)} (h : Pls w a ps) (k : Nat) (hk : k < ps.length) : rP (ps.getD k dp) := h.1 _ (getD_memP hk)
theorem Pls.alloc {w : World} {a : Option Addr} {ps : List (Int × Int)} (h : Pls w a ps) (o : Obj) : Pls (w.alloc o) a ps := h.below ((Below.refl w.heap.size w).alloc (Nat.le_refl _) o) (Nat.le_refl _)

theorem flatP_len (ps : List (Int × Int)) : (ps.flatMap pcs).length = ps.length * 2 := by
  induction ps with
  | nil => rfl
  | cons s ps ih => rw [List.flatMap_cons, List.length_append, ih, List.length_cons]; simp [pcs]; omega
theorem flatP_get (ps : List (Int × Int)) : ∀ k, k < ps.length → (ps.flatMap pcs)[k * 2]? = some (.int .i64 (ps.getD k dp).1) ∧ (ps.flatMap pcs)[k * 2 + 1]? = some (.int .i64 (ps.getD k dp).2) := by
  induction ps with
  | nil => intro k hk; simp at hk
  | cons s ps ih =>
    intro k hk
    cases k with
    | zero => simp [List.flatMap_cons, pcs]
    | succ k =>
      have := ih k (by simpa using hk)
      rw [List.flatMap_cons, show (k + 1) * 2 = k * 2 + 2 from by omega]
      simpa [pcs] using this
theorem flatP_set (s : Int × Int) (ps : List (Int × Int)) : ∀ k, k < ps.length → ((ps.flatMap pcs).set (k * 2) (.int .i64 s.1)).set (k * 2 + 1) (.int .i64 s.2) = (ps.set k s).flatMap pcs := by
  induction ps with
  | nil => intro k hk; simp at hk
  | cons x ps ih =>
    intro k hk
    cases k with
    | zero => simp [List.flatMap_cons, pcs]
    | succ k =>
      have := ih k (by simpa using hk)
      rw [List.set_cons_succ, List.flatMap_cons, List.flatMap_cons, ← this, show (k + 1) * 2 = k * 2 + 2 from by omega]
      simp [pcs]

/-- A slice value (nil, or a row of the call's own from block B on) that has the places ps. -/
def OVp (w : World) (B : Nat) (v : Value) (ps : List (Int × Int)) : Prop := w.ownsRow B 72 2 v ps.length (ps.flatMap pcs) ∧ ∀ p ∈ ps, rP p
def OwP (w : World) (B g cap : Nat) (ps : List (Int × Int)) : Prop := OVp w B (.slice (some ⟨g, 0, none⟩) ps.length cap) ps

section
variable {w w' : World} {B : Nat} {v : Value} {ps : List (Int × Int)} {g cap : Nat}
theorem OVp.nil (w : World) (B : Nat) : OVp w B (.slice none 0 0) [] := ⟨⟨rfl, .inl ⟨rfl, rfl⟩⟩, by simp⟩
theorem OVp.form (h : OVp w B v ps) : ∃ (a : Option Addr) (c : Nat), v = .slice a ps.length c := by
  rcases h.1.2 with ⟨rfl, h0⟩ | ⟨g, cap, cur, rfl, _⟩
  · exact ⟨none, 0, by rw [h0]⟩
  · exact ⟨_, _, rfl⟩
theorem OVp.blk (h : OVp w B v ps) {k : Nat} (hk : v.ownBlock = some k) : B ≤ k ∧ k < w.heap.size := by
  rcases h.1.2 with ⟨rfl, h0⟩ | ⟨g, cap, cur, rfl, hg, hh, _⟩
  · simp [Value.ownBlock] at hk
  · simp [Value.ownBlock] at hk
    subst hk
    exact ⟨hg, (Array.getElem?_eq_some_iff.1 hh).1⟩
theorem OVp.stay {S : Nat → Prop} (h : OVp w B v ps) (ho : Only S w w') (hs : ∀ k, v.ownBlock = some k → ¬ S k) : OVp w' B v ps := by
  refine ⟨⟨h.1.1, ?_⟩, h.2⟩
  rcases h.1.2 with h' | ⟨g, cap, cur, rfl, hg, hh, r⟩
  · exact .inl h'
  · exact .inr ⟨g, cap, cur, rfl, hg, (ho.block g (Array.getElem?_eq_some_iff.1 hh).1 (hs g rfl)).trans hh, r⟩
theorem OVp.below (h : OVp w B v ps) (hb : Below w.heap.size w w') : OVp w' B v ps := h.stay (Only.ofBelow (S := fun _ => False) hb (Nat.le_refl _)) (by simp)
theorem OVp.weak {B' : Nat} (h : OVp w B v ps) (hB : B' ≤ B) : OVp w B' v ps := by
  refine ⟨⟨h.1.1, ?_⟩, h.2⟩
  rcases h.1.2 with h' | ⟨g, cap, cur, h', hg, r⟩
  · exact .inl h'
  · exact .inr ⟨g, cap, cur, h', by omega, r⟩
theorem OwP.lt (h : OwP w B g cap ps) : B ≤ g ∧ g < w.heap.size := OVp.blk h rfl
theorem OwP.cell (h : OwP w B g cap ps) (i : Nat) (hi : i < ps.length) : w.cell? ⟨g, i * 2, none⟩ = some (.int .i64 (ps.getD i dp).1) ∧ w.cell? ⟨g, i * 2 + 1, none⟩ = some (.int .i64 (ps.getD i dp).2) := by
  obtain ⟨f0, f1⟩ := flatP_get ps i hi
  exact ⟨by rw [h.1.cellAt (i * 2) (by omega), f0], by rw [h.1.cellAt (i * 2 + 1) (by omega), f1]⟩
theorem OwP.pls (h : OwP w B g cap ps) : Pls w (some ⟨g, 0, none⟩) ps := ⟨h.2, fun _ => ⟨g, 0, rfl, h.lt.2, fun i hi => by rw [Nat.zero_add]; exact h.cell i hi⟩⟩
theorem OwP.frozen (h : OwP w B g cap ps) (i : Nat) : w.frozen? ⟨g, i, none⟩ = false := h.1.frozenAt i
theorem OVp.pls {a : Option Addr} {n c : Nat} (h : OVp w B (.slice a n c) ps) : Pls w a ps := by
  rcases h.1.2 with ⟨e, h0⟩ | ⟨g, cap, cur, e, hg, hh, r⟩
  · exact ⟨h.2, fun hz => by omega⟩
  · simp at e
    obtain ⟨rfl, rfl, rfl⟩ := e
    exact OwP.pls (cap := c) h
theorem OwP.store (h : OwP w B g cap ps) (k : Nat) (hk : k < ps.length) (p : Int × Int) (hr : rP p) : OwP ((w.setCell ⟨g, k * 2, none⟩ (.int .i64 p.1)).setCell ⟨g, k * 2 + 1, none⟩ (.int .i64 p.2)) B g cap (ps.set k p) := by
  have r1 := (h.1.stored (k * 2) (.int .i64 p.1)).1
  have r2 := (r1.stored (k * 2 + 1) (.int .i64 p.2)).1
  rw [flatP_set p ps k hk] at r2
  refine ⟨by rw [List.length_set]; exact r2, ?_⟩
  intro t ht
  rcases List.mem_or_eq_of_mem_set ht with ht | rfl
  · exact h.2 t ht
  · exact hr
theorem OwP.other (h : OwP w B g cap ps) {p : Addr} (hp : p.block ≠ g) (u : Value) : OwP (w.setCell p u) B g cap ps :=
  OVp.stay h ((Only.refl (fun b => b = p.block) w).setCell (.inl rfl) u) (fun k hk e => by
    have : g = k := by simpa [Value.ownBlock] using hk
    exact hp (by rw [this]; exact e.symm))

/-- The places of an answer: nothing, or a row of its own between two blocks. -/
def MinP (w : World) (B U : Nat) (a : Option Addr) (cap : Nat) (ps : List (Int × Int)) : Prop :=
  (a = none ∧ ps = [] ∧ cap = 0) ∨ ∃ g, a = some ⟨g, 0, none⟩ ∧ B ≤ g ∧ g < U ∧ OwP w B g cap ps
theorem OVp.mine (h : OVp w B v ps) : ∃ (a : Option Addr) (cp : Nat), v = .slice a ps.length cp ∧ MinP w B w.heap.size a cp ps := by
  rcases h.1.2 with ⟨rfl, h0⟩ | ⟨g, cap, cur, rfl, hg, hh, r⟩
  · exact ⟨none, 0, by rw [h0], .inl ⟨rfl, List.eq_nil_of_length_eq_zero h0, rfl⟩⟩
  · exact ⟨some ⟨g, 0, none⟩, cap, rfl, .inr ⟨g, rfl, hg, (Array.getElem?_eq_some_iff.1 hh).1, h⟩⟩
variable {a : Option Addr} {U c : Nat}
theorem MinP.pls (h : MinP w B U a cap ps) : Pls w a ps := by
  rcases h with ⟨rfl, rfl, rfl⟩ | ⟨g, rfl, _, _, h⟩
  · exact ⟨by simp, by simp⟩
  · exact h.pls
theorem MinP.only {S : Nat → Prop} (h : MinP w B U a cap ps) (ho : Only S w w') (hs : ∀ k, B ≤ k → k < U → ¬ S k) : MinP w' B U a cap ps := by
  rcases h with h | ⟨g, rfl, h1, h2, h⟩
  · exact .inl h
  · exact .inr ⟨g, rfl, h1, h2, OVp.stay h ho (fun k hk => by
      have : g = k := by simpa [Value.ownBlock] using hk
      subst this
      exact hs g h1 h2)⟩
theorem MinP.below (h : MinP w B U a cap ps) (ho : Below w.heap.size w w') : MinP w' B U a cap ps := h.only (Only.ofBelow (S := fun _ => False) ho (Nat.le_refl _)) (by simp)
theorem MinP.mono {B' U' : Nat} (h : MinP w B U a cap ps) (h1 : B' ≤ B) (h2 : U ≤ U') : MinP w B' U' a cap ps := by
  rcases h with h | ⟨g, rfl, g1, g2, h⟩
  · exact .inl h
  · exact .inr ⟨g, rfl, by omega, by omega, OVp.weak h h1⟩
theorem MinP.row (h : MinP w B U a cap ps) {k : Nat} (hk : rowOf a k) : B ≤ k ∧ k < U := by
  obtain ⟨x, hx, rfl⟩ := hk
  rcases h with ⟨h', _⟩ | ⟨g, h', g1, g2, _⟩
  · rw [h'] at hx; cases hx
  · rw [h'] at hx
    simp at hx
    rw [← hx]
    exact ⟨g1, g2⟩
end

theorem Tryz.infoPl : (Tryz.prog.info? 72).map (fun i => (i.zero, i.size, i.bytes)) = some (some (.agg #[.int .i64 0, .int .i64 0]), 2, 16) := by kernel_rfl
theorem made_places (n : Nat) : (madeCells (Value.agg #[.int .i64 0, .int .i64 0]).cells (n * 2)).toList = (List.replicate n dp).flatMap pcs := by
  apply List.ext_getElem?
  intro i
  by_cases hi : i < n * 2
  · have hd : i / 2 < (List.replicate n dp).length := by simp; omega
    have hg : (List.replicate n dp).getD (i / 2) dp = dp := by
      rw [List.getD_eq_getElem?_getD, List.getElem?_replicate]; split <;> rfl
    obtain ⟨f0, f1⟩ := flatP_get (List.replicate n dp) (i / 2) hd
    rw [hg] at f0 f1
    simp only [madeCells, Array.toList_map, Array.toList_range, List.getElem?_map, List.getElem?_range hi, Option.map_some]
    have h3 : i % 2 = 0 ∨ i % 2 = 1 := by omega
    rcases h3 with h3 | h3
    · rw [show i / 2 * 2 = i from by omega] at f0
      rw [f0]
      simp [Value.cells, h3, dp]
    · rw [show i / 2 * 2 + 1 = i from by omega] at f1
      rw [f1]
      simp [Value.cells, h3, dp]
  · rw [List.getElem?_eq_none (by simp [madeCells]; omega), List.getElem?_eq_none (by rw [flatP_len]; simp; omega)]
theorem rP_dp : rP dp := by unfold rP dp; simp
/-- What 'make' lays of places. -/
theorem OwP.made {w1 : World} {B g n : Nat} (h : w1.ownsRow B 72 2 (.slice (some ⟨g, 0, none⟩) n n) n (madeCells (Value.agg #[.int .i64 0, .int .i64 0]).cells (n * 2)).toList) : OwP w1 B g n (List.replicate n dp) := by
  refine ⟨?_, fun p hp => ?_⟩
  · rw [made_places] at h
    simpa using h
  · rw [(List.mem_replicate.1 hp).2]
    exact rP_dp
end Go.Proofs.YtennmikgehidiaaGreatDoor
