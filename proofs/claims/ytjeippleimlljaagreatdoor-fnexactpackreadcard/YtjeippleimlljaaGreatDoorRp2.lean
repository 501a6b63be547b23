/-
  The program's reader of a sector: two bytes as a number; whether something is behind all that was read.
-/
import Derived.WalkKit
import Derived.ProofKit
import Derived.Below
import Derived.Deep.Draws
import Derived.Test.YtjeippleimlljaaGreatDoorProg
import Derived.WalkLawsBesides
import Derived.Outline
import Derived.BigQuiet
import Derived.Deep.QuietTactic
import Derived.Laws.BitsAllLaws
import Derived.IntWalk
namespace Go.Proofs.YtjeippleimlljaaGreatDoor
open Go.RowKit

/-- A slice value that starts at 'a' and has as many elements as 'zs' reads as the bytes 'zs'. -/
def Byt (w : World) (a : Option Addr) (zs : List Int) : Prop :=
  (∀ z ∈ zs, 0 ≤ z ∧ z ≤ 255) ∧ (0 < zs.length → ∃ b off, a = some ⟨b, off, none⟩ ∧ b < w.heap.size ∧ ∀ i, i < zs.length → w.cell? ⟨b, off + i, none⟩ = some (.int .u8 (zs.getD i 0)))

/-- A slice value that the call itself made, from block 'B' on: it owns the bytes 'zs'. -/
def Own (w : World) (B g cap : Nat) (zs : List Int) : Prop :=
  w.ownsRow B 5 1 (.slice (some ⟨g, 0, none⟩) zs.length cap) zs.length (zs.map (Value.int .u8)) ∧ ∀ z ∈ zs, 0 ≤ z ∧ z ≤ 255

theorem Own.lt {w : World} {B g cap : Nat} {zs : List Int} (h : Own w B g cap zs) : B ≤ g ∧ g < w.heap.size := h.1.lt g rfl

theorem Own.cell {w : World} {B g cap : Nat} {zs : List Int} (h : Own w B g cap zs) (i : Nat) (hi : i < zs.length) : w.cell? ⟨g, i, none⟩ = some (.int .u8 (zs.getD i 0)) := by
  rw [h.1.cellAt i (by omega)]
  simp [List.getElem?_eq_getElem hi]

theorem Own.byt {w : World} {B g cap : Nat} {zs : List Int} (h : Own w B g cap zs) : Byt w (some ⟨g, 0, none⟩) zs :=
  ⟨h.2, fun _ => ⟨g, 0, rfl, h.lt.2, fun i hi => by rw [Nat.zero_add]; exact h.cell i hi⟩⟩

theorem Byt.below {w w' : World} {a : Option Addr} {zs : List Int} {B : Nat} (h : Byt w a zs) (hb : Below B w w') (hB : w.heap.size ≤ B) : Byt w' a zs := by
  refine ⟨h.1, fun hz => ?_⟩
  obtain ⟨b, off, rfl, hlt, hc⟩ := h.2 hz
  refine ⟨b, off, rfl, Nat.lt_of_lt_of_le hlt hb.size, fun i hi => ?_⟩
  rw [hb.cell (p := ⟨b, off + i, none⟩) (Nat.lt_of_lt_of_le hlt hB)]
  exact hc i hi

theorem Own.below {w w' : World} {B B' g cap : Nat} {zs : List Int} (h : Own w B g cap zs) (hb : Below B' w w') (hB : w.heap.size ≤ B') : Own w' B g cap zs := by
  refine ⟨⟨h.1.1, ?_⟩, h.2⟩
  rcases h.1.2 with ⟨h', _⟩ | ⟨g', cap', cur, h', hg, hh, r⟩
  · simp at h'
  · refine .inr ⟨g', cap', cur, h', hg, ?_, r⟩
    rw [hb.block g' (by have := (Array.getElem?_eq_some_iff.1 hh).1; omega)]
    exact hh

theorem Own.mono {w : World} {B B' g cap : Nat} {zs : List Int} (h : Own w B g cap zs) (hB : B' ≤ B) : Own w B' g cap zs := by
  refine ⟨⟨h.1.1, ?_⟩, h.2⟩
  rcases h.1.2 with ⟨h', _⟩ | ⟨g', cap', cur, h', hg, r⟩
  · simp at h'
  · exact .inr ⟨g', cap', cur, h', by omega, r⟩

theorem Byt.len_pos {w : World} {a : Option Addr} {zs : List Int} (h : Byt w a zs) (i : Nat) (hi : i < zs.length) : ∃ b off, a = some ⟨b, off, none⟩ ∧ b < w.heap.size ∧ ∀ i, i < zs.length → w.cell? ⟨b, off + i, none⟩ = some (.int .u8 (zs.getD i 0)) := h.2 (by omega)

theorem ret_int {k : IntKind} {a b : Int} (h : a = b) : Ending.returned (.int k a) = .returned (.int k b) := by rw [h]

theorem bcell {B : Nat} {W w1 : World} (hb : Below B W w1) : (∀ b o, b < B → w1.cell? ⟨b, o, none⟩ = W.cell? ⟨b, o, none⟩) ∧ (∀ b o, b < B → w1.frozen? ⟨b, o, none⟩ = W.frozen? ⟨b, o, none⟩) :=
  ⟨fun b o h => hb.cell (p := ⟨b, o, none⟩) h, fun b o h => hb.frozen (p := ⟨b, o, none⟩) h⟩

/-- What a copying loop has behind k rounds: the first k of zs, the rest still 0. -/
def part (zs : List Int) (k : Nat) : List Int := zs.take k ++ List.replicate (zs.length - k) 0

theorem part_len (zs : List Int) (k : Nat) (h : k ≤ zs.length) : (part zs k).length = zs.length := by simp [part]; omega
theorem part_all (zs : List Int) : part zs zs.length = zs := by simp [part]
theorem part_zero (zs : List Int) : part zs 0 = List.replicate zs.length 0 := by simp [part]

theorem part_get (zs : List Int) (k i : Nat) (h : k ≤ zs.length) : (part zs k)[i]? = if i < k then zs[i]? else if i < zs.length then some 0 else none := by
  unfold part
  rw [List.getElem?_append, List.length_take, Nat.min_eq_left h]
  by_cases h1 : i < k
  · rw [if_pos h1, if_pos h1, List.getElem?_take, if_pos h1]
  · rw [if_neg h1, if_neg h1, List.getElem?_replicate]
    by_cases h2 : i < zs.length
    · rw [if_pos (by omega), if_pos h2]
    · rw [if_neg (by omega), if_neg h2]

theorem part_set (zs : List Int) (k : Nat) (h : k < zs.length) : (part zs k).set k (zs.getD k 0) = part zs (k + 1) := by
  apply List.ext_getElem?
  intro i
  rw [List.getElem?_set, part_get _ _ _ (by omega), part_get _ _ _ (by omega), part_len _ _ (by omega)]
  by_cases e : k = i
  · subst e
    rw [if_pos rfl, if_pos h, if_pos (by omega)]
    simp [h]
  · rw [if_neg e]
    by_cases h1 : i < k
    · rw [if_pos h1, if_pos (by omega)]
    · have h3 : ¬ i < k + 1 := by omega
      rw [if_neg h1, if_neg h3]

theorem part_rng (zs : List Int) (k : Nat) (h : ∀ z ∈ zs, 0 ≤ z ∧ z ≤ 255) : ∀ z ∈ part zs k, 0 ≤ z ∧ z ≤ 255 := by
  intro z hz
  simp only [part, List.mem_append, List.mem_replicate] at hz
  rcases hz with hz | ⟨_, rfl⟩
  · exact h z (List.mem_of_mem_take hz)
  · omega

theorem getD_rng {zs : List Int} (h : ∀ z ∈ zs, 0 ≤ z ∧ z ≤ 255) (i : Nat) : 0 ≤ zs.getD i 0 ∧ zs.getD i 0 ≤ 255 := by
  rw [List.getD_eq_getElem?_getD]
  by_cases hi : i < zs.length
  · rw [List.getElem?_eq_getElem hi]; exact h _ (List.getElem_mem hi)
  · rw [List.getElem?_eq_none (by omega)]; simp

/-- A store into an owned row. -/
theorem Own.store {w : World} {B g cap : Nat} {zs : List Int} (h : Own w B g cap zs) (i : Nat) (z : Int) (hz : 0 ≤ z ∧ z ≤ 255) : Own (w.setCell ⟨g, i, none⟩ (.int .u8 z)) B g cap (zs.set i z) := by
  have := (h.1.stored i (.int .u8 z)).1
  refine ⟨?_, ?_⟩
  · simpa [List.map_set] using this
  · intro y hy
    rcases List.mem_or_eq_of_mem_set hy with hy | rfl
    · exact h.2 y hy
    · exact hz

theorem Own.frozen {w : World} {B g cap : Nat} {zs : List Int} (h : Own w B g cap zs) (i : Nat) : w.frozen? ⟨g, i, none⟩ = false := h.1.frozenAt i

/-- Another row, owned from a block further on, stays while a cell of this one is written. -/
theorem Own.setCell_other {w : World} {B g cap : Nat} {zs : List Int} (h : Own w B g cap zs) {p : Addr} (hp : p.block ≠ g) (u : Value) : Own (w.setCell p u) B g cap zs := by
  refine ⟨⟨h.1.1, ?_⟩, h.2⟩
  rcases h.1.2 with ⟨h', _⟩ | ⟨g', cap', cur, h', hg, hh, r⟩
  · simp at h'
  · have e : g' = g := by simp at h'; exact h'.1.symm
    subst e
    exact .inr ⟨g', cap', cur, h', hg, by rw [Below.heap_setCell _ _ _ _ (by omega)]; exact hh, r⟩

theorem take_eq_succ {xs ys : List Int} {k : Nat} (h : xs.take k = ys.take k) (hx : k < xs.length) (hy : k < ys.length) (he : xs.getD k 0 = ys.getD k 0) : xs.take (k + 1) = ys.take (k + 1) := by
  rw [List.take_succ_eq_append_getElem hx, List.take_succ_eq_append_getElem hy, h]
  simp [hx, hy] at he
  rw [he]

theorem ne_of_getD {xs ys : List Int} {k : Nat} (he : xs.getD k 0 ≠ ys.getD k 0) : xs ≠ ys := fun h => he (by rw [h])

theorem Byt.drewN {w : World} {a : Option Addr} {zs : List Int} (h : Byt w a zs) (n : Nat) : Byt (w.drewN n) a zs := h
theorem Own.drewN {w : World} {B g cap : Nat} {zs : List Int} (h : Own w B g cap zs) (n : Nat) : Own (w.drewN n) B g cap zs := h

/-- A cell of a block below B is there in a later world. -/
theorem keep {B : Nat} {w w' : World} (h : Below B w w') {b o : Nat} {v : Value} (hb : b < B) (hc : w.cell? ⟨b, o, none⟩ = some v) : w'.cell? ⟨b, o, none⟩ = some v := (h.cell (p := ⟨b, o, none⟩) hb).trans hc

theorem keepA {w : World} (ob : Obj) {b o : Nat} {v : Value} (hb : b < w.heap.size) (hc : w.cell? ⟨b, o, none⟩ = some v) : (w.alloc ob).cell? ⟨b, o, none⟩ = some v := keep ((Below.refl w.heap.size w).alloc (Nat.le_refl _) ob) hb hc
theorem Own.alloc {w : World} {B g cap : Nat} {zs : List Int} (h : Own w B g cap zs) (ob : Obj) : Own (w.alloc ob) B g cap zs := h.below ((Below.refl w.heap.size w).alloc (Nat.le_refl _) ob) (Nat.le_refl _)
theorem Byt.alloc {w : World} {a : Option Addr} {zs : List Int} (h : Byt w a zs) (ob : Obj) : Byt (w.alloc ob) a zs := h.below ((Below.refl w.heap.size w).alloc (Nat.le_refl _) ob) (Nat.le_refl _)
theorem Below.drewS {B : Nat} {w w' : World} (h : Below B w.drew w') : Below B w w' := ⟨h.os, h.tape, h.output, h.size, h.block⟩

end Go.Proofs.YtjeippleimlljaaGreatDoor
namespace Go.Proofs.YtjeippleimlljaaGreatDoor
open Go.RowKit
set_option linter.unusedVariables false

theorem Tryz.infoU8 : (Tryz.prog.info? 5).map (fun i => (i.zero, i.size, i.bytes)) = some (some (.int .u8 0), 1, 1) := by kernel_rfl

theorem made_zero (n : Nat) : (madeCells (Value.int .u8 0).cells (n * 1)).toList = (List.replicate n (0 : Int)).map (Value.int .u8) := by
  simp only [madeCells, Value.cells, Nat.mul_one, Array.toList_map, Array.toList_range, List.map_replicate]
  rw [List.eq_replicate_iff]
  refine ⟨by simp, fun b hb => ?_⟩
  simp only [List.mem_map] at hb
  obtain ⟨x, _, rfl⟩ := hb
  simp [Nat.mod_one]

end Go.Proofs.YtjeippleimlljaaGreatDoor
namespace Go.Proofs.YtjeippleimlljaaGreatDoor
open Go.RowKit
set_option linter.unusedVariables false

/-- From w to w' no block that was there has turned but those in S. -/
structure Only (S : Nat → Prop) (w w' : World) : Prop where
  os : w'.os = w.os
  tape : w'.tape = w.tape
  output : w'.output = w.output
  size : w.heap.size ≤ w'.heap.size
  block : ∀ k, k < w.heap.size → ¬ S k → w'.heap[k]? = w.heap[k]?

theorem Only.refl (S : Nat → Prop) (w : World) : Only S w w := ⟨rfl, rfl, rfl, Nat.le_refl _, fun _ _ _ => rfl⟩
theorem Only.trans {S : Nat → Prop} {a b c : World} (h : Only S a b) (k : Only S b c) : Only S a c :=
  ⟨k.os.trans h.os, k.tape.trans h.tape, k.output.trans h.output, Nat.le_trans h.size k.size, fun i hi hs => (k.block i (Nat.lt_of_lt_of_le hi h.size) hs).trans (h.block i hi hs)⟩
theorem Only.mono {S T : Nat → Prop} {a b : World} (h : Only S a b) (hs : ∀ k, k < a.heap.size → S k → T k) : Only T a b :=
  ⟨h.os, h.tape, h.output, h.size, fun i hi ht => h.block i hi (fun hh => ht (hs i hi hh))⟩
theorem Only.ofBelow {S : Nat → Prop} {B : Nat} {a b : World} (h : Below B a b) (hB : a.heap.size ≤ B) : Only S a b := ⟨h.os, h.tape, h.output, h.size, fun i hi _ => h.block i (by omega)⟩
theorem Only.below {S : Nat → Prop} {B : Nat} {a b : World} (h : Only S a b) (hB : B ≤ a.heap.size) (hs : ∀ k, S k → B ≤ k) : Below B a b :=
  ⟨h.os, h.tape, h.output, h.size, fun k hk => h.block k (by omega) (fun hh => by have := hs k hh; omega)⟩
theorem Only.alloc {S : Nat → Prop} {a b : World} (h : Only S a b) (o : Obj) : Only S a (b.alloc o) :=
  ⟨h.os, h.tape, h.output, by have := h.size; simp; omega, fun i hi hs => (Below.heap_alloc _ _ _ (by have := h.size; omega)).trans (h.block i hi hs)⟩
theorem Only.drewN {S : Nat → Prop} {a b : World} (h : Only S a b) (n : Nat) : Only S a (b.drewN n) := ⟨h.os, h.tape, h.output, h.size, h.block⟩
theorem Only.drew {S : Nat → Prop} {a b : World} (h : Only S a b) : Only S a b.drew := ⟨h.os, h.tape, h.output, h.size, h.block⟩
theorem Only.setCell {S : Nat → Prop} {a b : World} (h : Only S a b) {p : Addr} (hp : S p.block ∨ a.heap.size ≤ p.block) (u : Value) : Only S a (b.setCell p u) := by
  refine ⟨h.os, h.tape, h.output, by have := h.size; simp [World.setCell]; omega, fun i hi hs => ?_⟩
  have hne : i ≠ p.block := by
    rintro rfl
    rcases hp with hp | hp
    · exact hs hp
    · omega
  exact (Below.heap_setCell _ _ _ _ hne).trans (h.block i hi hs)
theorem Only.grown {S : Nat → Prop} {a b c : World} {row : Option Nat} (h : Only S a b) (hg : b.grownBy c row) (hr : ∀ k, row = some k → S k ∨ a.heap.size ≤ k) : Only S a c :=
  ⟨hg.os.trans h.os, hg.tape.trans h.tape, hg.output.trans h.output, Nat.le_trans h.size hg.size, fun i hi hs => (hg.block i (Nat.lt_of_lt_of_le hi h.size) (fun e => by
    rcases hr i e.symm with hh | hh
    · exact hs hh
    · omega)).trans (h.block i hi hs)⟩
theorem Only.cell {S : Nat → Prop} {w w' : World} (h : Only S w w') {b o : Nat} {v : Value} (hb : b < w.heap.size) (hs : ¬ S b) (hc : w.cell? ⟨b, o, none⟩ = some v) : w'.cell? ⟨b, o, none⟩ = some v :=
  (World.cell?_of_block (w := w) (a := ⟨b, o, none⟩) (h.block b hb hs)).trans hc
theorem Own.only {S : Nat → Prop} {w w' : World} {B g cap : Nat} {zs : List Int} (h : Own w B g cap zs) (ho : Only S w w') (hs : ¬ S g) : Own w' B g cap zs := by
  refine ⟨⟨h.1.1, ?_⟩, h.2⟩
  have hlt := h.lt.2
  rcases h.1.2 with ⟨h', _⟩ | ⟨g', cap', cur, h', hg, hh, r⟩
  · simp at h'
  · have e : g' = g := by simp at h'; exact h'.1.symm
    subst e
    exact .inr ⟨g', cap', cur, h', hg, by rw [ho.block g' hlt hs]; exact hh, r⟩

/-- The bytes of an answer: nothing, or a row of its own between two blocks. -/
def Mine (w : World) (B U : Nat) (a : Option Addr) (cap : Nat) (zs : List Int) : Prop :=
  (a = none ∧ zs = [] ∧ cap = 0) ∨ ∃ g, a = some ⟨g, 0, none⟩ ∧ B ≤ g ∧ g < U ∧ Own w B g cap zs

theorem Mine.byt {w : World} {B U : Nat} {a : Option Addr} {cap : Nat} {zs : List Int} (h : Mine w B U a cap zs) : Byt w a zs := by
  rcases h with ⟨rfl, rfl, rfl⟩ | ⟨g, rfl, _, _, h⟩
  · exact ⟨by simp, by simp⟩
  · exact h.byt
theorem Mine.only {S : Nat → Prop} {w w' : World} {B U : Nat} {a : Option Addr} {cap : Nat} {zs : List Int} (h : Mine w B U a cap zs) (ho : Only S w w') (hs : ∀ k, B ≤ k → k < U → ¬ S k) : Mine w' B U a cap zs := by
  rcases h with h | ⟨g, rfl, h1, h2, h⟩
  · exact .inl h
  · exact .inr ⟨g, rfl, h1, h2, h.only ho (hs g h1 h2)⟩
theorem Mine.below {w w' : World} {B U : Nat} {a : Option Addr} {cap : Nat} {zs : List Int} (h : Mine w B U a cap zs) (ho : Below w.heap.size w w') : Mine w' B U a cap zs := h.only (Only.ofBelow (S := fun _ => False) ho (Nat.le_refl _)) (by simp)
theorem Mine.mono {w : World} {B U B' U' : Nat} {a : Option Addr} {cap : Nat} {zs : List Int} (h : Mine w B U a cap zs) (h1 : B' ≤ B) (h2 : U ≤ U') : Mine w B' U' a cap zs := by
  rcases h with h | ⟨g, rfl, g1, g2, h⟩
  · exact .inl h
  · exact .inr ⟨g, rfl, by omega, by omega, h.mono h1⟩
theorem Own.mine {w : World} {B g cap : Nat} {zs : List Int} (h : Own w B g cap zs) : Mine w B w.heap.size (some ⟨g, 0, none⟩) cap zs := .inr ⟨g, rfl, h.lt.1, h.lt.2, h⟩

/-- Only what lies at 'a' is written. -/
def rowOf (a : Option Addr) (k : Nat) : Prop := ∃ x : Addr, a = some x ∧ x.block = k

end Go.Proofs.YtjeippleimlljaaGreatDoor
namespace Go.Proofs.YtjeippleimlljaaGreatDoor
open Go.RowKit
set_option linter.unusedVariables false
set_option linter.unusedSimpArgs false

/-- A reader at R, with p bytes taken of the L that lie at b from o on (behind the last one it may stand anywhere there). -/
structure PrR (W : World) (R b o L c p : Nat) : Prop where
  c0 : ∃ q, W.cell? ⟨R, 0, none⟩ = some (.slice (some ⟨b, q, none⟩) (L - p) (c - p)) ∧ (p < c → q = o + p)
  f0 : W.frozen? ⟨R, 0, none⟩ = false
  lt : R < W.heap.size
  le : p ≤ L
  lc : L ≤ c
theorem PrR.keep {W W' : World} {R b o L c p B : Nat} (h : PrR W R b o L c p) (hb : Below B W W') (hB : R < B) : PrR W' R b o L c p := by
  obtain ⟨⟨q, c0, hq⟩, f0, hl, hp, hc⟩ := h
  exact ⟨⟨q, Go.Proofs.YtjeippleimlljaaGreatDoor.keep hb hB c0, hq⟩, (hb.frozen (p := ⟨R, 0, none⟩) hB).trans f0, Nat.lt_of_lt_of_le hl hb.size, hp, hc⟩
theorem PrR.set {W : World} {R b o L c p k q : Nat} (h : PrR W R b o L c p) (hk : p + k ≤ L) (hq : p + k < c → q = o + (p + k)) : PrR (W.setCell ⟨R, 0, none⟩ (.slice (some ⟨b, q, none⟩) (L - p - k) (c - p - k))) R b o L c (p + k) := by
  obtain ⟨⟨q0, c0, hq0⟩, f0, hl, hp, hc⟩ := h
  refine ⟨⟨q, ?_, hq⟩, by simp [go_sem, f0], by simpa using hl, hk, hc⟩
  rw [show L - (p + k) = L - p - k by omega, show c - (p + k) = c - p - k by omega]
  simp [go_sem, c0]

set_option maxHeartbeats 1600000 in
theorem takeBytes_yes (R b o L c p k : Nat) (w : World) (h : PrR w R b o L c p) (hk : p + k ≤ L) (hL : c ≤ 281474976710656) :
    Calls Tryz.prog 31 #[.pointer (some ⟨R, 0, none⟩), .int .i64 k] w fun e w' => (∃ q, e = .returned (.slice (some ⟨b, q, none⟩) k (c - p)) ∧ (p < c → q = o + p)) ∧ PrR w' R b o L c (p + k) ∧ Only (fun x => x = R) w w' := by
  have HR : Hid (PrR w R b o L c p) := h
  obtain ⟨⟨q, c0, hq⟩, f0, hl, hp, hc⟩ := h
  have h1 : ¬ ((k : Int) > ((L - p : Nat) : Int)) := by omega
  have h2 : (k : Int) ≤ ((c - p : Nat) : Int) := by omega
  have h3 : k ≤ L - p := by omega
  have h4 : k ≤ c - p := by omega
  by_cases h5 : c - p - k = 0
  · have HQ : Hid ((p < c → q = o + p) ∧ PrR (w.setCell ⟨R, 0, none⟩ (.slice (some ⟨b, q, none⟩) (L - p - k) (c - p - k))) R b o L c (p + k)) := ⟨hq, HR.out.set hk (fun h => by omega)⟩
    rw [h5] at HQ
    clear hq
    go_enter Tryz.func31, Tryz.ntmps31
    go_wp2
    go_ret
    exact ⟨⟨q, rfl, HQ.out.1⟩, HQ.out.2, (Only.refl (fun x => x = R) w).setCell (p := ⟨R, 0, none⟩) (.inl rfl) _⟩
  · have hq1 := hq (by omega)
    subst hq1
    have HQ : Hid ((p < c → o + p = o + p) ∧ PrR (w.setCell ⟨R, 0, none⟩ (.slice (some ⟨b, o + p + k, none⟩) (L - p - k) (c - p - k))) R b o L c (p + k)) := ⟨hq, HR.out.set hk (fun h => by omega)⟩
    clear hq
    go_enter Tryz.func31, Tryz.ntmps31
    go_wp2
    go_ret
    exact ⟨⟨o + p, rfl, fun _ => rfl⟩, HQ.out.2, (Only.refl (fun x => x = R) w).setCell (p := ⟨R, 0, none⟩) (.inl rfl) _⟩

set_option maxHeartbeats 1600000 in
theorem takeBytes_no (R b o L c p k : Nat) (T : TypeId) (x : Value) (w : World) (h : PrR w R b o L c p) (hk : L < p + k) (hL : c ≤ 281474976710656) (hk2 : k ≤ 281474976710656) (hg : w.cell? ⟨4, 0, none⟩ = some (.iface T x)) :
    Calls Tryz.prog 31 #[.pointer (some ⟨R, 0, none⟩), .int .i64 k] w fun e w' => e = .panicked [{ v := .iface T x, recovered := false }] ∧ w' = w := by
  obtain ⟨⟨q, c0, hq⟩, f0, hl, hp, hc⟩ := h
  have h1 : ((k : Int) > ((L - p : Nat) : Int)) := by omega
  go_enter Tryz.func31, Tryz.ntmps31
  go_wp2
  exact ⟨rfl, rfl, rfl⟩

/-- One byte. -/
theorem one_yes (R b o c p : Nat) (zs : List Int) (w : World) (h : PrR w R b o zs.length c p) (hp : p < zs.length) (hL : c ≤ 281474976710656) (hz : ∀ i, i < zs.length → w.cell? ⟨b, o + i, none⟩ = some (.int .u8 (zs.getD i 0))) (hr : 0 ≤ zs.getD p 0 ∧ zs.getD p 0 ≤ 255) (hb : b ≠ R) (hbl : b < w.heap.size) :
    Calls Tryz.prog 22 #[.pointer (some ⟨R, 0, none⟩)] w fun e w' => e = .returned (.int .i64 (zs.getD p 0)) ∧ PrR w' R b o zs.length c (p + 1) ∧ Only (fun x => x = R) w w' := by
  have HT := takeBytes_yes R b o zs.length c p 1 w h (by omega) hL
  have HZ : Hid (w.cell? ⟨b, o + p, none⟩ = some (.int .u8 (zs.getD p 0)) ∧ p < c) := ⟨hz p hp, by have := h.lc; omega⟩
  clear hz h
  generalize zs.getD p 0 = y at *
  go_enter Tryz.func22, Tryz.ntmps22
  go_wp2_with fail
  refine HT.mono ?_
  clear HT
  rintro e w1 ⟨⟨q, rfl, hq⟩, hR, ho⟩
  have hq1 := hq HZ.out.2
  subst hq1
  have z1 := ho.cell hbl (fun h => hb h) HZ.out.1
  have HR : Hid (PrR w1 R b o zs.length c (p + 1) ∧ Only (fun x => x = R) w w1) := ⟨hR, ho⟩
  clear hR ho hq HZ
  go_wp2
  go_ret
  exact ⟨by go_num, HR.out.1, HR.out.2⟩
end Go.Proofs.YtjeippleimlljaaGreatDoor
namespace Go.Proofs.YtjeippleimlljaaGreatDoor
open Go.RowKit

theorem ofInt_i64 (a : Nat) (ha : a < 9223372036854775808) : (BitVec.ofInt 64 (a : Int)).toNat = a := by
  rw [BitVec.ofInt_natCast, BitVec.toNat_ofNat]; exact Nat.mod_eq_of_lt (by omega)

theorem i64_and_nat (a b : Nat) (ha : a < 9223372036854775808) (hb : b < 9223372036854775808) : bits .and .i64 (a : Int) (b : Int) = ((a &&& b : Nat) : Int) := by
  have hx : a &&& b < 2 ^ 63 := Nat.and_lt_two_pow _ (by omega)
  show IntKind.i64.wrap ((BitVec.ofInt 64 (a : Int) &&& BitVec.ofInt 64 (b : Int)).toNat : Int) = _
  rw [BitVec.toNat_and, ofInt_i64 a ha, ofInt_i64 b hb, IntKind.wrap_i64]
  omega

theorem i64_or_nat (a b : Nat) (ha : a < 9223372036854775808) (hb : b < 9223372036854775808) : bits .or .i64 (a : Int) (b : Int) = ((a ||| b : Nat) : Int) := by
  have hx : a ||| b < 2 ^ 63 := Nat.or_lt_two_pow (by omega) (by omega)
  show IntKind.i64.wrap ((BitVec.ofInt 64 (a : Int) ||| BitVec.ofInt 64 (b : Int)).toNat : Int) = _
  rw [BitVec.toNat_or, ofInt_i64 a ha, ofInt_i64 b hb, IntKind.wrap_i64]
  omega

/-- The bit k of a byte, as an int. -/
theorem bit64 (z : Int) (k : Nat) (h : 0 ≤ z ∧ z ≤ 255) : bits .and .i64 (wrap64 (z / 2 ^ k)) 1 = ((z.toNat / 2 ^ k % 2 : Nat) : Int) := by
  obtain ⟨n, rfl⟩ := Int.eq_ofNat_of_zero_le h.1
  have e : ((n : Int) / 2 ^ k) = ((n / 2 ^ k : Nat) : Int) := by simp
  have hle : n / 2 ^ k ≤ n := Nat.div_le_self _ _
  rw [e, Int.toNat_natCast]
  generalize n / 2 ^ k = m at *
  rw [IntWalk.wrap64_in _ (by omega)]
  have := i64_and_nat m 1 (by omega) (by omega)
  rw [show ((1 : Nat) : Int) = 1 from rfl] at this
  rw [this, nat_mask1]

/-- 'n | bit << i' where n has i bits. -/
theorem or_bit64 (n b i : Nat) (hn : n < 2 ^ i) (hb : b ≤ 1) (hi : i ≤ 31) : bits .or .i64 (n : Int) ((b * 2 ^ i : Nat) : Int) = ((n + b * 2 ^ i : Nat) : Int) := by
  have h1 : 2 ^ i ≤ 2 ^ 31 := Nat.pow_le_pow_right (by omega) hi
  have h2 : b * 2 ^ i ≤ 1 * 2 ^ i := Nat.mul_le_mul_right _ hb
  rw [i64_or_nat n (b * 2 ^ i) (by omega) (by omega)]
  congr 1
  rw [Nat.or_comm, nat_join i _ _ (by simp) hn, Nat.add_comm]

theorem or_step64 (X j k : Nat) (z : Int) (hz : 0 ≤ z ∧ z ≤ 255) (hx : X < 2 ^ j) (hj : j ≤ 31) :
    bits .or .i64 (X : Int) (wrap64 (bits .and .i64 (wrap64 (z / 2 ^ k)) 1 * 2 ^ j)) = ((X + z.toNat / 2 ^ k % 2 * 2 ^ j : Nat) : Int) := by
  rw [bit64 z k hz]
  have hb : z.toNat / 2 ^ k % 2 ≤ 1 := by omega
  generalize z.toNat / 2 ^ k % 2 = bt at *
  have e : ((bt : Nat) : Int) * 2 ^ j = ((bt * 2 ^ j : Nat) : Int) := by simp
  have h1 : 2 ^ j ≤ 2 ^ 31 := Nat.pow_le_pow_right (by omega) hj
  have h2 : bt * 2 ^ j ≤ 1 * 2 ^ j := Nat.mul_le_mul_right _ hb
  have h3 := or_bit64 X bt j hx hb hj
  rw [e]
  generalize bt * 2 ^ j = y at *
  rw [IntWalk.wrap64_in _ (by omega)]
  exact h3

/-- 'old | byte(x)' where old has u bits and x none of them. -/
theorem or_u8 (old x u : Nat) (ho : old < 2 ^ u) (hx : x % 2 ^ u = 0) (h8 : x < 256) (h9 : old < 256) : bits .or .u8 (old : Int) (x : Int) = ((old + x : Nat) : Int) := by
  rw [u8_or_nat old x h9 h8]
  congr 1
  rw [Nat.or_comm, nat_join u _ _ hx ho, Nat.add_comm]

end Go.Proofs.YtjeippleimlljaaGreatDoor
namespace Go.Proofs.YtjeippleimlljaaGreatDoor
open Go.RowKit
set_option linter.unusedVariables false
set_option linter.unusedSimpArgs false

theorem or_two (x y : Int) (hx : 0 ≤ x ∧ x ≤ 255) (hy : 0 ≤ y ∧ y ≤ 255) : bits .or .i64 (x * 256) y = x * 256 + y := by
  obtain ⟨a, rfl⟩ := Int.eq_ofNat_of_zero_le hx.1
  obtain ⟨b, rfl⟩ := Int.eq_ofNat_of_zero_le hy.1
  have ha : a ≤ 255 := by omega
  have hb : b ≤ 255 := by omega
  have e : ((a : Int) * 256) = ((a * 256 : Nat) : Int) := by omega
  have h := Nat.two_pow_add_eq_or_of_lt (b := b) (i := 8) (by omega) a
  rw [show 2 ^ 8 * a = a * 256 from by omega] at h
  rw [e, i64_or_nat _ _ (by omega) (by omega), ← h]
  omega

/-- What a reader reads of: bytes at b, from o on. -/
structure PrB (W : World) (R b o : Nat) (zs : List Int) : Prop where
  z : ∀ i, i < zs.length → W.cell? ⟨b, o + i, none⟩ = some (.int .u8 (zs.getD i 0))
  r : ∀ z ∈ zs, 0 ≤ z ∧ z ≤ 255
  ne : b ≠ R
  lt : b < W.heap.size
theorem PrB.only {W W' : World} {R b o : Nat} {zs : List Int} (h : PrB W R b o zs) (ho : Only (fun x => x = R) W W') : PrB W' R b o zs := ⟨fun i hi => ho.cell h.lt h.ne (h.z i hi), h.r, h.ne, Nat.lt_of_lt_of_le h.lt ho.size⟩
theorem PrB.below {W W' : World} {R b o : Nat} {zs : List Int} (h : PrB W R b o zs) (hb : Below W.heap.size W W') : PrB W' R b o zs := ⟨fun i hi => keep hb h.lt (h.z i hi), h.r, h.ne, Nat.lt_of_lt_of_le h.lt hb.size⟩

set_option maxHeartbeats 1600000 in
theorem two_yes (R b o c p : Nat) (zs : List Int) (w : World) (h : PrR w R b o zs.length c p) (hb : PrB w R b o zs) (hp : p + 1 < zs.length) (hL : c ≤ 281474976710656) :
    Calls Tryz.prog 23 #[.pointer (some ⟨R, 0, none⟩)] w fun e w' => e = .returned (.int .i64 (zs.getD p 0 * 256 + zs.getD (p + 1) 0)) ∧ PrR w' R b o zs.length c (p + 2) ∧ Only (fun x => x = R) w w' := by
  have H1 := one_yes R b o c p zs w h (by omega) hL hb.z (getD_rng hb.r p) hb.ne hb.lt
  have HB : Hid (PrB w R b o zs) := hb
  have hx := getD_rng hb.r p
  have hy := getD_rng hb.r (p + 1)
  obtain ⟨y, hy0⟩ : ∃ y, zs.getD (p + 1) 0 = y := ⟨_, rfl⟩
  have HY : Hid (zs.getD (p + 1) 0 = y ∧ True) := ⟨hy0, trivial⟩
  rw [hy0] at hy ⊢
  clear h hb hy0
  generalize zs.getD p 0 = x at *
  go_enter Tryz.func23, Tryz.ntmps23
  go_wp2_with fail
  refine H1.mono ?_
  clear H1
  rintro e w1 ⟨rfl, hR1, ho1⟩
  have hb1 := HB.out.only ho1
  have H2 := one_yes R b o c (p + 1) zs w1 hR1 hp hL hb1.z (getD_rng hb1.r _) hb1.ne hb1.lt
  rw [HY.out.1] at H2
  have HO1 : Hid (Only (fun x => x = R) w w1) := ho1
  clear hR1 ho1 hb1
  go_wp2_with fail
  refine H2.mono ?_
  clear H2
  rintro e w2 ⟨rfl, hR2, ho2⟩
  have HR2 : Hid (PrR w2 R b o zs.length c (p + 1 + 1) ∧ Only (fun x => x = R) w w2) := ⟨hR2, HO1.out.trans ho2⟩
  clear hR2 ho2 HO1
  have hor := or_two x y hx hy
  have hsh : IntKind.i64.wrap (x * 256) = x * 256 := IntWalk.i64_in _ (by omega)
  go_wp2
  go_ret
  exact ⟨by first | rfl | go_num, HR2.out.1, HR2.out.2⟩

/-- Whether one of them is not nought. -/
def anyZ (zs : List Int) : Bool := zs.any (fun z => z != 0)
theorem anyZ_succ (zs : List Int) (k : Nat) (h : k < zs.length) : anyZ (zs.take (k + 1)) = (anyZ (zs.take k) || (zs.getD k 0 != 0)) := by
  unfold anyZ
  rw [List.take_succ_eq_append_getElem h, List.any_append]
  simp [List.getD_eq_getElem?_getD, List.getElem?_eq_getElem h]
theorem anyZ_hit (zs : List Int) (k : Nat) (h : k < zs.length) (h2 : (zs.getD k 0 != 0) = true) : anyZ zs = true := by
  unfold anyZ
  rw [List.any_eq_true]
  refine ⟨zs.getD k 0, ?_, h2⟩
  rw [List.getD_eq_getElem?_getD, List.getElem?_eq_getElem h]; exact List.getElem_mem h
theorem anyZ_no {zs : List Int} : anyZ zs = false ↔ ∀ z ∈ zs, z = 0 := by
  unfold anyZ
  rw [List.any_eq_false]
  simp

set_option maxRecDepth 20000 in
set_option maxHeartbeats 2000000 in
theorem indexRest_any (za : Option Addr) (zc : Nat) (zs : List Int) (w : World) (hz : Byt w za zs) (hzn : zs.length ≤ 1048576) :
    Calls Tryz.prog 33 #[.slice za zs.length zc, .func (.func 26) #[] #[]] w fun e w' =>
      (∃ r : Int, e = .returned (.int .i64 r) ∧ ((anyZ zs = true ∧ 0 ≤ r) ∨ (anyZ zs = false ∧ r = -1))) ∧ Below w.heap.size w w' := by
  have HZ : Hid (Byt w za zs) := hz
  have HH : Hid (∀ k, k < zs.length → (zs.getD k 0 != 0) = true → anyZ zs = true) := fun k h h2 => anyZ_hit zs k h h2
  have HU : Hid (∀ k, k < zs.length → anyZ (zs.take (k + 1)) = (anyZ (zs.take k) || (zs.getD k 0 != 0))) := fun k h => anyZ_succ zs k h
  have HE : Hid (anyZ (zs.take zs.length) = anyZ zs ∧ anyZ (zs.take 0) = false) := ⟨by rw [List.take_length], rfl⟩
  clear hz
  generalize hlen : zs.length = n at *
  have HL : Hid (zs.length = n ∧ True) := ⟨hlen, trivial⟩
  clear hlen
  generalize anyZ zs = r0 at *
  go_enter Tryz.func33, Tryz.ntmps33
  go_wp2
  go_loopw [8] (fun i wr => ∃ k : Nat, k ≤ n ∧ i = .int .i64 k ∧ anyZ (zs.take k) = false ∧ Below w.heap.size w wr) (fun i _ => n - (intOf i).toNat)
  case atStart => exact ⟨0, Nat.zero_le _, rfl, HE.out.2, Below.refl _ _⟩
  case round =>
    obtain ⟨k, hk, rfl, han, hbel⟩ := hrel
    have HAN : Hid (anyZ (zs.take k) = false ∧ True) := ⟨han, trivial⟩
    clear han
    by_cases hlt : k < n
    · obtain ⟨b, off, rfl, hb1, hc1⟩ := (HZ.out.below hbel (Nat.le_refl _)).2 (by rw [HL.out.1]; omega)
      have c0 := hc1 k (by rw [HL.out.1]; exact hlt)
      have hu := HU.out k hlt
      have hh := HH.out k hlt
      rw [HAN.out.1, Bool.false_or] at hu
      have hr := getD_rng HZ.out.1 k
      clear hc1
      generalize zs.getD k 0 = z at *
      have HU2 : Hid (anyZ (zs.take (k + 1)) = (z != 0) ∧ ((z != 0) = true → r0 = true)) := ⟨hu, hh⟩
      clear hu hh
      have HB1 : Hid (Below w.heap.size w wr) := hbel
      by_cases hz0 : z = 0
      · subst hz0
        go_wp2
        go_roundw
        case rel => exact ⟨k + 1, by omega, by go_num, by rw [HU2.out.1]; rfl, HB1.out⟩
        case measure => simp [intOf]; omega
      · have hzb : (z != 0) = true := by simp [hz0]
        go_wp2
        go_ret
        exact ⟨⟨_, rfl, .inl ⟨HU2.out.2 hzb, by omega⟩⟩, HB1.out⟩
    · have hkn : k = n := by omega
      subst hkn
      have HF : Hid (r0 = false ∧ True) := ⟨by rw [← HE.out.1]; exact HAN.out.1, trivial⟩
      go_wp2
      go_ret
      exact ⟨⟨_, rfl, .inr ⟨HF.out.1, rfl⟩⟩, hbel⟩

set_option maxHeartbeats 800000 in
theorem containsRest_any (za : Option Addr) (zc : Nat) (zs : List Int) (w : World) (hz : Byt w za zs) (hzn : zs.length ≤ 1048576) :
    Calls Tryz.prog 25 #[.slice za zs.length zc, .func (.func 26) #[] #[]] w fun e w' =>
      e = .returned (.bool (anyZ zs)) ∧ Below w.heap.size w w' := by
  have HI := indexRest_any za zc zs w hz hzn
  clear hz
  go_enter Tryz.func25, Tryz.ntmps25
  go_wp2_with fail
  refine HI.mono ?_
  clear HI
  rintro e w1 ⟨⟨r, rfl, hr⟩, hb1⟩
  have HB : Hid (Below w.heap.size w w1) := hb1
  clear hb1
  rcases hr with ⟨h1, h2⟩ | ⟨h1, rfl⟩
  · have H1 : Hid (anyZ zs = true ∧ True) := ⟨h1, trivial⟩
    clear h1
    go_wp2
    go_ret
    exact ⟨by rw [H1.out.1]; simp [h2], HB.out⟩
  · have H1 : Hid (anyZ zs = false ∧ True) := ⟨h1, trivial⟩
    clear h1
    go_wp2
    go_ret
    exact ⟨by rw [H1.out.1]; rfl, HB.out⟩
end Go.Proofs.YtjeippleimlljaaGreatDoor
