/-
  The row of the table for a number, what 'make' lays of numbers, and how rows of numbers stay.
-/
import Derived.Test.YtkjebacpmmfflaaDoorRows
import Derived.Test.YtkjebacpmmfflaaDoorIParts
import Derived.WalkKit
import Derived.ProofKit
import Derived.OpenShut
import Derived.ShutString
import Derived.ChangeOld
import Derived.Below
import Derived.Lib.SmallJoins
import Derived.Test.YtkjebacpmmfflaaDoorProg
import Derived.WalkLawsBesides
import Derived.Outline
import Derived.BigQuiet
import Derived.Deep.QuietTactic
namespace Go.Proofs.YtkjebacpmmfflaaDoor
open Go.ChangeShapes Go.WideShapes Go.ChangeAt Go.RowKit Go.Joins
set_option linter.unusedVariables false

theorem Tryd.ownI : ownKnob Tryd.prog.godebug = none := by kernel_rfl
theorem Tryd.laidOutI : laidOutB Tryd.prog = true := by kernel_rfl

/-- A slice of numbers that came in reads as some numbers. -/
theorem ins_of_trod {H : Type} {enc : TypeId × Value → H} {W : World} {fuel : Nat} {v : Value} {y : DataW H × List MemPlace}
    (h : DataW.trod enc Tryd.prog W 0 (fun _ => true) true fuel 23 [v] = some y) :
    ∃ (a : Option Addr) (zs : List Int) (cap : Nat), v = .slice a zs.length cap ∧ Ins W a zs ∧ zs.length ≤ maxLen := by
  rcases open_ints Tryd.underlying23 Tryd.underlying3 (by kernel_rfl) h with ⟨hcs, _⟩ | ⟨x, l, c, zs, hcs, _, hl, hm, hz, _, hcell, hwz⟩
  · simp at hcs
    subst hcs
    exact ⟨.none, [], 0, rfl, ⟨by simp, by simp⟩, by simp [maxLen]⟩
  · simp at hcs
    subst hcs
    simp only [if_true] at hz
    have hlen : (zs.take l).length = l := by rw [List.length_take]; omega
    refine ⟨some x, zs.take l, c, by rw [hlen], ⟨?_, ?_⟩, by rw [hlen]; omega⟩
    · intro z hz'
      have h1 := hwz z (List.mem_of_mem_take hz')
      exact bounds_i64 h1
    · intro hp
      rw [hlen] at hp
      obtain ⟨b, off, spot⟩ := x
      have hc := hcell 0 (by omega)
      have hspot : spot = .none := by simpa [Addr.add] using World.cell?_spot hc
      subst hspot
      refine ⟨b, off, rfl, ?_, fun i hi => ?_⟩
      · have := World.block_lt_of_cell? _ _ hc
        simpa [Addr.add] using this
      · rw [hlen] at hi
        have := hcell i (by omega)
        have hadd : (⟨b, off, .none⟩ : Addr).add i = ⟨b, off + i, .none⟩ := by unfold Addr.add; split <;> simp_all
        rw [hadd] at this
        rw [show (zs.take l).getD i 0 = zs.getD i 0 from by simp [hi]]
        exact this

end Go.Proofs.YtkjebacpmmfflaaDoor
namespace Go.Proofs.YtkjebacpmmfflaaDoor
open Go.RowKit
set_option linter.unusedVariables false

theorem Tryd.infoU8 : (Tryd.prog.info? 5).map (fun i => (i.zero, i.size, i.bytes)) = some (some (.int .u8 0), 1, 1) := by kernel_rfl

theorem made_zero (n : Nat) : (madeCells (Value.int .u8 0).cells (n * 1)).toList = (List.replicate n (0 : Int)).map (Value.int .u8) := by
  simp only [madeCells, Value.cells, Nat.mul_one, Array.toList_map, Array.toList_range, List.map_replicate]
  rw [List.eq_replicate_iff]
  refine ⟨by simp, fun b hb => ?_⟩
  simp only [List.mem_map] at hb
  obtain ⟨x, _, rfl⟩ := hb
  simp [Nat.mod_one]

/-- From w to w' no block that was there has turned but those in S. -/
structure Only (S : Nat → Prop) (w w' : World) : Prop where
  os : w'.os = w.os
  tape : w'.tape = w.tape
  output : w'.output = w.output
  size : w.heap.size ≤ w'.heap.size
  block : ∀ k, k < w.heap.size → ¬ S k → w'.heap[k]? = w.heap[k]?

theorem Only.refl (S : Nat → Prop) (w : World) : Only S w w := ⟨rfl, rfl, rfl, Nat.le_refl _, fun _ _ _ => rfl⟩
theorem Only.trans {S : Nat → Prop} {a b c : World} (h : Only S a b) (k : Only S b c) : Only S a c :=
  ⟨k.os.trans h.os, k.tape.trans h.tape, k.output.trans h.output, Nat.le_trans h.size k.size, fun i hi hs => (k.block i (Nat.lt_of_lt_of_le hi h.size) hs).trans (h.block i hi hs)⟩
theorem Only.mono {S T : Nat → Prop} {a b : World} (h : Only S a b) (hs : ∀ k, k < a.heap.size → S k → T k) : Only T a b :=
  ⟨h.os, h.tape, h.output, h.size, fun i hi ht => h.block i hi (fun hh => ht (hs i hi hh))⟩
theorem Only.ofBelow {S : Nat → Prop} {B : Nat} {a b : World} (h : Below B a b) (hB : a.heap.size ≤ B) : Only S a b := ⟨h.os, h.tape, h.output, h.size, fun i hi _ => h.block i (by omega)⟩
theorem Only.below {S : Nat → Prop} {B : Nat} {a b : World} (h : Only S a b) (hB : B ≤ a.heap.size) (hs : ∀ k, S k → B ≤ k) : Below B a b :=
  ⟨h.os, h.tape, h.output, h.size, fun k hk => h.block k (by omega) (fun hh => by have := hs k hh; omega)⟩
theorem Only.alloc {S : Nat → Prop} {a b : World} (h : Only S a b) (o : Obj) : Only S a (b.alloc o) :=
  ⟨h.os, h.tape, h.output, by have := h.size; simp; omega, fun i hi hs => (Below.heap_alloc _ _ _ (by have := h.size; omega)).trans (h.block i hi hs)⟩
theorem Only.drewN {S : Nat → Prop} {a b : World} (h : Only S a b) (n : Nat) : Only S a (b.drewN n) := ⟨h.os, h.tape, h.output, h.size, h.block⟩
theorem Only.drew {S : Nat → Prop} {a b : World} (h : Only S a b) : Only S a b.drew := ⟨h.os, h.tape, h.output, h.size, h.block⟩
theorem Only.setCell {S : Nat → Prop} {a b : World} (h : Only S a b) {p : Addr} (hp : S p.block ∨ a.heap.size ≤ p.block) (u : Value) : Only S a (b.setCell p u) := by
  refine ⟨h.os, h.tape, h.output, by have := h.size; simp [World.setCell]; omega, fun i hi hs => ?_⟩
  have hne : i ≠ p.block := by
    rintro rfl
    rcases hp with hp | hp
    · exact hs hp
    · omega
  exact (Below.heap_setCell _ _ _ _ hne).trans (h.block i hi hs)
theorem Only.grown {S : Nat → Prop} {a b c : World} {row : Option Nat} (h : Only S a b) (hg : b.grownBy c row) (hr : ∀ k, row = some k → S k ∨ a.heap.size ≤ k) : Only S a c :=
  ⟨hg.os.trans h.os, hg.tape.trans h.tape, hg.output.trans h.output, Nat.le_trans h.size hg.size, fun i hi hs => (hg.block i (Nat.lt_of_lt_of_le hi h.size) (fun e => by
    rcases hr i e.symm with hh | hh
    · exact hs hh
    · omega)).trans (h.block i hi hs)⟩
theorem Only.cell {S : Nat → Prop} {w w' : World} (h : Only S w w') {b o : Nat} {v : Value} (hb : b < w.heap.size) (hs : ¬ S b) (hc : w.cell? ⟨b, o, none⟩ = some v) : w'.cell? ⟨b, o, none⟩ = some v :=
  (World.cell?_of_block (w := w) (a := ⟨b, o, none⟩) (h.block b hb hs)).trans hc
theorem Own.only {S : Nat → Prop} {w w' : World} {B g cap : Nat} {zs : List Int} (h : Own w B g cap zs) (ho : Only S w w') (hs : ¬ S g) : Own w' B g cap zs := by
  refine ⟨⟨h.1.1, ?_⟩, h.2⟩
  have hlt := h.lt.2
  rcases h.1.2 with ⟨h', _⟩ | ⟨g', cap', cur, h', hg, hh, r⟩
  · simp at h'
  · have e : g' = g := by simp at h'; exact h'.1.symm
    subst e
    exact .inr ⟨g', cap', cur, h', hg, by rw [ho.block g' hlt hs]; exact hh, r⟩

/-- The bytes of an answer: nothing, or a row of its own between two blocks. -/
def Mine (w : World) (B U : Nat) (a : Option Addr) (cap : Nat) (zs : List Int) : Prop :=
  (a = none ∧ zs = [] ∧ cap = 0) ∨ ∃ g, a = some ⟨g, 0, none⟩ ∧ B ≤ g ∧ g < U ∧ Own w B g cap zs

theorem Mine.byt {w : World} {B U : Nat} {a : Option Addr} {cap : Nat} {zs : List Int} (h : Mine w B U a cap zs) : Byt w a zs := by
  rcases h with ⟨rfl, rfl, rfl⟩ | ⟨g, rfl, _, _, h⟩
  · exact ⟨by simp, by simp⟩
  · exact h.byt
theorem Mine.only {S : Nat → Prop} {w w' : World} {B U : Nat} {a : Option Addr} {cap : Nat} {zs : List Int} (h : Mine w B U a cap zs) (ho : Only S w w') (hs : ∀ k, B ≤ k → k < U → ¬ S k) : Mine w' B U a cap zs := by
  rcases h with h | ⟨g, rfl, h1, h2, h⟩
  · exact .inl h
  · exact .inr ⟨g, rfl, h1, h2, h.only ho (hs g h1 h2)⟩
theorem Mine.below {w w' : World} {B U : Nat} {a : Option Addr} {cap : Nat} {zs : List Int} (h : Mine w B U a cap zs) (ho : Below w.heap.size w w') : Mine w' B U a cap zs := h.only (Only.ofBelow (S := fun _ => False) ho (Nat.le_refl _)) (by simp)
theorem Mine.mono {w : World} {B U B' U' : Nat} {a : Option Addr} {cap : Nat} {zs : List Int} (h : Mine w B U a cap zs) (h1 : B' ≤ B) (h2 : U ≤ U') : Mine w B' U' a cap zs := by
  rcases h with h | ⟨g, rfl, g1, g2, h⟩
  · exact .inl h
  · exact .inr ⟨g, rfl, by omega, by omega, h.mono h1⟩
theorem Own.mine {w : World} {B g cap : Nat} {zs : List Int} (h : Own w B g cap zs) : Mine w B w.heap.size (some ⟨g, 0, none⟩) cap zs := .inr ⟨g, rfl, h.lt.1, h.lt.2, h⟩

/-- Only what lies at 'a' is written. -/
def rowOf (a : Option Addr) (k : Nat) : Prop := ∃ x : Addr, a = some x ∧ x.block = k

theorem Tryd.infoI64 : (Tryd.prog.info? 3).map (fun i => (i.zero, i.size, i.bytes)) = some (some (.int .i64 0), 1, 8) := by kernel_rfl

theorem made_zeroI (n : Nat) : (madeCells (Value.int .i64 0).cells (n * 1)).toList = (List.replicate n (0 : Int)).map (Value.int .i64) := by
  simp only [madeCells, Value.cells, Nat.mul_one, Array.toList_map, Array.toList_range, List.map_replicate]
  rw [List.eq_replicate_iff]
  refine ⟨by simp, fun b hb => ?_⟩
  simp only [List.mem_map] at hb
  obtain ⟨x, _, rfl⟩ := hb
  simp [Nat.mod_one]



theorem OwI.only {S : Nat → Prop} {w w' : World} {B g cap : Nat} {zs : List Int} (h : OwI w B g cap zs) (ho : Only S w w') (hs : ¬ S g) : OwI w' B g cap zs := by
  refine ⟨⟨h.1.1, ?_⟩, h.2⟩
  have hlt := h.lt.2
  rcases h.1.2 with ⟨h', _⟩ | ⟨g', cap', cur, h', hg, hh, r⟩
  · simp at h'
  · have e : g' = g := by simp at h'; exact h'.1.symm
    subst e
    exact .inr ⟨g', cap', cur, h', hg, by rw [ho.block g' hlt hs]; exact hh, r⟩

/-- The numbers of an answer: nothing, or a row of its own between two blocks. -/
def MinI (w : World) (B U : Nat) (a : Option Addr) (cap : Nat) (zs : List Int) : Prop :=
  (a = none ∧ zs = [] ∧ cap = 0) ∨ ∃ g, a = some ⟨g, 0, none⟩ ∧ B ≤ g ∧ g < U ∧ OwI w B g cap zs

theorem MinI.byt {w : World} {B U : Nat} {a : Option Addr} {cap : Nat} {zs : List Int} (h : MinI w B U a cap zs) : Ins w a zs := by
  rcases h with ⟨rfl, rfl, rfl⟩ | ⟨g, rfl, _, _, h⟩
  · exact ⟨by simp, by simp⟩
  · exact h.byt
theorem MinI.only {S : Nat → Prop} {w w' : World} {B U : Nat} {a : Option Addr} {cap : Nat} {zs : List Int} (h : MinI w B U a cap zs) (ho : Only S w w') (hs : ∀ k, B ≤ k → k < U → ¬ S k) : MinI w' B U a cap zs := by
  rcases h with h | ⟨g, rfl, h1, h2, h⟩
  · exact .inl h
  · exact .inr ⟨g, rfl, h1, h2, h.only ho (hs g h1 h2)⟩
theorem MinI.below {w w' : World} {B U : Nat} {a : Option Addr} {cap : Nat} {zs : List Int} (h : MinI w B U a cap zs) (ho : Below w.heap.size w w') : MinI w' B U a cap zs := h.only (Only.ofBelow (S := fun _ => False) ho (Nat.le_refl _)) (by simp)
theorem MinI.mono {w : World} {B U B' U' : Nat} {a : Option Addr} {cap : Nat} {zs : List Int} (h : MinI w B U a cap zs) (h1 : B' ≤ B) (h2 : U ≤ U') : MinI w B' U' a cap zs := by
  rcases h with h | ⟨g, rfl, g1, g2, h⟩
  · exact .inl h
  · exact .inr ⟨g, rfl, by omega, by omega, h.mono h1⟩
theorem OwI.mine {w : World} {B g cap : Nat} {zs : List Int} (h : OwI w B g cap zs) : MinI w B w.heap.size (some ⟨g, 0, none⟩) cap zs := .inr ⟨g, rfl, h.lt.1, h.lt.2, h⟩

end Go.Proofs.YtkjebacpmmfflaaDoor
