/-
  The words of Parts, for rows of numbers.
-/
import Derived.WalkKit
import Derived.ProofKit
import Derived.Below
import Derived.Deep.Draws
import Derived.Test.YtkjebacpmmfflaaDoorRows
import Derived.OpenShut
import Derived.ShutString
import Derived.ChangeOld
import Derived.Lib.SmallJoins
import Derived.Test.YtkjebacpmmfflaaDoorCards
import Derived.Test.YtkjebacpmmfflaaDoorTie
import Derived.LaidMore
import Derived.Stop.Joined
import Derived.Stop.LaidErr
import Derived.WalkSmall
import Derived.SevenTiedAt
namespace Go.Proofs.YtkjebacpmmfflaaDoor
open Go.RowKit

/-- A slice value that starts at 'a' and has as many elements as 'zs' reads as the bytes 'zs'. -/
def Byt (w : World) (a : Option Addr) (zs : List Int) : Prop :=
  (∀ z ∈ zs, 0 ≤ z ∧ z ≤ 255) ∧ (0 < zs.length → ∃ b off, a = some ⟨b, off, none⟩ ∧ b < w.heap.size ∧ ∀ i, i < zs.length → w.cell? ⟨b, off + i, none⟩ = some (.int .u8 (zs.getD i 0)))

/-- A slice value that the call itself made, from block 'B' on: it owns the bytes 'zs'. -/
def Own (w : World) (B g cap : Nat) (zs : List Int) : Prop :=
  w.ownsRow B 5 1 (.slice (some ⟨g, 0, none⟩) zs.length cap) zs.length (zs.map (Value.int .u8)) ∧ ∀ z ∈ zs, 0 ≤ z ∧ z ≤ 255

theorem Own.lt {w : World} {B g cap : Nat} {zs : List Int} (h : Own w B g cap zs) : B ≤ g ∧ g < w.heap.size := h.1.lt g rfl

theorem Own.cell {w : World} {B g cap : Nat} {zs : List Int} (h : Own w B g cap zs) (i : Nat) (hi : i < zs.length) : w.cell? ⟨g, i, none⟩ = some (.int .u8 (zs.getD i 0)) := by
  rw [h.1.cellAt i (by omega)]
  simp [List.getElem?_eq_getElem hi]

theorem Own.byt {w : World} {B g cap : Nat} {zs : List Int} (h : Own w B g cap zs) : Byt w (some ⟨g, 0, none⟩) zs :=
  ⟨h.2, fun _ => ⟨g, 0, rfl, h.lt.2, fun i hi => by rw [Nat.zero_add]; exact h.cell i hi⟩⟩

theorem Byt.below {w w' : World} {a : Option Addr} {zs : List Int} {B : Nat} (h : Byt w a zs) (hb : Below B w w') (hB : w.heap.size ≤ B) : Byt w' a zs := by
  refine ⟨h.1, fun hz => ?_⟩
  obtain ⟨b, off, rfl, hlt, hc⟩ := h.2 hz
  refine ⟨b, off, rfl, Nat.lt_of_lt_of_le hlt hb.size, fun i hi => ?_⟩
  rw [hb.cell (p := ⟨b, off + i, none⟩) (Nat.lt_of_lt_of_le hlt hB)]
  exact hc i hi

theorem Own.below {w w' : World} {B B' g cap : Nat} {zs : List Int} (h : Own w B g cap zs) (hb : Below B' w w') (hB : w.heap.size ≤ B') : Own w' B g cap zs := by
  refine ⟨⟨h.1.1, ?_⟩, h.2⟩
  rcases h.1.2 with ⟨h', _⟩ | ⟨g', cap', cur, h', hg, hh, r⟩
  · simp at h'
  · refine .inr ⟨g', cap', cur, h', hg, ?_, r⟩
    rw [hb.block g' (by have := (Array.getElem?_eq_some_iff.1 hh).1; omega)]
    exact hh

theorem Own.mono {w : World} {B B' g cap : Nat} {zs : List Int} (h : Own w B g cap zs) (hB : B' ≤ B) : Own w B' g cap zs := by
  refine ⟨⟨h.1.1, ?_⟩, h.2⟩
  rcases h.1.2 with ⟨h', _⟩ | ⟨g', cap', cur, h', hg, r⟩
  · simp at h'
  · exact .inr ⟨g', cap', cur, h', by omega, r⟩

theorem Byt.len_pos {w : World} {a : Option Addr} {zs : List Int} (h : Byt w a zs) (i : Nat) (hi : i < zs.length) : ∃ b off, a = some ⟨b, off, none⟩ ∧ b < w.heap.size ∧ ∀ i, i < zs.length → w.cell? ⟨b, off + i, none⟩ = some (.int .u8 (zs.getD i 0)) := h.2 (by omega)

theorem ret_int {k : IntKind} {a b : Int} (h : a = b) : Ending.returned (.int k a) = .returned (.int k b) := by rw [h]

theorem bcell {B : Nat} {W w1 : World} (hb : Below B W w1) : (∀ b o, b < B → w1.cell? ⟨b, o, none⟩ = W.cell? ⟨b, o, none⟩) ∧ (∀ b o, b < B → w1.frozen? ⟨b, o, none⟩ = W.frozen? ⟨b, o, none⟩) :=
  ⟨fun b o h => hb.cell (p := ⟨b, o, none⟩) h, fun b o h => hb.frozen (p := ⟨b, o, none⟩) h⟩

/-- What a copying loop has behind k rounds: the first k of zs, the rest still 0. -/
def part (zs : List Int) (k : Nat) : List Int := zs.take k ++ List.replicate (zs.length - k) 0

theorem part_len (zs : List Int) (k : Nat) (h : k ≤ zs.length) : (part zs k).length = zs.length := by simp [part]; omega
theorem part_all (zs : List Int) : part zs zs.length = zs := by simp [part]
theorem part_zero (zs : List Int) : part zs 0 = List.replicate zs.length 0 := by simp [part]

theorem part_get (zs : List Int) (k i : Nat) (h : k ≤ zs.length) : (part zs k)[i]? = if i < k then zs[i]? else if i < zs.length then some 0 else none := by
  unfold part
  rw [List.getElem?_append, List.length_take, Nat.min_eq_left h]
  by_cases h1 : i < k
  · rw [if_pos h1, if_pos h1, List.getElem?_take, if_pos h1]
  · rw [if_neg h1, if_neg h1, List.getElem?_replicate]
    by_cases h2 : i < zs.length
    · rw [if_pos (by omega), if_pos h2]
    · rw [if_neg (by omega), if_neg h2]

theorem part_set (zs : List Int) (k : Nat) (h : k < zs.length) : (part zs k).set k (zs.getD k 0) = part zs (k + 1) := by
  apply List.ext_getElem?
  intro i
  rw [List.getElem?_set, part_get _ _ _ (by omega), part_get _ _ _ (by omega), part_len _ _ (by omega)]
  by_cases e : k = i
  · subst e
    rw [if_pos rfl, if_pos h, if_pos (by omega)]
    simp [h]
  · rw [if_neg e]
    by_cases h1 : i < k
    · rw [if_pos h1, if_pos (by omega)]
    · have h3 : ¬ i < k + 1 := by omega
      rw [if_neg h1, if_neg h3]

theorem part_rng (zs : List Int) (k : Nat) (h : ∀ z ∈ zs, 0 ≤ z ∧ z ≤ 255) : ∀ z ∈ part zs k, 0 ≤ z ∧ z ≤ 255 := by
  intro z hz
  simp only [part, List.mem_append, List.mem_replicate] at hz
  rcases hz with hz | ⟨_, rfl⟩
  · exact h z (List.mem_of_mem_take hz)
  · omega

theorem getD_rng {zs : List Int} (h : ∀ z ∈ zs, 0 ≤ z ∧ z ≤ 255) (i : Nat) : 0 ≤ zs.getD i 0 ∧ zs.getD i 0 ≤ 255 := by
  rw [List.getD_eq_getElem?_getD]
  by_cases hi : i < zs.length
  · rw [List.getElem?_eq_getElem hi]; exact h _ (List.getElem_mem hi)
  · rw [List.getElem?_eq_none (by omega)]; simp

/-- A store into an owned row. -/
theorem Own.store {w : World} {B g cap : Nat} {zs : List Int} (h : Own w B g cap zs) (i : Nat) (z : Int) (hz : 0 ≤ z ∧ z ≤ 255) : Own (w.setCell ⟨g, i, none⟩ (.int .u8 z)) B g cap (zs.set i z) := by
  have := (h.1.stored i (.int .u8 z)).1
  refine ⟨?_, ?_⟩
  · simpa [List.map_set] using this
  · intro y hy
    rcases List.mem_or_eq_of_mem_set hy with hy | rfl
    · exact h.2 y hy
    · exact hz

theorem Own.frozen {w : World} {B g cap : Nat} {zs : List Int} (h : Own w B g cap zs) (i : Nat) : w.frozen? ⟨g, i, none⟩ = false := h.1.frozenAt i

/-- Another row, owned from a block further on, stays while a cell of this one is written. -/
theorem Own.setCell_other {w : World} {B g cap : Nat} {zs : List Int} (h : Own w B g cap zs) {p : Addr} (hp : p.block ≠ g) (u : Value) : Own (w.setCell p u) B g cap zs := by
  refine ⟨⟨h.1.1, ?_⟩, h.2⟩
  rcases h.1.2 with ⟨h', _⟩ | ⟨g', cap', cur, h', hg, hh, r⟩
  · simp at h'
  · have e : g' = g := by simp at h'; exact h'.1.symm
    subst e
    exact .inr ⟨g', cap', cur, h', hg, by rw [Below.heap_setCell _ _ _ _ (by omega)]; exact hh, r⟩

theorem take_eq_succ {xs ys : List Int} {k : Nat} (h : xs.take k = ys.take k) (hx : k < xs.length) (hy : k < ys.length) (he : xs.getD k 0 = ys.getD k 0) : xs.take (k + 1) = ys.take (k + 1) := by
  rw [List.take_succ_eq_append_getElem hx, List.take_succ_eq_append_getElem hy, h]
  simp [hx, hy] at he
  rw [he]

theorem ne_of_getD {xs ys : List Int} {k : Nat} (he : xs.getD k 0 ≠ ys.getD k 0) : xs ≠ ys := fun h => he (by rw [h])

theorem Byt.drewN {w : World} {a : Option Addr} {zs : List Int} (h : Byt w a zs) (n : Nat) : Byt (w.drewN n) a zs := h
theorem Own.drewN {w : World} {B g cap : Nat} {zs : List Int} (h : Own w B g cap zs) (n : Nat) : Own (w.drewN n) B g cap zs := h

/-- A cell of a block below B is there in a later world. -/
theorem keep {B : Nat} {w w' : World} (h : Below B w w') {b o : Nat} {v : Value} (hb : b < B) (hc : w.cell? ⟨b, o, none⟩ = some v) : w'.cell? ⟨b, o, none⟩ = some v := (h.cell (p := ⟨b, o, none⟩) hb).trans hc

theorem keepA {w : World} (ob : Obj) {b o : Nat} {v : Value} (hb : b < w.heap.size) (hc : w.cell? ⟨b, o, none⟩ = some v) : (w.alloc ob).cell? ⟨b, o, none⟩ = some v := keep ((Below.refl w.heap.size w).alloc (Nat.le_refl _) ob) hb hc
theorem Own.alloc {w : World} {B g cap : Nat} {zs : List Int} (h : Own w B g cap zs) (ob : Obj) : Own (w.alloc ob) B g cap zs := h.below ((Below.refl w.heap.size w).alloc (Nat.le_refl _) ob) (Nat.le_refl _)
theorem Byt.alloc {w : World} {a : Option Addr} {zs : List Int} (h : Byt w a zs) (ob : Obj) : Byt (w.alloc ob) a zs := h.below ((Below.refl w.heap.size w).alloc (Nat.le_refl _) ob) (Nat.le_refl _)
theorem Below.drewS {B : Nat} {w w' : World} (h : Below B w.drew w') : Below B w w' := ⟨h.os, h.tape, h.output, h.size, h.block⟩

end Go.Proofs.YtkjebacpmmfflaaDoor
namespace Go.Proofs.YtkjebacpmmfflaaDoor
open Go.ChangeShapes Go.WideShapes Go.ChangeAt Go.RowKit Go.Joins
set_option linter.unusedVariables false

theorem Tryd.own : ownKnob Tryd.prog.godebug = none := by kernel_rfl
theorem Tryd.laidOut : laidOutB Tryd.prog = true := by kernel_rfl

/-- A slice of bytes that came in reads as some bytes. -/
theorem byt_of_trod {H : Type} {enc : TypeId × Value → H} {W : World} {fuel : Nat} {v : Value} {y : DataW H × List MemPlace}
    (h : DataW.trod enc Tryd.prog W 0 (fun _ => true) true fuel 22 [v] = some y) :
    ∃ (a : Option Addr) (zs : List Int) (cap : Nat), v = .slice a zs.length cap ∧ Byt W a zs ∧ zs.length ≤ maxLen := by
  rcases open_ints Tryd.underlying22 Tryd.underlying5 (by kernel_rfl) h with ⟨hcs, _⟩ | ⟨x, l, c, zs, hcs, _, hl, hm, hz, _, hcell, hwz⟩
  · simp at hcs
    subst hcs
    exact ⟨.none, [], 0, rfl, ⟨by simp, by simp⟩, by simp [maxLen]⟩
  · simp at hcs
    subst hcs
    simp only [if_true] at hz
    have hlen : (zs.take l).length = l := by rw [List.length_take]; omega
    refine ⟨some x, zs.take l, c, by rw [hlen], ⟨?_, ?_⟩, by rw [hlen]; omega⟩
    · intro z hz'
      have := hwz z (List.mem_of_mem_take hz')
      simp [Lit.wf] at this
      exact bounds_u8 (hwz z (List.mem_of_mem_take hz'))
    · intro hp
      rw [hlen] at hp
      obtain ⟨b, off, spot⟩ := x
      have hc := hcell 0 (by omega)
      have hspot : spot = .none := by simpa [Addr.add] using World.cell?_spot hc
      subst hspot
      refine ⟨b, off, rfl, ?_, fun i hi => ?_⟩
      · have := World.block_lt_of_cell? _ _ hc
        simpa [Addr.add] using this
      · rw [hlen] at hi
        have := hcell i (by omega)
        have hadd : (⟨b, off, .none⟩ : Addr).add i = ⟨b, off + i, .none⟩ := by unfold Addr.add; split <;> simp_all
        rw [hadd] at this
        rw [show (zs.take l).getD i 0 = zs.getD i 0 from by simp [hi]]
        exact this

theorem Tryd.gRange : Tryd.prog.globalNamed "loop.example/g00528/impl.errRange" = some 7 := by kernel_rfl
theorem Tryd.gFull : Tryd.prog.globalNamed "loop.example/g00528/impl.errFull" = some 10 := by kernel_rfl
theorem Tryd.gOver : Tryd.prog.globalNamed "loop.example/g00528/impl.errOver" = some 8 := by kernel_rfl
theorem Tryd.tRange : (Tryd.prog.globals[7]?).map (·.type) = some 63 := by kernel_rfl
theorem Tryd.tFull : (Tryd.prog.globals[10]?).map (·.type) = some 63 := by kernel_rfl
theorem Tryd.tOver : (Tryd.prog.globals[8]?).map (·.type) = some 63 := by kernel_rfl
theorem Tryd.cellsES : Tryd.prog.cellsOf 177 = 1 := by kernel_rfl
theorem Tryd.cellsStr : Tryd.prog.cellsOf 9 = 1 := by kernel_rfl
theorem Tryd.star : "*" ++ "errors.errorString" = "*errors.errorString" := by decide
theorem Tryd.rowES (u : TypeId) (h : Tryd.prog.typeName? 3 u = some "*errors.errorString") : u = 154 :=
  typeName_ptr_named (nm := "errors.errorString") (by rw [Tryd.star]; kernel_rfl) (by kernel_rfl) (by decide) u (by rw [Tryd.star]; exact h)

/-- The head of a list of sentinels. -/
theorem sentinel {n : String} {text : List UInt8} {r : List (String × DataW Unit)} {W : World} {g : Nat} (h : laidMet Tryd.prog ((n, .iface "*errors.errorString" (.ptr (.agg [.lit (.string text)]))) :: r) W)
    (hg : Tryd.prog.globalNamed n = some g) (ht : (Tryd.prog.globals[g]?).map (·.type) = some 63) :
    ∃ a : Addr, W.var? Tryd.prog n = some #[.iface 154 (.pointer (some a))] ∧ W.cell? ⟨g, 0, .none⟩ = some (.iface 154 (.pointer (some a))) := by
  obtain ⟨a0, s0, hv0, hc0, hs0, hz0⟩ := laid_sentinel h hg ht Tryd.underlying63 Tryd.rowES Tryd.underlying154 Tryd.underlying177 rfl rfl Tryd.underlying9 Tryd.cellsES Tryd.cellsStr
  exact ⟨a0, hv0, by simpa using World.var?_cell hg hv0 0⟩

end Go.Proofs.YtkjebacpmmfflaaDoor
namespace Go.Proofs.YtkjebacpmmfflaaDoor
open Go.RowKit

/-- A slice value that starts at 'a' and has as many elements as 'zs' reads as the numbers 'zs'. -/
def Ins (w : World) (a : Option Addr) (zs : List Int) : Prop :=
  (∀ z ∈ zs, -9223372036854775808 ≤ z ∧ z ≤ 9223372036854775807) ∧ (0 < zs.length → ∃ b off, a = some ⟨b, off, none⟩ ∧ b < w.heap.size ∧ ∀ i, i < zs.length → w.cell? ⟨b, off + i, none⟩ = some (.int .i64 (zs.getD i 0)))

/-- A slice value that the call itself made, from block 'B' on: it owns the numbers 'zs'. -/
def OwI (w : World) (B g cap : Nat) (zs : List Int) : Prop :=
  w.ownsRow B 3 1 (.slice (some ⟨g, 0, none⟩) zs.length cap) zs.length (zs.map (Value.int .i64)) ∧ ∀ z ∈ zs, -9223372036854775808 ≤ z ∧ z ≤ 9223372036854775807

theorem OwI.lt {w : World} {B g cap : Nat} {zs : List Int} (h : OwI w B g cap zs) : B ≤ g ∧ g < w.heap.size := h.1.lt g rfl

theorem OwI.cell {w : World} {B g cap : Nat} {zs : List Int} (h : OwI w B g cap zs) (i : Nat) (hi : i < zs.length) : w.cell? ⟨g, i, none⟩ = some (.int .i64 (zs.getD i 0)) := by
  rw [h.1.cellAt i (by omega)]
  simp [List.getElem?_eq_getElem hi]

theorem OwI.byt {w : World} {B g cap : Nat} {zs : List Int} (h : OwI w B g cap zs) : Ins w (some ⟨g, 0, none⟩) zs :=
  ⟨h.2, fun _ => ⟨g, 0, rfl, h.lt.2, fun i hi => by rw [Nat.zero_add]; exact h.cell i hi⟩⟩

theorem Ins.below {w w' : World} {a : Option Addr} {zs : List Int} {B : Nat} (h : Ins w a zs) (hb : Below B w w') (hB : w.heap.size ≤ B) : Ins w' a zs := by
  refine ⟨h.1, fun hz => ?_⟩
  obtain ⟨b, off, rfl, hlt, hc⟩ := h.2 hz
  refine ⟨b, off, rfl, Nat.lt_of_lt_of_le hlt hb.size, fun i hi => ?_⟩
  rw [hb.cell (p := ⟨b, off + i, none⟩) (Nat.lt_of_lt_of_le hlt hB)]
  exact hc i hi

theorem OwI.below {w w' : World} {B B' g cap : Nat} {zs : List Int} (h : OwI w B g cap zs) (hb : Below B' w w') (hB : w.heap.size ≤ B') : OwI w' B g cap zs := by
  refine ⟨⟨h.1.1, ?_⟩, h.2⟩
  rcases h.1.2 with ⟨h', _⟩ | ⟨g', cap', cur, h', hg, hh, r⟩
  · simp at h'
  · refine .inr ⟨g', cap', cur, h', hg, ?_, r⟩
    rw [hb.block g' (by have := (Array.getElem?_eq_some_iff.1 hh).1; omega)]
    exact hh

theorem OwI.mono {w : World} {B B' g cap : Nat} {zs : List Int} (h : OwI w B g cap zs) (hB : B' ≤ B) : OwI w B' g cap zs := by
  refine ⟨⟨h.1.1, ?_⟩, h.2⟩
  rcases h.1.2 with ⟨h', _⟩ | ⟨g', cap', cur, h', hg, r⟩
  · simp at h'
  · exact .inr ⟨g', cap', cur, h', by omega, r⟩

theorem Ins.len_pos {w : World} {a : Option Addr} {zs : List Int} (h : Ins w a zs) (i : Nat) (hi : i < zs.length) : ∃ b off, a = some ⟨b, off, none⟩ ∧ b < w.heap.size ∧ ∀ i, i < zs.length → w.cell? ⟨b, off + i, none⟩ = some (.int .i64 (zs.getD i 0)) := h.2 (by omega)

theorem part_rngI (zs : List Int) (k : Nat) (h : ∀ z ∈ zs, -9223372036854775808 ≤ z ∧ z ≤ 9223372036854775807) : ∀ z ∈ part zs k, -9223372036854775808 ≤ z ∧ z ≤ 9223372036854775807 := by
  intro z hz
  simp only [part, List.mem_append, List.mem_replicate] at hz
  rcases hz with hz | ⟨_, rfl⟩
  · exact h z (List.mem_of_mem_take hz)
  · omega

theorem getD_rngI {zs : List Int} (h : ∀ z ∈ zs, -9223372036854775808 ≤ z ∧ z ≤ 9223372036854775807) (i : Nat) : -9223372036854775808 ≤ zs.getD i 0 ∧ zs.getD i 0 ≤ 9223372036854775807 := by
  rw [List.getD_eq_getElem?_getD]
  by_cases hi : i < zs.length
  · rw [List.getElem?_eq_getElem hi]; exact h _ (List.getElem_mem hi)
  · rw [List.getElem?_eq_none (by omega)]; simp

/-- A store into an owned row. -/
theorem OwI.store {w : World} {B g cap : Nat} {zs : List Int} (h : OwI w B g cap zs) (i : Nat) (z : Int) (hz : -9223372036854775808 ≤ z ∧ z ≤ 9223372036854775807) : OwI (w.setCell ⟨g, i, none⟩ (.int .i64 z)) B g cap (zs.set i z) := by
  have := (h.1.stored i (.int .i64 z)).1
  refine ⟨?_, ?_⟩
  · simpa [List.map_set] using this
  · intro y hy
    rcases List.mem_or_eq_of_mem_set hy with hy | rfl
    · exact h.2 y hy
    · exact hz

theorem OwI.frozen {w : World} {B g cap : Nat} {zs : List Int} (h : OwI w B g cap zs) (i : Nat) : w.frozen? ⟨g, i, none⟩ = false := h.1.frozenAt i

/-- Another row, owned from a block further on, stays while a cell of this one is written. -/
theorem OwI.setCell_other {w : World} {B g cap : Nat} {zs : List Int} (h : OwI w B g cap zs) {p : Addr} (hp : p.block ≠ g) (u : Value) : OwI (w.setCell p u) B g cap zs := by
  refine ⟨⟨h.1.1, ?_⟩, h.2⟩
  rcases h.1.2 with ⟨h', _⟩ | ⟨g', cap', cur, h', hg, hh, r⟩
  · simp at h'
  · have e : g' = g := by simp at h'; exact h'.1.symm
    subst e
    exact .inr ⟨g', cap', cur, h', hg, by rw [Below.heap_setCell _ _ _ _ (by omega)]; exact hh, r⟩

theorem Ins.drewN {w : World} {a : Option Addr} {zs : List Int} (h : Ins w a zs) (n : Nat) : Ins (w.drewN n) a zs := h
theorem OwI.drewN {w : World} {B g cap : Nat} {zs : List Int} (h : OwI w B g cap zs) (n : Nat) : OwI (w.drewN n) B g cap zs := h

theorem OwI.alloc {w : World} {B g cap : Nat} {zs : List Int} (h : OwI w B g cap zs) (ob : Obj) : OwI (w.alloc ob) B g cap zs := h.below ((Below.refl w.heap.size w).alloc (Nat.le_refl _) ob) (Nat.le_refl _)
theorem Ins.alloc {w : World} {a : Option Addr} {zs : List Int} (h : Ins w a zs) (ob : Obj) : Ins (w.alloc ob) a zs := h.below ((Below.refl w.heap.size w).alloc (Nat.le_refl _) ob) (Nat.le_refl _)
end Go.Proofs.YtkjebacpmmfflaaDoor
