/-
  The words of Parts, for rows of numbers.
-/
import Derived.Test.YtmhpgkfaihcmeaaDoorOpenB
import Derived.Test.YtmhpgkfaihcmeaaDoorCards
import Derived.Test.YtmhpgkfaihcmeaaDoorTie
import Derived.LaidMore
import Derived.Stop.Joined
import Derived.Stop.LaidErr
import Derived.WalkSmall
import Derived.SevenTiedAt
namespace Go.Proofs.YtmhpgkfaihcmeaaDoor
open Go.ChangeShapes Go.WideShapes Go.ChangeAt Go.RowKit Go.Joins
set_option linter.unusedVariables false

theorem Tryd.gRange : Tryd.prog.globalNamed "loop.example/g00528/impl.errRange" = some 3 := by kernel_rfl
theorem Tryd.gFull : Tryd.prog.globalNamed "loop.example/g00528/impl.errFull" = some 4 := by kernel_rfl
theorem Tryd.gOver : Tryd.prog.globalNamed "loop.example/g00528/impl.errOver" = some 5 := by kernel_rfl
theorem Tryd.tRange : (Tryd.prog.globals[3]?).map (·.type) = some 55 := by kernel_rfl
theorem Tryd.tFull : (Tryd.prog.globals[4]?).map (·.type) = some 55 := by kernel_rfl
theorem Tryd.tOver : (Tryd.prog.globals[5]?).map (·.type) = some 55 := by kernel_rfl
theorem Tryd.cellsES : Tryd.prog.cellsOf 125 = 1 := by kernel_rfl
theorem Tryd.cellsStr : Tryd.prog.cellsOf 9 = 1 := by kernel_rfl
theorem Tryd.star : "*" ++ "errors.errorString" = "*errors.errorString" := by decide
theorem Tryd.rowES (u : TypeId) (h : Tryd.prog.typeName? 3 u = some "*errors.errorString") : u = 108 :=
  typeName_ptr_named (nm := "errors.errorString") (by rw [Tryd.star]; kernel_rfl) (by kernel_rfl) (by decide) u (by rw [Tryd.star]; exact h)

/-- The head of a list of sentinels. -/
theorem sentinel {n : String} {text : List UInt8} {r : List (String × DataW Unit)} {W : World} {g : Nat} (h : laidMet Tryd.prog ((n, .iface "*errors.errorString" (.ptr (.agg [.lit (.string text)]))) :: r) W)
    (hg : Tryd.prog.globalNamed n = some g) (ht : (Tryd.prog.globals[g]?).map (·.type) = some 55) :
    ∃ a : Addr, W.var? Tryd.prog n = some #[.iface 108 (.pointer (some a))] ∧ W.cell? ⟨g, 0, .none⟩ = some (.iface 108 (.pointer (some a))) := by
  obtain ⟨a0, s0, hv0, hc0, hs0, hz0⟩ := laid_sentinel h hg ht Tryd.underlying55 Tryd.rowES Tryd.underlying108 Tryd.underlying125 rfl rfl Tryd.underlying9 Tryd.cellsES Tryd.cellsStr
  exact ⟨a0, hv0, by simpa using World.var?_cell hg hv0 0⟩

end Go.Proofs.YtmhpgkfaihcmeaaDoor
namespace Go.Proofs.YtmhpgkfaihcmeaaDoor
open Go.ChangeShapes Go.WideShapes Go.ChangeAt Go.RowKit Go.Joins

theorem vars_three {H : Type} (enc : TypeId × Value → H) {P : Program} {W : World} {n0 n1 n2 : String} {g0 g1 g2 : Nat} {t0 t1 t2 : TypeId} {ms0 ms1 ms2 : Array (String × TypeId)} {x0 x1 x2 : Value}
    (hg0 : P.globalNamed n0 = some g0) (ht0 : (P.globals[g0]?).map (·.type) = some t0) (hi0 : P.underlying t0 = some (.interface ms0)) (h0 : W.var? P n0 = some #[x0]) (i0 : IsIface x0)
    (hg1 : P.globalNamed n1 = some g1) (ht1 : (P.globals[g1]?).map (·.type) = some t1) (hi1 : P.underlying t1 = some (.interface ms1)) (h1 : W.var? P n1 = some #[x1]) (i1 : IsIface x1)
    (hg2 : P.globalNamed n2 = some g2) (ht2 : (P.globals[g2]?).map (·.type) = some t2) (hi2 : P.underlying t2 = some (.interface ms2)) (h2 : W.var? P n2 = some #[x2]) (i2 : IsIface x2) (sp : Nat → Bool) :
    DataW.TrodVars enc P W sp [n0, n1, n2] [tok enc x0, tok enc x1, tok enc x2] [.cell g0 0, .cell g1 0, .cell g2 0] :=
  ⟨g0, t0, #[x0], 1, [], [.cell g1 0, .cell g2 0], hg0, ht0, h0, trod_held hi0 i0 0, vars_read2 enc hg1 ht1 hi1 h1 i1 hg2 ht2 hi2 h2 i2 sp, rfl⟩
end Go.Proofs.YtmhpgkfaihcmeaaDoor
namespace Go.Proofs.YtmhpgkfaihcmeaaDoor
open Go.RowKit

/-- A slice value that starts at 'a' and has as many elements as 'zs' reads as the numbers 'zs'. -/
def Ins (w : World) (a : Option Addr) (zs : List Int) : Prop :=
  (∀ z ∈ zs, -9223372036854775808 ≤ z ∧ z ≤ 9223372036854775807) ∧ (0 < zs.length → ∃ b off, a = some ⟨b, off, none⟩ ∧ b < w.heap.size ∧ ∀ i, i < zs.length → w.cell? ⟨b, off + i, none⟩ = some (.int .i64 (zs.getD i 0)))

/-- A slice value that the call itself made, from block 'B' on: it owns the numbers 'zs'. -/
def OwI (w : World) (B g cap : Nat) (zs : List Int) : Prop :=
  w.ownsRow B 3 1 (.slice (some ⟨g, 0, none⟩) zs.length cap) zs.length (zs.map (Value.int .i64)) ∧ ∀ z ∈ zs, -9223372036854775808 ≤ z ∧ z ≤ 9223372036854775807

theorem OwI.lt {w : World} {B g cap : Nat} {zs : List Int} (h : OwI w B g cap zs) : B ≤ g ∧ g < w.heap.size := h.1.lt g rfl

theorem OwI.cell {w : World} {B g cap : Nat} {zs : List Int} (h : OwI w B g cap zs) (i : Nat) (hi : i < zs.length) : w.cell? ⟨g, i, none⟩ = some (.int .i64 (zs.getD i 0)) := by
  rw [h.1.cellAt i (by omega)]
  simp [List.getElem?_eq_getElem hi]

theorem OwI.byt {w : World} {B g cap : Nat} {zs : List Int} (h : OwI w B g cap zs) : Ins w (some ⟨g, 0, none⟩) zs :=
  ⟨h.2, fun _ => ⟨g, 0, rfl, h.lt.2, fun i hi => by rw [Nat.zero_add]; exact h.cell i hi⟩⟩

theorem Ins.below {w w' : World} {a : Option Addr} {zs : List Int} {B : Nat} (h : Ins w a zs) (hb : Below B w w') (hB : w.heap.size ≤ B) : Ins w' a zs := by
  refine ⟨h.1, fun hz => ?_⟩
  obtain ⟨b, off, rfl, hlt, hc⟩ := h.2 hz
  refine ⟨b, off, rfl, Nat.lt_of_lt_of_le hlt hb.size, fun i hi => ?_⟩
  rw [hb.cell (p := ⟨b, off + i, none⟩) (Nat.lt_of_lt_of_le hlt hB)]
  exact hc i hi

theorem OwI.below {w w' : World} {B B' g cap : Nat} {zs : List Int} (h : OwI w B g cap zs) (hb : Below B' w w') (hB : w.heap.size ≤ B') : OwI w' B g cap zs := by
  refine ⟨⟨h.1.1, ?_⟩, h.2⟩
  rcases h.1.2 with ⟨h', _⟩ | ⟨g', cap', cur, h', hg, hh, r⟩
  · simp at h'
  · refine .inr ⟨g', cap', cur, h', hg, ?_, r⟩
    rw [hb.block g' (by have := (Array.getElem?_eq_some_iff.1 hh).1; omega)]
    exact hh

theorem OwI.mono {w : World} {B B' g cap : Nat} {zs : List Int} (h : OwI w B g cap zs) (hB : B' ≤ B) : OwI w B' g cap zs := by
  refine ⟨⟨h.1.1, ?_⟩, h.2⟩
  rcases h.1.2 with ⟨h', _⟩ | ⟨g', cap', cur, h', hg, r⟩
  · simp at h'
  · exact .inr ⟨g', cap', cur, h', by omega, r⟩

theorem Ins.len_pos {w : World} {a : Option Addr} {zs : List Int} (h : Ins w a zs) (i : Nat) (hi : i < zs.length) : ∃ b off, a = some ⟨b, off, none⟩ ∧ b < w.heap.size ∧ ∀ i, i < zs.length → w.cell? ⟨b, off + i, none⟩ = some (.int .i64 (zs.getD i 0)) := h.2 (by omega)

theorem part_rngI (zs : List Int) (k : Nat) (h : ∀ z ∈ zs, -9223372036854775808 ≤ z ∧ z ≤ 9223372036854775807) : ∀ z ∈ part zs k, -9223372036854775808 ≤ z ∧ z ≤ 9223372036854775807 := by
  intro z hz
  simp only [part, List.mem_append, List.mem_replicate] at hz
  rcases hz with hz | ⟨_, rfl⟩
  · exact h z (List.mem_of_mem_take hz)
  · omega

theorem getD_rngI {zs : List Int} (h : ∀ z ∈ zs, -9223372036854775808 ≤ z ∧ z ≤ 9223372036854775807) (i : Nat) : -9223372036854775808 ≤ zs.getD i 0 ∧ zs.getD i 0 ≤ 9223372036854775807 := by
  rw [List.getD_eq_getElem?_getD]
  by_cases hi : i < zs.length
  · rw [List.getElem?_eq_getElem hi]; exact h _ (List.getElem_mem hi)
  · rw [List.getElem?_eq_none (by omega)]; simp

/-- A store into an owned row. -/
theorem OwI.store {w : World} {B g cap : Nat} {zs : List Int} (h : OwI w B g cap zs) (i : Nat) (z : Int) (hz : -9223372036854775808 ≤ z ∧ z ≤ 9223372036854775807) : OwI (w.setCell ⟨g, i, none⟩ (.int .i64 z)) B g cap (zs.set i z) := by
  have := (h.1.stored i (.int .i64 z)).1
  refine ⟨?_, ?_⟩
  · simpa [List.map_set] using this
  · intro y hy
    rcases List.mem_or_eq_of_mem_set hy with hy | rfl
    · exact h.2 y hy
    · exact hz

theorem OwI.frozen {w : World} {B g cap : Nat} {zs : List Int} (h : OwI w B g cap zs) (i : Nat) : w.frozen? ⟨g, i, none⟩ = false := h.1.frozenAt i

/-- Another row, owned from a block further on, stays while a cell of this one is written. -/
theorem OwI.setCell_other {w : World} {B g cap : Nat} {zs : List Int} (h : OwI w B g cap zs) {p : Addr} (hp : p.block ≠ g) (u : Value) : OwI (w.setCell p u) B g cap zs := by
  refine ⟨⟨h.1.1, ?_⟩, h.2⟩
  rcases h.1.2 with ⟨h', _⟩ | ⟨g', cap', cur, h', hg, hh, r⟩
  · simp at h'
  · have e : g' = g := by simp at h'; exact h'.1.symm
    subst e
    exact .inr ⟨g', cap', cur, h', hg, by rw [Below.heap_setCell _ _ _ _ (by omega)]; exact hh, r⟩

theorem Ins.drewN {w : World} {a : Option Addr} {zs : List Int} (h : Ins w a zs) (n : Nat) : Ins (w.drewN n) a zs := h
theorem OwI.drewN {w : World} {B g cap : Nat} {zs : List Int} (h : OwI w B g cap zs) (n : Nat) : OwI (w.drewN n) B g cap zs := h

theorem OwI.alloc {w : World} {B g cap : Nat} {zs : List Int} (h : OwI w B g cap zs) (ob : Obj) : OwI (w.alloc ob) B g cap zs := h.below ((Below.refl w.heap.size w).alloc (Nat.le_refl _) ob) (Nat.le_refl _)
theorem Ins.alloc {w : World} {a : Option Addr} {zs : List Int} (h : Ins w a zs) (ob : Obj) : Ins (w.alloc ob) a zs := h.below ((Below.refl w.heap.size w).alloc (Nat.le_refl _) ob) (Nat.le_refl _)
end Go.Proofs.YtmhpgkfaihcmeaaDoor
