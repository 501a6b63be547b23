/-
  Plain mathematics: bytes as a number, a number as bytes; putting bits behind, getting some of them.
-/
import Derived.WalkKit
import Derived.ProofKit
import Derived.Below
import Derived.Deep.Draws
import Derived.Test.YtdkffeemnenhdaaGreatDoorProg
import Derived.WalkLawsBesides
import Derived.Outline
import Derived.BigQuiet
import Derived.Deep.QuietTactic
import Derived.Deep.AppendLies
import Derived.Deep.RegionLaw
import Derived.BigRegion
import Derived.Deep.RegionHeld3
namespace Go.Proofs.YtdkffeemnenhdaaGreatDoor
open Go.RowKit

/-- A slice value that starts at 'a' and has as many elements as 'zs' reads as the bytes 'zs'. -/
def Byt (w : World) (a : Option Addr) (zs : List Int) : Prop :=
  (∀ z ∈ zs, 0 ≤ z ∧ z ≤ 255) ∧ (0 < zs.length → ∃ b off, a = some ⟨b, off, none⟩ ∧ b < w.heap.size ∧ ∀ i, i < zs.length → w.cell? ⟨b, off + i, none⟩ = some (.int .u8 (zs.getD i 0)))

/-- A slice value that the call itself made, from block 'B' on: it owns the bytes 'zs'. -/
def Own (w : World) (B g cap : Nat) (zs : List Int) : Prop :=
  w.ownsRow B 5 1 (.slice (some ⟨g, 0, none⟩) zs.length cap) zs.length (zs.map (Value.int .u8)) ∧ ∀ z ∈ zs, 0 ≤ z ∧ z ≤ 255

theorem Own.lt {w : World} {B g cap : Nat} {zs : List Int} (h : Own w B g cap zs) : B ≤ g ∧ g < w.heap.size := h.1.lt g rfl

theorem Own.cell {w : World} {B g cap : Nat} {zs : List Int} (h : Own w B g cap zs) (i : Nat) (hi : i < zs.length) : w.cell? ⟨g, i, none⟩ = some (.int .u8 (zs.getD i 0)) := by
  rw [h.1.cellAt i (by omega)]
  simp [List.getElem?_eq_getElem hi]

theorem Own.byt {w : World} {B g cap : Nat} {zs : List Int} (h : Own w B g cap zs) : Byt w (some ⟨g, 0, none⟩) zs :=
  ⟨h.2, fun _ => ⟨g, 0, rfl, h.lt.2, fun i hi => by rw [Nat.zero_add]; exact h.cell i hi⟩⟩

theorem Byt.below {w w' : World} {a : Option Addr} {zs : List Int} {B : Nat} (h : Byt w a zs) (hb : Below B w w') (hB : w.heap.size ≤ B) : Byt w' a zs := by
  refine ⟨h.1, fun hz => ?_⟩
  obtain ⟨b, off, rfl, hlt, hc⟩ := h.2 hz
  refine ⟨b, off, rfl, Nat.lt_of_lt_of_le hlt hb.size, fun i hi => ?_⟩
  rw [hb.cell (p := ⟨b, off + i, none⟩) (Nat.lt_of_lt_of_le hlt hB)]
  exact hc i hi

theorem Own.below {w w' : World} {B B' g cap : Nat} {zs : List Int} (h : Own w B g cap zs) (hb : Below B' w w') (hB : w.heap.size ≤ B') : Own w' B g cap zs := by
  refine ⟨⟨h.1.1, ?_⟩, h.2⟩
  rcases h.1.2 with ⟨h', _⟩ | ⟨g', cap', cur, h', hg, hh, r⟩
  · simp at h'
  · refine .inr ⟨g', cap', cur, h', hg, ?_, r⟩
    rw [hb.block g' (by have := (Array.getElem?_eq_some_iff.1 hh).1; omega)]
    exact hh

theorem Own.mono {w : World} {B B' g cap : Nat} {zs : List Int} (h : Own w B g cap zs) (hB : B' ≤ B) : Own w B' g cap zs := by
  refine ⟨⟨h.1.1, ?_⟩, h.2⟩
  rcases h.1.2 with ⟨h', _⟩ | ⟨g', cap', cur, h', hg, r⟩
  · simp at h'
  · exact .inr ⟨g', cap', cur, h', by omega, r⟩

theorem Byt.len_pos {w : World} {a : Option Addr} {zs : List Int} (h : Byt w a zs) (i : Nat) (hi : i < zs.length) : ∃ b off, a = some ⟨b, off, none⟩ ∧ b < w.heap.size ∧ ∀ i, i < zs.length → w.cell? ⟨b, off + i, none⟩ = some (.int .u8 (zs.getD i 0)) := h.2 (by omega)

theorem ret_int {k : IntKind} {a b : Int} (h : a = b) : Ending.returned (.int k a) = .returned (.int k b) := by rw [h]

theorem bcell {B : Nat} {W w1 : World} (hb : Below B W w1) : (∀ b o, b < B → w1.cell? ⟨b, o, none⟩ = W.cell? ⟨b, o, none⟩) ∧ (∀ b o, b < B → w1.frozen? ⟨b, o, none⟩ = W.frozen? ⟨b, o, none⟩) :=
  ⟨fun b o h => hb.cell (p := ⟨b, o, none⟩) h, fun b o h => hb.frozen (p := ⟨b, o, none⟩) h⟩

/-- What a copying loop has behind k rounds: the first k of zs, the rest still 0. -/
def part (zs : List Int) (k : Nat) : List Int := zs.take k ++ List.replicate (zs.length - k) 0

theorem part_len (zs : List Int) (k : Nat) (h : k ≤ zs.length) : (part zs k).length = zs.length := by simp [part]; omega
theorem part_all (zs : List Int) : part zs zs.length = zs := by simp [part]
theorem part_zero (zs : List Int) : part zs 0 = List.replicate zs.length 0 := by simp [part]

theorem part_get (zs : List Int) (k i : Nat) (h : k ≤ zs.length) : (part zs k)[i]? = if i < k then zs[i]? else if i < zs.length then some 0 else none := by
  unfold part
  rw [List.getElem?_append, List.length_take, Nat.min_eq_left h]
  by_cases h1 : i < k
  · rw [if_pos h1, if_pos h1, List.getElem?_take, if_pos h1]
  · rw [if_neg h1, if_neg h1, List.getElem?_replicate]
    by_cases h2 : i < zs.length
    · rw [if_pos (by omega), if_pos h2]
    · rw [if_neg (by omega), if_neg h2]

theorem part_set (zs : List Int) (k : Nat) (h : k < zs.length) : (part zs k).set k (zs.getD k 0) = part zs (k + 1) := by
  apply List.ext_getElem?
  intro i
  rw [List.getElem?_set, part_get _ _ _ (by omega), part_get _ _ _ (by omega), part_len _ _ (by omega)]
  by_cases e : k = i
  · subst e
    rw [if_pos rfl, if_pos h, if_pos (by omega)]
    simp [h]
  · rw [if_neg e]
    by_cases h1 : i < k
    · rw [if_pos h1, if_pos (by omega)]
    · have h3 : ¬ i < k + 1 := by omega
      rw [if_neg h1, if_neg h3]

theorem part_rng (zs : List Int) (k : Nat) (h : ∀ z ∈ zs, 0 ≤ z ∧ z ≤ 255) : ∀ z ∈ part zs k, 0 ≤ z ∧ z ≤ 255 := by
  intro z hz
  simp only [part, List.mem_append, List.mem_replicate] at hz
  rcases hz with hz | ⟨_, rfl⟩
  · exact h z (List.mem_of_mem_take hz)
  · omega

theorem getD_rng {zs : List Int} (h : ∀ z ∈ zs, 0 ≤ z ∧ z ≤ 255) (i : Nat) : 0 ≤ zs.getD i 0 ∧ zs.getD i 0 ≤ 255 := by
  rw [List.getD_eq_getElem?_getD]
  by_cases hi : i < zs.length
  · rw [List.getElem?_eq_getElem hi]; exact h _ (List.getElem_mem hi)
  · rw [List.getElem?_eq_none (by omega)]; simp

/-- A store into an owned row. -/
theorem Own.store {w : World} {B g cap : Nat} {zs : List Int} (h : Own w B g cap zs) (i : Nat) (z : Int) (hz : 0 ≤ z ∧ z ≤ 255) : Own (w.setCell ⟨g, i, none⟩ (.int .u8 z)) B g cap (zs.set i z) := by
  have := (h.1.stored i (.int .u8 z)).1
  refine ⟨?_, ?_⟩
  · simpa [List.map_set] using this
  · intro y hy
    rcases List.mem_or_eq_of_mem_set hy with hy | rfl
    · exact h.2 y hy
    · exact hz

theorem Own.frozen {w : World} {B g cap : Nat} {zs : List Int} (h : Own w B g cap zs) (i : Nat) : w.frozen? ⟨g, i, none⟩ = false := h.1.frozenAt i

/-- Another row, owned from a block further on, stays while a cell of this one is written. -/
theorem Own.setCell_other {w : World} {B g cap : Nat} {zs : List Int} (h : Own w B g cap zs) {p : Addr} (hp : p.block ≠ g) (u : Value) : Own (w.setCell p u) B g cap zs := by
  refine ⟨⟨h.1.1, ?_⟩, h.2⟩
  rcases h.1.2 with ⟨h', _⟩ | ⟨g', cap', cur, h', hg, hh, r⟩
  · simp at h'
  · have e : g' = g := by simp at h'; exact h'.1.symm
    subst e
    exact .inr ⟨g', cap', cur, h', hg, by rw [Below.heap_setCell _ _ _ _ (by omega)]; exact hh, r⟩

theorem take_eq_succ {xs ys : List Int} {k : Nat} (h : xs.take k = ys.take k) (hx : k < xs.length) (hy : k < ys.length) (he : xs.getD k 0 = ys.getD k 0) : xs.take (k + 1) = ys.take (k + 1) := by
  rw [List.take_succ_eq_append_getElem hx, List.take_succ_eq_append_getElem hy, h]
  simp [hx, hy] at he
  rw [he]

theorem ne_of_getD {xs ys : List Int} {k : Nat} (he : xs.getD k 0 ≠ ys.getD k 0) : xs ≠ ys := fun h => he (by rw [h])

theorem Byt.drewN {w : World} {a : Option Addr} {zs : List Int} (h : Byt w a zs) (n : Nat) : Byt (w.drewN n) a zs := h
theorem Own.drewN {w : World} {B g cap : Nat} {zs : List Int} (h : Own w B g cap zs) (n : Nat) : Own (w.drewN n) B g cap zs := h

/-- A cell of a block below B is there in a later world. -/
theorem keep {B : Nat} {w w' : World} (h : Below B w w') {b o : Nat} {v : Value} (hb : b < B) (hc : w.cell? ⟨b, o, none⟩ = some v) : w'.cell? ⟨b, o, none⟩ = some v := (h.cell (p := ⟨b, o, none⟩) hb).trans hc

theorem keepA {w : World} (ob : Obj) {b o : Nat} {v : Value} (hb : b < w.heap.size) (hc : w.cell? ⟨b, o, none⟩ = some v) : (w.alloc ob).cell? ⟨b, o, none⟩ = some v := keep ((Below.refl w.heap.size w).alloc (Nat.le_refl _) ob) hb hc
theorem Own.alloc {w : World} {B g cap : Nat} {zs : List Int} (h : Own w B g cap zs) (ob : Obj) : Own (w.alloc ob) B g cap zs := h.below ((Below.refl w.heap.size w).alloc (Nat.le_refl _) ob) (Nat.le_refl _)
theorem Byt.alloc {w : World} {a : Option Addr} {zs : List Int} (h : Byt w a zs) (ob : Obj) : Byt (w.alloc ob) a zs := h.below ((Below.refl w.heap.size w).alloc (Nat.le_refl _) ob) (Nat.le_refl _)
theorem Below.drewS {B : Nat} {w w' : World} (h : Below B w.drew w') : Below B w w' := ⟨h.os, h.tape, h.output, h.size, h.block⟩

end Go.Proofs.YtdkffeemnenhdaaGreatDoor
namespace Go.Proofs.YtdkffeemnenhdaaGreatDoor
open Go.RowKit
set_option linter.unusedVariables false

theorem Tryz.infoU8 : (Tryz.prog.info? 5).map (fun i => (i.zero, i.size, i.bytes)) = some (some (.int .u8 0), 1, 1) := by kernel_rfl

theorem made_zero (n : Nat) : (madeCells (Value.int .u8 0).cells (n * 1)).toList = (List.replicate n (0 : Int)).map (Value.int .u8) := by
  simp only [madeCells, Value.cells, Nat.mul_one, Array.toList_map, Array.toList_range, List.map_replicate]
  rw [List.eq_replicate_iff]
  refine ⟨by simp, fun b hb => ?_⟩
  simp only [List.mem_map] at hb
  obtain ⟨x, _, rfl⟩ := hb
  simp [Nat.mod_one]

end Go.Proofs.YtdkffeemnenhdaaGreatDoor
namespace Go.Proofs.YtdkffeemnenhdaaGreatDoor
open Go.RowKit
set_option linter.unusedVariables false

/-- Is it a row of N bits: as many bytes as N bits want, the last one without a bit behind them. -/
def okB (N : Int) (zs : List Int) : Bool :=
  decide (0 ≤ N ∧ N ≤ 4096 ∧ (zs.length : Int) = (N + 7) / 8) && (N % 8 == 0 || zs.getD (zs.length - 1) 0 / 2 ^ (N % 8).toNat == 0)

theorem okB_neg {N : Int} {zs : List Int} (h : N < 0) : okB N zs = false := by
  have : decide (0 ≤ N ∧ N ≤ 4096 ∧ (zs.length : Int) = (N + 7) / 8) = false := by simp; omega
  rw [okB, this, Bool.false_and]
theorem okB_big {N : Int} {zs : List Int} (h : 4096 < N) : okB N zs = false := by
  have : decide (0 ≤ N ∧ N ≤ 4096 ∧ (zs.length : Int) = (N + 7) / 8) = false := by simp; omega
  rw [okB, this, Bool.false_and]
theorem okB_len {N : Int} {zs : List Int} (h : ¬ (zs.length : Int) = (N + 7) / 8) : okB N zs = false := by
  have : decide (0 ≤ N ∧ N ≤ 4096 ∧ (zs.length : Int) = (N + 7) / 8) = false := by simp; omega
  rw [okB, this, Bool.false_and]
theorem okB_full {N : Int} {zs : List Int} (h0 : 0 ≤ N) (h1 : N ≤ 4096) (h2 : (zs.length : Int) = (N + 7) / 8) (h3 : N % 8 = 0) : okB N zs = true := by
  have : decide (0 ≤ N ∧ N ≤ 4096 ∧ (zs.length : Int) = (N + 7) / 8) = true := by simp; exact ⟨h0, h1, h2⟩
  rw [okB, this, h3]; rfl
theorem okB_last {N : Int} {zs : List Int} (h0 : 0 ≤ N) (h1 : N ≤ 4096) (h2 : (zs.length : Int) = (N + 7) / 8) (h3 : ¬ N % 8 = 0) : okB N zs = (zs.getD (zs.length - 1) 0 / 2 ^ (N % 8).toNat == 0) := by
  have : decide (0 ≤ N ∧ N ≤ 4096 ∧ (zs.length : Int) = (N + 7) / 8) = true := by simp; exact ⟨h0, h1, h2⟩
  have h3' : (N % 8 == 0) = false := by simpa using h3
  rw [okB, this, h3', Bool.true_and, Bool.false_or]
end Go.Proofs.YtdkffeemnenhdaaGreatDoor
namespace Go.Proofs.YtdkffeemnenhdaaGreatDoor
open Go.RowKit
set_option linter.unusedVariables false

set_option maxHeartbeats 400000 in
theorem specOk_any (a : Option Addr) (cap : Nat) (zs : List Int) (N : Int) (w : World) (hb : Byt w a zs) (hn : zs.length ≤ 281474976710656) :
    Calls Tryz.prog 72 #[.agg #[.slice a zs.length cap, .int .i64 N]] w fun e w' => e = .returned (.bool (okB N zs)) ∧ Below w.heap.size w w' := by
  have hw : Below w.heap.size w (w.alloc (Obj.cells #[Value.slice a zs.length cap, Value.int IntKind.i64 N] 80)) := (Below.refl _ _).alloc (Nat.le_refl _) _
  by_cases h0 : N < 0
  · have hE : okB N zs = false := okB_neg h0
    rw [hE]
    clear hE
    go_enter Tryz.func72, Tryz.ntmps72
    go_wp2
    go_ret
    exact ⟨rfl, hw⟩
  · by_cases h1 : 4096 < N
    · have hE : okB N zs = false := okB_big h1
      rw [hE]
      clear hE
      go_enter Tryz.func72, Tryz.ntmps72
      go_wp2
      go_ret
      exact ⟨rfl, hw⟩
    · by_cases h2 : (zs.length : Int) = (N + 7) / 8
      · generalize hlz : zs.length = n at *
        have HL : Hid (zs.length = n) := hlz
        clear hlz
        have h2' : ((n : Int) != (N + 7) / 8) = false := by simpa using h2
        have H2 : Hid ((n : Int) = (N + 7) / 8) := h2
        clear h2
        by_cases h3 : N % 8 = 0
        · have hE : okB N zs = true := okB_full (by omega) (by omega) (by rw [HL.out]; exact H2.out) h3
          have h3' : (N % 8 == 0) = true := by simpa using h3
          rw [hE]
          clear hE h3
          go_enter Tryz.func72, Tryz.ntmps72
          go_wp2
          go_quiet (fail)
          go_wp2
          go_ret
          exact ⟨rfl, below_drewN hw _⟩
        · have hn1 : 1 ≤ n := by have := H2.out; omega
          have h3' : (N % 8 == 0) = false := by simpa using h3
          obtain ⟨b, off, rfl, hbl, hc⟩ := hb.len_pos (n - 1) (by rw [HL.out]; omega)
          have hlast := hc (n - 1) (by rw [HL.out]; omega)
          have hr := getD_rng hb.1 (n - 1)
          have hE : okB N zs = (zs.getD (n - 1) 0 / 2 ^ (N % 8).toNat == 0) := by
            rw [okB_last (by omega) (by omega) (by rw [HL.out]; exact H2.out) h3, HL.out]
          rw [hE]
          clear hE
          generalize zs.getD (n - 1) 0 = z at *
          go_enter Tryz.func72, Tryz.ntmps72
          go_wp2
          go_quiet (fail)
          go_wp2
          go_ret
          exact ⟨rfl, below_drewN hw _⟩
      · have hE : okB N zs = false := okB_len h2
        have h2' : ((zs.length : Int) != (N + 7) / 8) = true := by rw [bne_iff_ne]; exact h2
        rw [hE]
        clear hE h2
        go_enter Tryz.func72, Tryz.ntmps72
        go_wp2
        go_ret
        exact ⟨rfl, hw⟩
end Go.Proofs.YtdkffeemnenhdaaGreatDoor
namespace Go.Proofs.YtdkffeemnenhdaaGreatDoor
open Go.RowKit
set_option linter.unusedVariables false

/-- From w to w' no block that was there has turned but those in S. -/
structure Only (S : Nat → Prop) (w w' : World) : Prop where
  os : w'.os = w.os
  tape : w'.tape = w.tape
  output : w'.output = w.output
  size : w.heap.size ≤ w'.heap.size
  block : ∀ k, k < w.heap.size → ¬ S k → w'.heap[k]? = w.heap[k]?

theorem Only.refl (S : Nat → Prop) (w : World) : Only S w w := ⟨rfl, rfl, rfl, Nat.le_refl _, fun _ _ _ => rfl⟩
theorem Only.trans {S : Nat → Prop} {a b c : World} (h : Only S a b) (k : Only S b c) : Only S a c :=
  ⟨k.os.trans h.os, k.tape.trans h.tape, k.output.trans h.output, Nat.le_trans h.size k.size, fun i hi hs => (k.block i (Nat.lt_of_lt_of_le hi h.size) hs).trans (h.block i hi hs)⟩
theorem Only.mono {S T : Nat → Prop} {a b : World} (h : Only S a b) (hs : ∀ k, k < a.heap.size → S k → T k) : Only T a b :=
  ⟨h.os, h.tape, h.output, h.size, fun i hi ht => h.block i hi (fun hh => ht (hs i hi hh))⟩
theorem Only.ofBelow {S : Nat → Prop} {B : Nat} {a b : World} (h : Below B a b) (hB : a.heap.size ≤ B) : Only S a b := ⟨h.os, h.tape, h.output, h.size, fun i hi _ => h.block i (by omega)⟩
theorem Only.below {S : Nat → Prop} {B : Nat} {a b : World} (h : Only S a b) (hB : B ≤ a.heap.size) (hs : ∀ k, S k → B ≤ k) : Below B a b :=
  ⟨h.os, h.tape, h.output, h.size, fun k hk => h.block k (by omega) (fun hh => by have := hs k hh; omega)⟩
theorem Only.alloc {S : Nat → Prop} {a b : World} (h : Only S a b) (o : Obj) : Only S a (b.alloc o) :=
  ⟨h.os, h.tape, h.output, by have := h.size; simp; omega, fun i hi hs => (Below.heap_alloc _ _ _ (by have := h.size; omega)).trans (h.block i hi hs)⟩
theorem Only.drewN {S : Nat → Prop} {a b : World} (h : Only S a b) (n : Nat) : Only S a (b.drewN n) := ⟨h.os, h.tape, h.output, h.size, h.block⟩
theorem Only.drew {S : Nat → Prop} {a b : World} (h : Only S a b) : Only S a b.drew := ⟨h.os, h.tape, h.output, h.size, h.block⟩
theorem Only.setCell {S : Nat → Prop} {a b : World} (h : Only S a b) {p : Addr} (hp : S p.block ∨ a.heap.size ≤ p.block) (u : Value) : Only S a (b.setCell p u) := by
  refine ⟨h.os, h.tape, h.output, by have := h.size; simp [World.setCell]; omega, fun i hi hs => ?_⟩
  have hne : i ≠ p.block := by
    rintro rfl
    rcases hp with hp | hp
    · exact hs hp
    · omega
  exact (Below.heap_setCell _ _ _ _ hne).trans (h.block i hi hs)
theorem Only.grown {S : Nat → Prop} {a b c : World} {row : Option Nat} (h : Only S a b) (hg : b.grownBy c row) (hr : ∀ k, row = some k → S k ∨ a.heap.size ≤ k) : Only S a c :=
  ⟨hg.os.trans h.os, hg.tape.trans h.tape, hg.output.trans h.output, Nat.le_trans h.size hg.size, fun i hi hs => (hg.block i (Nat.lt_of_lt_of_le hi h.size) (fun e => by
    rcases hr i e.symm with hh | hh
    · exact hs hh
    · omega)).trans (h.block i hi hs)⟩
theorem Only.cell {S : Nat → Prop} {w w' : World} (h : Only S w w') {b o : Nat} {v : Value} (hb : b < w.heap.size) (hs : ¬ S b) (hc : w.cell? ⟨b, o, none⟩ = some v) : w'.cell? ⟨b, o, none⟩ = some v :=
  (World.cell?_of_block (w := w) (a := ⟨b, o, none⟩) (h.block b hb hs)).trans hc
theorem Own.only {S : Nat → Prop} {w w' : World} {B g cap : Nat} {zs : List Int} (h : Own w B g cap zs) (ho : Only S w w') (hs : ¬ S g) : Own w' B g cap zs := by
  refine ⟨⟨h.1.1, ?_⟩, h.2⟩
  have hlt := h.lt.2
  rcases h.1.2 with ⟨h', _⟩ | ⟨g', cap', cur, h', hg, hh, r⟩
  · simp at h'
  · have e : g' = g := by simp at h'; exact h'.1.symm
    subst e
    exact .inr ⟨g', cap', cur, h', hg, by rw [ho.block g' hlt hs]; exact hh, r⟩

/-- The bytes of an answer: nothing, or a row of its own between two blocks. -/
def Mine (w : World) (B U : Nat) (a : Option Addr) (cap : Nat) (zs : List Int) : Prop :=
  (a = none ∧ zs = [] ∧ cap = 0) ∨ ∃ g, a = some ⟨g, 0, none⟩ ∧ B ≤ g ∧ g < U ∧ Own w B g cap zs

theorem Mine.byt {w : World} {B U : Nat} {a : Option Addr} {cap : Nat} {zs : List Int} (h : Mine w B U a cap zs) : Byt w a zs := by
  rcases h with ⟨rfl, rfl, rfl⟩ | ⟨g, rfl, _, _, h⟩
  · exact ⟨by simp, by simp⟩
  · exact h.byt
theorem Mine.only {S : Nat → Prop} {w w' : World} {B U : Nat} {a : Option Addr} {cap : Nat} {zs : List Int} (h : Mine w B U a cap zs) (ho : Only S w w') (hs : ∀ k, B ≤ k → k < U → ¬ S k) : Mine w' B U a cap zs := by
  rcases h with h | ⟨g, rfl, h1, h2, h⟩
  · exact .inl h
  · exact .inr ⟨g, rfl, h1, h2, h.only ho (hs g h1 h2)⟩
theorem Mine.below {w w' : World} {B U : Nat} {a : Option Addr} {cap : Nat} {zs : List Int} (h : Mine w B U a cap zs) (ho : Below w.heap.size w w') : Mine w' B U a cap zs := h.only (Only.ofBelow (S := fun _ => False) ho (Nat.le_refl _)) (by simp)
theorem Mine.mono {w : World} {B U B' U' : Nat} {a : Option Addr} {cap : Nat} {zs : List Int} (h : Mine w B U a cap zs) (h1 : B' ≤ B) (h2 : U ≤ U') : Mine w B' U' a cap zs := by
  rcases h with h | ⟨g, rfl, g1, g2, h⟩
  · exact .inl h
  · exact .inr ⟨g, rfl, by omega, by omega, h.mono h1⟩
theorem Own.mine {w : World} {B g cap : Nat} {zs : List Int} (h : Own w B g cap zs) : Mine w B w.heap.size (some ⟨g, 0, none⟩) cap zs := .inr ⟨g, rfl, h.lt.1, h.lt.2, h⟩

/-- Only what lies at 'a' is written. -/
def rowOf (a : Option Addr) (k : Nat) : Prop := ∃ x : Addr, a = some x ∧ x.block = k

end Go.Proofs.YtdkffeemnenhdaaGreatDoor
namespace Go.Proofs.YtdkffeemnenhdaaGreatDoor
open Go.RowKit
set_option linter.unusedVariables false

theorem addr_add (b off j : Nat) : (⟨b, off, none⟩ : Addr).add j = ⟨b, off + j, none⟩ := by unfold Addr.add; split <;> simp_all

theorem news_of {w : World} {b off : Nat} {zs : List Int} (hc : ∀ i, i < zs.length → w.cell? ⟨b, off + i, none⟩ = some (.int .u8 (zs.getD i 0))) :
    ∀ j u, (zs.map (Value.int .u8))[j]? = some u → w.cell? ((⟨b, off, none⟩ : Addr).add j) = some u := by
  intro j u hu
  have hj : j < zs.length := by
    rcases Nat.lt_or_ge j zs.length with h | h
    · exact h
    · rw [List.getElem?_eq_none (by simpa using h)] at hu; cases hu
  rw [addr_add, hc j hj]
  simp [hj] at hu
  simp [hj, ← hu]

theorem oneCells (zs : List Int) : ∀ u ∈ zs.map (Value.int .u8), u.oneCell' = true := by
  intro u hu
  simp only [List.mem_map] at hu
  obtain ⟨z, _, rfl⟩ := hu
  rfl

end Go.Proofs.YtdkffeemnenhdaaGreatDoor
namespace Go.Proofs.YtdkffeemnenhdaaGreatDoor

/-- The number that bytes are, the lowest first. -/
def val : List Int → Nat
  | [] => 0
  | z :: r => z.toNat + 256 * val r

/-- k bytes of a number, the lowest first. -/
def encL : Nat → Nat → List Int
  | 0, _ => []
  | k + 1, v => ((v % 256 : Nat) : Int) :: encL k (v / 256)

/-- As many bytes as n bits want, of a number. -/
def enc (n v : Nat) : List Int := encL ((n + 7) / 8) v

theorem encL_len (k v : Nat) : (encL k v).length = k := by
  induction k generalizing v with
  | zero => rfl
  | succ k ih => simp [encL, ih]

theorem enc_len (n v : Nat) : (enc n v).length = (n + 7) / 8 := encL_len _ _

theorem encL_rng (k v : Nat) : ∀ z ∈ encL k v, 0 ≤ z ∧ z ≤ 255 := by
  induction k generalizing v with
  | zero => intro z hz; cases hz
  | succ k ih =>
    intro z hz
    simp only [encL, List.mem_cons] at hz
    rcases hz with rfl | hz
    · omega
    · exact ih _ z hz

theorem encL_get (k v i : Nat) (h : i < k) : (encL k v).getD i 0 = ((v / 256 ^ i % 256 : Nat) : Int) := by
  induction k generalizing v i with
  | zero => omega
  | succ k ih =>
    cases i with
    | zero => simp [encL]
    | succ i =>
      have := ih (v / 256) i (by omega)
      simp only [encL, List.getD_cons_succ, this]
      rw [Nat.div_div_eq_div_mul, Nat.pow_succ, Nat.mul_comm]

theorem val_encL (k v : Nat) : val (encL k v) = v % 256 ^ k := by
  induction k generalizing v with
  | zero => simp [encL, val, Nat.mod_one]
  | succ k ih =>
    simp only [encL, val, ih, Int.toNat_natCast]
    rw [Nat.pow_succ, Nat.mul_comm (256 ^ k) 256, Nat.mod_mul]

theorem encL_val (zs : List Int) (h : ∀ z ∈ zs, 0 ≤ z ∧ z ≤ 255) : encL zs.length (val zs) = zs := by
  induction zs with
  | nil => rfl
  | cons z r ih =>
    have hz := h z (by simp)
    have hr := ih (fun y hy => h y (by simp [hy]))
    simp only [List.length_cons, encL, val]
    rw [show (z.toNat + 256 * val r) % 256 = z.toNat from by omega, show (z.toNat + 256 * val r) / 256 = val r from by omega, hr]
    congr 1
    omega

theorem val_lt (zs : List Int) (h : ∀ z ∈ zs, 0 ≤ z ∧ z ≤ 255) : val zs < 256 ^ zs.length := by
  induction zs with
  | nil => simp [val]
  | cons z r ih =>
    have hz := h z (by simp)
    have hr := ih (fun y hy => h y (by simp [hy]))
    simp only [List.length_cons, val, Nat.pow_succ]
    omega

theorem encL_mod (k v : Nat) : encL k (v % 256 ^ k) = encL k v := by
  have := encL_val (encL k v) (encL_rng k v)
  rwa [encL_len, val_encL] at this

theorem encL_append (k v : Nat) : encL (k + 1) v = encL k v ++ [((v / 256 ^ k % 256 : Nat) : Int)] := by
  induction k generalizing v with
  | zero => simp [encL]
  | succ k ih =>
    rw [encL, ih (v / 256)]
    simp only [encL, List.cons_append]
    rw [Nat.div_div_eq_div_mul, Nat.pow_succ, Nat.mul_comm (256 ^ k) 256]

theorem pow256 (k : Nat) : 256 ^ k = 2 ^ (8 * k) := by
  rw [Nat.pow_mul]

/-- The bit at place p. -/
theorem enc_bit (n v p : Nat) (hp : p < n) : (((enc n v).getD (p / 8) 0).toNat / 2 ^ (p % 8)) % 2 = v / 2 ^ p % 2 := by
  rw [enc, encL_get _ _ _ (by omega), Int.toNat_natCast, pow256]
  have h1 : v / 2 ^ p = v / 2 ^ (8 * (p / 8)) / 2 ^ (p % 8) := by
    rw [Nat.div_div_eq_div_mul, ← Nat.pow_add]
    congr 2
    omega
  rw [h1]
  generalize v / 2 ^ (8 * (p / 8)) = u
  have hq : p % 8 < 8 := Nat.mod_lt _ (by omega)
  generalize p % 8 = q at hq
  have h256 : 256 = 2 ^ q * 2 ^ (8 - q) := by rw [← Nat.pow_add, show q + (8 - q) = 8 from by omega]
  rw [h256, Nat.mod_mul_right_div_self]
  obtain ⟨r, hr⟩ : ∃ r, 8 - q = r + 1 := ⟨7 - q, by omega⟩
  rw [hr, Nat.pow_succ, Nat.mul_comm (2 ^ r) 2, Nat.mod_mul_right_mod]

/-- Some bits more, in the byte in which the next one lies: used bits of it are taken. -/
theorem enc_step (n v s c : Nat) (hv : v < 2 ^ n) (hc : c < 2 ^ s) (hs : 0 < s) (h8 : n % 8 + s ≤ 8) :
    enc (n + s) (v + c * 2 ^ n) = (if n % 8 = 0 then enc n v ++ [0] else enc n v).set (n / 8) (((v / 256 ^ (n / 8) + c * 2 ^ (n % 8) : Nat) : Int)) := by
  have hk : (n + s + 7) / 8 = n / 8 + 1 := by omega
  have hpow : 2 ^ n = 256 ^ (n / 8) * 2 ^ (n % 8) := by
    rw [pow256, ← Nat.pow_add, show 8 * (n / 8) + n % 8 = n from by omega]
  have hlow : encL (n / 8) (v + c * 2 ^ n) = encL (n / 8) v := by
    rw [← encL_mod, hpow, Nat.mul_left_comm, Nat.add_mul_mod_self_left, encL_mod]
  have hdiv : (v + c * 2 ^ n) / 256 ^ (n / 8) = v / 256 ^ (n / 8) + c * 2 ^ (n % 8) := by
    rw [hpow, Nat.mul_left_comm, Nat.add_mul_div_left _ _ (Nat.pow_pos (by omega))]
  have hvd : v / 256 ^ (n / 8) < 2 ^ (n % 8) := by
    rw [Nat.div_lt_iff_lt_mul (Nat.pow_pos (by omega)), Nat.mul_comm, ← hpow]; exact hv
  have hlt : v / 256 ^ (n / 8) + c * 2 ^ (n % 8) < 256 := by
    have h1 : (c + 1) * 2 ^ (n % 8) ≤ 2 ^ s * 2 ^ (n % 8) := Nat.mul_le_mul_right _ hc
    have h2 : 2 ^ s * 2 ^ (n % 8) ≤ 256 := by
      rw [← Nat.pow_add]
      have h3 : 2 ^ (s + n % 8) ≤ 2 ^ 8 := Nat.pow_le_pow_right (by omega) (by omega)
      omega
    rw [Nat.add_mul, Nat.one_mul] at h1
    omega
  unfold enc
  rw [hk, encL_append, hlow, hdiv, Nat.mod_eq_of_lt hlt]
  by_cases h0 : n % 8 = 0
  · rw [if_pos h0, show (n + 7) / 8 = n / 8 from by omega]
    rw [List.set_append_right _ _ (by rw [encL_len]; exact Nat.le_refl _), encL_len]
    simp
  · rw [if_neg h0, show (n + 7) / 8 = n / 8 + 1 from by omega, encL_append]
    rw [List.set_append_right _ _ (by rw [encL_len]; exact Nat.le_refl _), encL_len]
    simp

theorem enc_last (n v : Nat) (hv : v < 2 ^ n) (h : n % 8 ≠ 0) : (enc n v).getD (n / 8) 0 = ((v / 256 ^ (n / 8) : Nat) : Int) := by
  have hpow : 2 ^ n = 256 ^ (n / 8) * 2 ^ (n % 8) := by
    rw [pow256, ← Nat.pow_add, show 8 * (n / 8) + n % 8 = n from by omega]
  have hvd : v / 256 ^ (n / 8) < 2 ^ (n % 8) := by
    rw [Nat.div_lt_iff_lt_mul (Nat.pow_pos (by omega)), Nat.mul_comm, ← hpow]; exact hv
  have h256 : 2 ^ (n % 8) ≤ 2 ^ 8 := Nat.pow_le_pow_right (by omega) (by omega)
  rw [enc, encL_get _ _ _ (by omega), Nat.mod_eq_of_lt (by omega)]

theorem enc_top (n v : Nat) (hv : v < 2 ^ n) : v / 256 ^ (n / 8) < 2 ^ (n % 8) := by
  have hpow : 2 ^ n = 256 ^ (n / 8) * 2 ^ (n % 8) := by
    rw [pow256, ← Nat.pow_add, show 8 * (n / 8) + n % 8 = n from by omega]
  rw [Nat.div_lt_iff_lt_mul (Nat.pow_pos (by omega)), Nat.mul_comm, ← hpow]; exact hv

/-- Bytes, as many as n bits want, the last one without a bit behind them, are a number below 2 ^ n. -/
theorem val_bits (n : Nat) (zs : List Int) (h : ∀ z ∈ zs, 0 ≤ z ∧ z ≤ 255) (hl : zs.length = (n + 7) / 8) (ht : n % 8 = 0 ∨ (zs.getD (zs.length - 1) 0).toNat < 2 ^ (n % 8)) :
    val zs < 2 ^ n ∧ zs = enc n (val zs) := by
  have he := encL_val zs h
  have hv := val_lt zs h
  refine ⟨?_, by rw [enc, ← hl, he]⟩
  by_cases h0 : n % 8 = 0
  · rw [hl, pow256, show 8 * ((n + 7) / 8) = n from by omega] at hv
    exact hv
  · have ht' := ht.resolve_left h0
    have hk : zs.length = n / 8 + 1 := by omega
    have hlast : zs.getD (zs.length - 1) 0 = ((val zs / 256 ^ (n / 8) % 256 : Nat) : Int) := by
      have := encL_get zs.length (val zs) (n / 8) (by omega)
      rw [he] at this
      rw [show zs.length - 1 = n / 8 from by omega]
      exact this
    rw [hlast, Int.toNat_natCast] at ht'
    have h256 : val zs / 256 ^ (n / 8) < 256 := by
      rw [Nat.div_lt_iff_lt_mul (Nat.pow_pos (by omega)), ← Nat.pow_succ', show (n / 8).succ = zs.length from hk.symm]; exact hv
    rw [Nat.mod_eq_of_lt h256, Nat.div_lt_iff_lt_mul (Nat.pow_pos (by omega)), pow256, ← Nat.pow_add] at ht'
    rw [show n % 8 + 8 * (n / 8) = n from by omega] at ht'
    exact ht'

theorem put_lt (n v s c : Nat) (hv : v < 2 ^ n) (hc : c < 2 ^ s) : v + c * 2 ^ n < 2 ^ (n + s) := by
  have h1 : (c + 1) * 2 ^ n ≤ 2 ^ s * 2 ^ n := Nat.mul_le_mul_right _ hc
  rw [Nat.add_mul, Nat.one_mul, ← Nat.pow_add, Nat.add_comm s n] at h1
  omega

/-- Bits that are put one part behind the other. -/
theorem put_part (n v x i s : Nat) : v + (x % 2 ^ i) * 2 ^ n + (x / 2 ^ i % 2 ^ s) * 2 ^ (n + i) = v + (x % 2 ^ (i + s)) * 2 ^ n := by
  have h : x % 2 ^ (i + s) = x % 2 ^ i + 2 ^ i * (x / 2 ^ i % 2 ^ s) := by rw [Nat.pow_add, Nat.mod_mul]
  rw [h, Nat.add_mul, Nat.pow_add, Nat.add_assoc]
  congr 2
  rw [Nat.mul_comm (2 ^ i), Nat.mul_assoc, Nat.mul_comm (2 ^ i)]

/-- What is got where something was put: the thing itself; ahead of it, what was there. -/
theorem got_put (n v c s : Nat) (hv : v < 2 ^ n) (hc : c < 2 ^ s) : (v + c * 2 ^ n) / 2 ^ n % 2 ^ s = c := by
  rw [Nat.add_mul_div_right _ _ (Nat.pow_pos (by omega)), Nat.div_eq_of_lt hv, Nat.zero_add, Nat.mod_eq_of_lt hc]

theorem got_old (n v c i : Nat) (hi : i < n) : (v + c * 2 ^ n) / 2 ^ i % 2 = v / 2 ^ i % 2 := by
  obtain ⟨d, rfl⟩ : ∃ d, n = i + (d + 1) := ⟨n - i - 1, by omega⟩
  rw [Nat.pow_add, Nat.mul_left_comm, Nat.add_mul_div_left _ _ (Nat.pow_pos (by omega)), Nat.pow_succ, ← Nat.mul_assoc, Nat.add_mul_mod_self_right]

/-- The number of some bits, the highest added last. -/
theorem get_up (v at' i : Nat) : v / 2 ^ at' % 2 ^ (i + 1) = v / 2 ^ at' % 2 ^ i + (v / 2 ^ (at' + i) % 2) * 2 ^ i := by
  rw [Nat.pow_add 2 i 1, Nat.mod_mul, Nat.pow_one, Nat.div_div_eq_div_mul, ← Nat.pow_add, Nat.mul_comm (2 ^ i)]

/-- .. or the lowest added last. -/
theorem get_down (v at' i : Nat) : v / 2 ^ at' % 2 ^ (i + 1) = 2 * (v / 2 ^ (at' + 1) % 2 ^ i) + v / 2 ^ at' % 2 := by
  rw [Nat.pow_succ, Nat.mul_comm (2 ^ i) 2, Nat.mod_mul, Nat.div_div_eq_div_mul, ← Nat.pow_succ, Nat.add_comm]

end Go.Proofs.YtdkffeemnenhdaaGreatDoor
