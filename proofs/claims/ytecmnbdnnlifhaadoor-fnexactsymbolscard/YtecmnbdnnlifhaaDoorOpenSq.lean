/-
  How a slice of sequences that came in is opened: what the walks ask of it.
-/
import Derived.Test.YtecmnbdnnlifhaaDoorOpenB
import Derived.Test.YtecmnbdnnlifhaaDoorSqP
import Derived.Deep.Slices
import Derived.Deep.Strs
namespace Go.Proofs.YtecmnbdnnlifhaaDoor
open Go.ChangeShapes Go.WideShapes Go.ChangeAt Go.RowKit Go.Joins
set_option linter.unusedVariables false

theorem Tryd.cellsSeq : Tryd.prog.cellsOf 48 = 3 := by kernel_rfl
theorem Tryd.cellsBs : Tryd.prog.cellsOf 25 = 1 := by kernel_rfl
theorem Tryd.cellsInt : Tryd.prog.cellsOf 3 = 1 := by kernel_rfl

set_option maxRecDepth 100000 in
theorem seq_of_trod {H : Type} {enc : TypeId × Value → H} {W : World} {n : Nat} {cs : List Value} {x : DataW H × List MemPlace} {b off : Nat} (hl : cs.length = 3) (hc : ∀ i, i < 3 → W.cell? ⟨b, off + i, none⟩ = cs[i]?)
    (h : DataW.trod enc Tryd.prog W 0 (fun _ => true) true n 48 cs = some x) : ∃ s : Sq, Lies W b off s ∧ rI s.n ∧ rI s.d ∧ s.ls.length ≤ maxLen := by
  obtain ⟨y0, y1, y2, k, -, -, g0, g1, g2⟩ := Go.Deep.trod_struct3 Tryd.underlying48 h
  match cs, hl with
  | [v0, v1, v2], _ =>
    have g0' : DataW.trod enc Tryd.prog W 0 (fun _ => true) true k 25 [v0] = some y0 := by
      have := g0
      simp only [Tryd.cellsBs] at this
      exact this
    have g1' : DataW.trod enc Tryd.prog W 0 (fun _ => true) true k 3 [v1] = some y1 := by
      have := g1
      simp only [Tryd.cellsInt] at this
      exact this
    have g2' : DataW.trod enc Tryd.prog W 0 (fun _ => true) true k 3 [v2] = some y2 := by
      have := g2
      simp only [Tryd.cellsInt] at this
      exact this
    obtain ⟨a, zs, cap, rfl, hb, hm⟩ := byt_of_trod g0'
    obtain ⟨N, e1, _, w1⟩ := DataW.trod_int Tryd.underlying3 g1'
    obtain ⟨D, e2, _, w2⟩ := DataW.trod_int Tryd.underlying3 g2'
    simp at e1 e2
    subst e1 e2
    have h0 := hc 0 (by omega)
    have h1 := hc 1 (by omega)
    have h2 := hc 2 (by omega)
    simp at h0 h1 h2
    exact ⟨⟨a, cap, zs, N, D⟩, ⟨h0, h1, h2, hb⟩, bounds_i64 w1, bounds_i64 w2, hm⟩

/-- A slice of sequences that came in reads as some sequences. -/
theorem sqs_of_trod {H : Type} {enc : TypeId × Value → H} {W : World} {fuel : Nat} {v : Value} {y : DataW H × List MemPlace}
    (h : DataW.trod enc Tryd.prog W 0 (fun _ => true) true fuel 22 [v] = some y) :
    ∃ (a : Option Addr) (ss : List Sq) (cap : Nat), v = .slice a ss.length cap ∧ Sqs W a ss ∧ ss.length ≤ maxLen := by
  rcases Go.Deep.open_slice Tryd.underlying22 h with ⟨hcs, _⟩ | ⟨x, l, c, m, n, D, Pl, hcs, _, hl, hm, hmm, _, hx⟩
  · simp at hcs
    subst hcs
    exact ⟨none, [], 0, rfl, ⟨by simp, by simp⟩, by simp⟩
  · simp at hcs
    subst hcs
    simp only [if_true] at hmm
    subst hmm
    rw [Tryd.cellsSeq] at hx
    by_cases hl0 : l = 0
    · subst hl0
      exact ⟨some x, [], m, rfl, ⟨by simp, by simp⟩, by simp⟩
    · obtain ⟨b, off, spot⟩ := x
      obtain ⟨cs0, h0, _⟩ := hx 0 (by omega)
      obtain ⟨_, hlen0, hcell0⟩ := World.cells?_some h0
      have hc0 := hcell0 0 (by omega)
      have hspot : spot = none := by
        rw [List.getElem?_eq_getElem (by omega)] at hc0
        simpa [Addr.add] using World.cell?_spot hc0
      subst hspot
      have hblk : b < W.heap.size := by
        rw [List.getElem?_eq_getElem (by omega)] at hc0
        have := World.block_lt_of_cell? _ _ hc0
        simpa [Addr.add] using this
      have hadd : ∀ o i : Nat, (⟨b, o, none⟩ : Addr).add i = ⟨b, o + i, none⟩ := fun o i => by unfold Addr.add; split <;> simp_all
      have each : ∀ i, i < l → ∃ s : Sq, Lies W b (off + i * 3) s ∧ rI s.n ∧ rI s.d ∧ s.ls.length ≤ maxLen := by
        intro i hi
        obtain ⟨cs', h1, h2⟩ := hx i (by omega)
        obtain ⟨_, hlen, hcell⟩ := World.cells?_some h1
        refine seq_of_trod hlen (fun j hj => ?_) h2
        have := hcell j hj
        rw [hadd, hadd] at this
        exact this
      haveI : Inhabited Sq := ⟨dq⟩
      obtain ⟨f, hf⟩ := Go.Deep.choose_lt each
      have hlen : ((List.range l).map f).length = l := by simp
      refine ⟨some ⟨b, off, none⟩, (List.range l).map f, m, by rw [hlen], ⟨?_, fun _ => ⟨b, off, rfl, hblk, fun i hi => ?_⟩⟩, by rw [hlen]; omega⟩
      · intro s hs
        simp only [List.mem_map, List.mem_range] at hs
        obtain ⟨i, hi, rfl⟩ := hs
        exact (hf i hi).2
      · rw [hlen] at hi
        rw [show ((List.range l).map f).getD i dq = f i from by simp [List.getD_eq_getElem?_getD, hi]]
        exact (hf i hi).1
end Go.Proofs.YtecmnbdnnlifhaaDoor
