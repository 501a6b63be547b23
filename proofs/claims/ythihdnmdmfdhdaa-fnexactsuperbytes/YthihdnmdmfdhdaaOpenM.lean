/-
  How a map that came in is opened: what the walks ask of it.
-/
import Derived.Test.YthihdnmdmfdhdaaOpenB
import Derived.Test.YthihdnmdmfdhdaaPlP
import Derived.Deep.Slices
import Derived.Deep.Strs
import Derived.ChangeSame
namespace Go.Proofs.Ythihdnmdmfdhdaa
open Go.ChangeShapes Go.WideShapes Go.ChangeAt Go.RowKit Go.Joins
set_option linter.unusedVariables false

theorem Try.cellsLPl : Try.prog.cellsOf 75 = 2 := by kernel_rfl
theorem Try.cellsLPI : Try.prog.cellsOf 3 = 1 := by kernel_rfl

theorem Try.cellsLPS : Try.prog.cellsOf 22 = 1 := by kernel_rfl

theorem plc_of_trod {H : Type} {enc : TypeId × Value → H} {W : World} {n : Nat} {cs : List Value} {x : DataW H × List MemPlace} {b off : Nat} (hl : cs.length = 2) (hc : ∀ i, i < 2 → W.cell? ⟨b, off + i, none⟩ = cs[i]?)
    (h : DataW.trod enc Try.prog W 0 (fun _ => true) true n 75 cs = some x) : ∃ p : Int × Int, (W.cell? ⟨b, off, none⟩ = some (.int .i64 p.1) ∧ W.cell? ⟨b, off + 1, none⟩ = some (.int .i64 p.2)) ∧ rP p := by
  obtain ⟨y0, y1, k, -, -, g0, g1⟩ := trod_struct2 Try.underlying75 h
  match cs, hl with
  | [v0, v1], _ =>
    have g0' : DataW.trod enc Try.prog W 0 (fun _ => true) true k 3 [v0] = some y0 := by
      have := g0
      simp only [Try.cellsLPI] at this
      exact this
    have g1' : DataW.trod enc Try.prog W 0 (fun _ => true) true k 3 [v1] = some y1 := by
      have := g1
      simp only [Try.cellsLPI] at this
      exact this
    obtain ⟨N, e1, _, w1⟩ := DataW.trod_int Try.underlying3 g0'
    obtain ⟨D, e2, _, w2⟩ := DataW.trod_int Try.underlying3 g1'
    simp at e1 e2
    subst e1 e2
    have h0 := hc 0 (by omega)
    have h1 := hc 1 (by omega)
    simp at h0 h1
    exact ⟨(N, D), ⟨h0, h1⟩, bounds_i64 w1, bounds_i64 w2⟩

/-- A slice of places that came in reads as some. -/
theorem pls_of_trod {H : Type} {enc : TypeId × Value → H} {W : World} {fuel : Nat} {v : Value} {y : DataW H × List MemPlace}
    (h : DataW.trod enc Try.prog W 0 (fun _ => true) true fuel 22 [v] = some y) :
    ∃ (a : Option Addr) (ps : List (Int × Int)) (cap : Nat), v = .slice a ps.length cap ∧ Pls W a ps ∧ ps.length ≤ maxLen := by
  rcases Go.Deep.open_slice Try.underlying22 h with ⟨hcs, _⟩ | ⟨x, l, c, m, n, D, Pl, hcs, _, hl, hm, hmm, _, hx⟩
  · simp at hcs
    subst hcs
    exact ⟨none, [], 0, rfl, ⟨by simp, by simp⟩, by simp⟩
  · simp at hcs
    subst hcs
    simp only [if_true] at hmm
    subst hmm
    rw [Try.cellsLPl] at hx
    by_cases hl0 : l = 0
    · subst hl0
      exact ⟨some x, [], m, rfl, ⟨by simp, by simp⟩, by simp⟩
    · obtain ⟨b, off, spot⟩ := x
      obtain ⟨cs0, h0, _⟩ := hx 0 (by omega)
      obtain ⟨_, hlen0, hcell0⟩ := World.cells?_some h0
      have hc0 := hcell0 0 (by omega)
      have hspot : spot = none := by
        rw [List.getElem?_eq_getElem (by omega)] at hc0
        simpa [Addr.add] using World.cell?_spot hc0
      subst hspot
      have hblk : b < W.heap.size := by
        rw [List.getElem?_eq_getElem (by omega)] at hc0
        have := World.block_lt_of_cell? _ _ hc0
        simpa [Addr.add] using this
      have hadd : ∀ o i : Nat, (⟨b, o, none⟩ : Addr).add i = ⟨b, o + i, none⟩ := fun o i => by unfold Addr.add; split <;> simp_all
      have each : ∀ i, i < l → ∃ p : Int × Int, (W.cell? ⟨b, off + i * 2, none⟩ = some (.int .i64 p.1) ∧ W.cell? ⟨b, off + i * 2 + 1, none⟩ = some (.int .i64 p.2)) ∧ rP p := by
        intro i hi
        obtain ⟨cs', h1, h2⟩ := hx i (by omega)
        obtain ⟨_, hlen, hcell⟩ := World.cells?_some h1
        refine plc_of_trod hlen (fun j hj => ?_) h2
        have := hcell j hj
        rw [hadd, hadd] at this
        exact this
      haveI : Inhabited (Int × Int) := ⟨dp⟩
      obtain ⟨f, hf⟩ := Go.Deep.choose_lt each
      have hlen : ((List.range l).map f).length = l := by simp
      refine ⟨some ⟨b, off, none⟩, (List.range l).map f, m, by rw [hlen], ⟨?_, fun _ => ⟨b, off, rfl, hblk, fun i hi => ?_⟩⟩, by rw [hlen]; omega⟩
      · intro s hs
        simp only [List.mem_map, List.mem_range] at hs
        obtain ⟨i, hi, rfl⟩ := hs
        exact (hf i hi).2
      · rw [hlen] at hi
        rw [show ((List.range l).map f).getD i dp = f i from by simp [List.getD_eq_getElem?_getD, hi]]
        exact (hf i hi).1
/-- A map that came in. -/
theorem open_map1 {H : Type} {enc : TypeId × Value → H} {W : World} {r : Reach} {b0 : Nat} {v : Value} {d : DataW H} {p : List MemPlace}
    (hv : Value.okWide Try.prog W r b0 24 v) (h : DataW.Trod enc Try.prog W 0 (fun _ => true) true 24 v d p) :
    ∃ (a : Option Addr) (ps : List (Int × Int)) (cap : Nat), v = .agg #[.slice a ps.length cap] ∧ Pls W a ps ∧ ps.length ≤ maxLen := by
  obtain ⟨cs, rfl, hsz⟩ := okWide_struct Try.underlying24 hv
  have hC : Try.prog.cellsOf 24 = 1 := by kernel_rfl
  have hsz1 := hsz.trans hC
  obtain ⟨v0, rfl⟩ : ∃ v0, cs = #[v0] := by
    obtain ⟨l⟩ := cs
    match l, hsz1 with
    | [v0], _ => exact ⟨v0, rfl⟩
  obtain ⟨fuel, hf⟩ := h
  obtain ⟨y0, n, hx, hl, hy⟩ := trod_struct1 Try.underlying24 hf
  obtain ⟨a, ps, cap, e, h1, h2⟩ := pls_of_trod (v := v0) (by simpa [Value.cells, Try.cellsLPS] using hy)
  exact ⟨a, ps, cap, by rw [e], h1, h2⟩
end Go.Proofs.Ythihdnmdmfdhdaa
