/-
  How a device that came in is opened: what the walks ask of it.
-/
import Derived.Test.YtajhaoclkomjnaaOpenB
import Derived.Test.YtajhaoclkomjnaaElTo
import Derived.Deep.Slices
import Derived.Deep.Strs
import Derived.ChangeSame
namespace Go.Proofs.Ytajhaoclkomjnaa
open Go.ChangeShapes Go.WideShapes Go.ChangeAt Go.RowKit Go.Joins
set_option linter.unusedVariables false

theorem Try.cellsLPend : Try.prog.cellsOf 77 = 2 := by kernel_rfl
theorem Try.cellsLBs : Try.prog.cellsOf 38 = 1 := by kernel_rfl
theorem Try.cellsLInt : Try.prog.cellsOf 3 = 1 := by kernel_rfl

theorem pen_of_trod {H : Type} {enc : TypeId × Value → H} {W : World} {n : Nat} {cs : List Value} {x : DataW H × List MemPlace} {b off : Nat} (hl : cs.length = 2) (hc : ∀ i, i < 2 → W.cell? ⟨b, off + i, none⟩ = cs[i]?)
    (h : DataW.trod enc Try.prog W 0 (fun _ => true) true n 77 cs = some x) : ∃ e : El, LieE true W b off e ∧ rE true e ∧ Byt W e.a e.ls := by
  obtain ⟨y0, y1, k, -, -, g0, g1⟩ := trod_struct2 Try.underlying77 h
  match cs, hl with
  | [v0, v1], _ =>
    have g0' : DataW.trod enc Try.prog W 0 (fun _ => true) true k 3 [v0] = some y0 := by
      have := g0
      simp only [Try.cellsLInt] at this
      exact this
    have g1' : DataW.trod enc Try.prog W 0 (fun _ => true) true k 38 [v1] = some y1 := by
      have := g1
      simp only [Try.cellsLBs] at this
      exact this
    obtain ⟨N, e1, _, w1⟩ := DataW.trod_int Try.underlying3 g0'
    obtain ⟨a, zs, cap, rfl, hb, hm⟩ := byt_of_trod g1'
    simp at e1
    subst e1
    have h0 := hc 0 (by omega)
    have h1 := hc 1 (by omega)
    simp at h0 h1
    have hr := bounds_i64 w1
    exact ⟨⟨N, a, cap, zs⟩, ⟨fun _ => h0, h1⟩, ⟨hr.1, hr.2, hm, by simp⟩, hb⟩
theorem sec_of_trod {H : Type} {enc : TypeId × Value → H} {W : World} {n : Nat} {cs : List Value} {x : DataW H × List MemPlace} {b off : Nat} (hl : cs.length = 1) (hc : ∀ i, i < 1 → W.cell? ⟨b, off + i, none⟩ = cs[i]?)
    (h : DataW.trod enc Try.prog W 0 (fun _ => true) true n 38 cs = some x) : ∃ e : El, LieE false W b off e ∧ rE false e ∧ Byt W e.a e.ls := by
  match cs, hl with
  | [v0], _ =>
    obtain ⟨a, zs, cap, rfl, hb, hm⟩ := byt_of_trod h
    have h0 := hc 0 (by omega)
    simp at h0
    exact ⟨⟨0, a, cap, zs⟩, ⟨by simp, h0⟩, ⟨by simp, by simp, hm, by simp⟩, hb⟩

/-- A slice of such that came in reads as some. -/
theorem els_of_trod (p : Bool) {T S : TypeId} (hT : Try.prog.underlying S = some (.slice T)) (hcell : Try.prog.cellsOf T = eW p) {H : Type} {enc : TypeId × Value → H} {W : World} {fuel : Nat} {v : Value} {y : DataW H × List MemPlace}
    (one : ∀ {n : Nat} {cs : List Value} {x : DataW H × List MemPlace} {b off : Nat}, cs.length = eW p → (∀ i, i < eW p → W.cell? ⟨b, off + i, none⟩ = cs[i]?) → DataW.trod enc Try.prog W 0 (fun _ => true) true n T cs = some x → ∃ e : El, LieE p W b off e ∧ rE p e ∧ Byt W e.a e.ls)
    (h : DataW.trod enc Try.prog W 0 (fun _ => true) true fuel S [v] = some y) :
    ∃ (a : Option Addr) (ss : List El) (cap : Nat), v = .slice a ss.length cap ∧ Els p W a ss ∧ ss.length ≤ maxLen := by
  rcases Go.Deep.open_slice hT h with ⟨hcs, _⟩ | ⟨x, l, c, m, n, D, Pl, hcs, _, hl, hm, hmm, _, hx⟩
  · simp at hcs
    subst hcs
    exact ⟨none, [], 0, rfl, ⟨by simp, by simp⟩, by simp⟩
  · simp at hcs
    subst hcs
    simp only [if_true] at hmm
    subst hmm
    rw [hcell] at hx
    have hw : 0 < eW p := by cases p <;> simp [eW]
    by_cases hl0 : l = 0
    · subst hl0
      exact ⟨some x, [], m, rfl, ⟨by simp, by simp⟩, by simp⟩
    · obtain ⟨b, off, spot⟩ := x
      obtain ⟨cs0, h0, _⟩ := hx 0 (by omega)
      obtain ⟨_, hlen0, hcell0⟩ := World.cells?_some h0
      have hc0 := hcell0 0 (by omega)
      have hspot : spot = none := by
        rw [List.getElem?_eq_getElem (by omega)] at hc0
        simpa [Addr.add] using World.cell?_spot hc0
      subst hspot
      have hblk : b < W.heap.size := by
        rw [List.getElem?_eq_getElem (by omega)] at hc0
        have := World.block_lt_of_cell? _ _ hc0
        simpa [Addr.add] using this
      have hadd : ∀ o i : Nat, (⟨b, o, none⟩ : Addr).add i = ⟨b, o + i, none⟩ := fun o i => by unfold Addr.add; split <;> simp_all
      have each : ∀ i, i < l → ∃ e : El, LieE p W b (off + i * eW p) e ∧ rE p e ∧ Byt W e.a e.ls := by
        intro i hi
        obtain ⟨cs', h1, h2⟩ := hx i (by omega)
        obtain ⟨_, hlen, hcell⟩ := World.cells?_some h1
        refine one hlen (fun j hj => ?_) h2
        have := hcell j hj
        rw [hadd, hadd] at this
        exact this
      haveI : Inhabited El := ⟨de⟩
      obtain ⟨f, hf⟩ := Go.Deep.choose_lt each
      have hlen : ((List.range l).map f).length = l := by simp
      refine ⟨some ⟨b, off, none⟩, (List.range l).map f, m, by rw [hlen], ⟨?_, fun _ => ⟨b, off, rfl, hblk, fun i hi => ?_⟩⟩, by rw [hlen]; omega⟩
      · intro s hs
        simp only [List.mem_map, List.mem_range] at hs
        obtain ⟨i, hi, rfl⟩ := hs
        exact (hf i hi).2
      · rw [hlen] at hi
        rw [show ((List.range l).map f).getD i de = f i from by simp [List.getD_eq_getElem?_getD, hi]]
        exact (hf i hi).1
theorem secs_of_trod {H : Type} {enc : TypeId × Value → H} {W : World} {fuel : Nat} {v : Value} {y : DataW H × List MemPlace} (h : DataW.trod enc Try.prog W 0 (fun _ => true) true fuel 22 [v] = some y) :
    ∃ (a : Option Addr) (ss : List El) (cap : Nat), v = .slice a ss.length cap ∧ Els false W a ss ∧ ss.length ≤ maxLen := els_of_trod false Try.underlying22 Try.cellsLBs (fun a b c => sec_of_trod a b c) h
theorem pens_of_trod {H : Type} {enc : TypeId × Value → H} {W : World} {fuel : Nat} {v : Value} {y : DataW H × List MemPlace} (h : DataW.trod enc Try.prog W 0 (fun _ => true) true fuel 23 [v] = some y) :
    ∃ (a : Option Addr) (ss : List El) (cap : Nat), v = .slice a ss.length cap ∧ Els true W a ss ∧ ss.length ≤ maxLen := els_of_trod true Try.underlying23 Try.cellsLPend (fun a b c => pen_of_trod a b c) h
end Go.Proofs.Ytajhaoclkomjnaa
