/-
  Where letters were: a map by three letters, of rows of numbers.
-/
import Derived.Test.YtgppjlbocppjlaaLvC
import Derived.Test.YtgppjlbocppjlaaLzL
import Derived.WideKeyEntry
import Derived.DeepKeys4
namespace Go.Proofs.Ytgppjlbocppjlaa
open Go.RowKit Go.Maps Go.ChangeShapes Go.ChangeAt Go.MapKept Go.WideElems
open Go.ChangeMaps (setBlock heap_setBlock_same)
open Go.WideMaps (KeyLaw)
set_option linter.unusedVariables false

theorem Try.laidOutL : laidOutB Try.prog = true := by kernel_rfl
theorem Try.keyLL : KeyLaw Try.prog 48 := deep_law_laid Try.laidOutL (m := 100) (by omega) (of_decide_eq_true (by kernel_rfl)) (by kernel_rfl) (by kernel_rfl)
theorem Try.lawKL : Keyed Try.prog 48 := Keyed.of_law Try.keyLL

def lkV (q : Int × Int × Int) : Value := .agg #[.int .u8 q.1, .int .u8 q.2.1, .int .u8 q.2.2]
def lkL (q : Int × Int × Int) : Lit := .string (keyBytes [.int .u8 q.1, .int .u8 q.2.1, .int .u8 q.2.2])
def lkR (q : Int × Int × Int) : Prop := (0 ≤ q.1 ∧ q.1 ≤ 255) ∧ (0 ≤ q.2.1 ∧ q.2.1 ≤ 255) ∧ (0 ≤ q.2.2 ∧ q.2.2 ≤ 255)
theorem lk_wf {z : Int} (h : 0 ≤ z ∧ z ≤ 255) : (Lit.int .u8 z).wf = true := by
  simp [Lit.wf, IntKind.min, IntKind.max, IntKind.bits, IntKind.signed]
  omega
theorem lk_key {q : Int × Int × Int} (h : lkR q) : keyOf Try.prog 48 (lkV q) = some (lkL q) := by
  obtain ⟨x, y, z⟩ := q
  obtain ⟨h0, h1, h2⟩ := h
  simp only at h0 h1 h2
  have u1 : Try.prog.keyType 48 = true := by kernel_rfl
  have u2 : Try.prog.cellsOf 48 = 3 := by kernel_rfl
  have u3 : Try.prog.cellsOf 5 = 1 := by kernel_rfl
  have u4 : Try.prog.types.size = 71 := by kernel_rfl
  have u5 : ∀ d, Try.prog.keyLits (d + 1 + 1) 48 [.int .u8 x, .int .u8 y, .int .u8 z] = some [.int .u8 x, .int .u8 y, .int .u8 z] := by
    intro d
    simp [Program.keyLits, Try.underlying48, Try.underlying5, u2, u3, List.range_succ, lk_wf h0, lk_wf h1, lk_wf h2]
  have u6 : (Value.agg #[.int .u8 x, .int .u8 y, .int .u8 z]).formed Try.prog 48 = true := by
    simp [Value.formed, Try.underlying48, u2]
  unfold keyOf lkV lkL
  simp only [Try.underlying48, u1, u6, Bool.and_self, if_true, Value.cells]
  rw [u4, u5]
  rfl
theorem lk_inj {q r : Int × Int × Int} (hq : lkR q) (hr : lkR r) (h : lkL q = lkL r) : q = r := by
  have h1 := Try.keyLL.inj (lk_key hq) (by rw [h]; exact lk_key hr)
  obtain ⟨x, y, z⟩ := q
  obtain ⟨x', y', z'⟩ := r
  simpa [lkV] using h1

/-- A store's outcome hangs on the map alone. -/
theorem upd_det {P : Program} {k t e : TypeId} {w w' : World} {b : Nat} {es e1 e2 : Array MapEntry} {clock c1 c2 : Nat} {key val : Value} {kl : Lit} (K : KeyLaw P k) (ht : P.underlying t = some (.map k e)) (hs : Stamped es clock) (hks : ∀ x ∈ es.toList, ∃ l, keyOf P k x.key = some l) (hkey : keyOf P k key = some kl)
    (hw : w.heap[b]? = some (.map es clock)) (hw' : w'.heap[b]? = some (.map es clock)) (h1 : (Instr.mapUpdate t (.map (some b)) key val).run P w = .ok () (setBlock w b (.map e1 c1))) (h2 : (Instr.mapUpdate t (.map (some b)) key val).run P w' = .ok () (setBlock w' b (.map e2 c2))) :
    e1 = e2 ∧ c1 = c2 := by
  have inj : ∀ (w : World) (h : w.heap[b]? = some (.map es clock)) {x y : Obj}, setBlock w b x = setBlock w b y → x = y := fun w h x y e => by
    have := heap_setBlock_same h x
    rw [e, heap_setBlock_same h y] at this
    exact (Option.some.inj this).symm
  have hn := hs.2.2
  rcases K.find w hkey es.toList hks with ⟨f1, g1⟩ | ⟨j, x, f1, g1, m1⟩ <;> rcases K.find w' hkey es.toList hks with ⟨f2, g2⟩ | ⟨j', x', f2, g2, m2⟩
  · simp [Instr.mapUpdate, run_underlying ht, MapKept.run_getObj_map hw, K.check w false hkey, f1, MapKept.run_setObj_map _ hw, Result.andThen] at h1
    simp [Instr.mapUpdate, run_underlying ht, MapKept.run_getObj_map hw', K.check w' false hkey, f2, MapKept.run_setObj_map _ hw', Result.andThen] at h2
    have h3 := inj w hw h1
    have h4 := inj w' hw' h2
    have h5 := h3.symm.trans h4
    simpa using h5
  · exact absurd m2 (g1 x' (List.mem_of_getElem? g2))
  · exact absurd m1 (g2 x (List.mem_of_getElem? g1))
  · have hjj : j = j' := by
      obtain ⟨a1, a2⟩ := List.getElem?_eq_some_iff.1 g1
      obtain ⟨b1, b2⟩ := List.getElem?_eq_some_iff.1 g2
      refine (List.getElem_inj (h₀ := by simpa using a1) (h₁ := by simpa using b1) hn).1 ?_
      simp [a2, b2, m1, m2]
    subst hjj
    have hj1 : es[j]? = some x := by simpa using g1
    have hj2 : es[j]? = some x' := by simpa using g2
    simp [Instr.mapUpdate, run_underlying ht, MapKept.run_getObj_map hw, K.check w false hkey, f1, hj1, m1, K.stays w hkey, MapKept.run_setObj_map _ hw, Result.andThen] at h1
    simp [Instr.mapUpdate, run_underlying ht, MapKept.run_getObj_map hw', K.check w' false hkey, f2, hj2, m2, K.stays w' hkey, MapKept.run_setObj_map _ hw', Result.andThen] at h2
    have h3 := inj w hw h1
    have h4 := inj w' hw' h2
    have h5 := h3.symm.trans h4
    simpa using h5
end Go.Proofs.Ytgppjlbocppjlaa
