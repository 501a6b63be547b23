/-
  How an item that came in is opened: what the walks ask of it.
-/
import Derived.Test.YtdkffeemnenhdaaGreatDoorVarsC
namespace Go.Proofs.YtdkffeemnenhdaaGreatDoor
open Go.ChangeShapes Go.WideShapes Go.ChangeAt Go.RowKit Go.Joins
set_option linter.unusedVariables false

set_option maxRecDepth 20000 in
/-- An item that came in. -/
theorem open_item {H : Type} {enc : TypeId × Value → H} {W : World} {r : Reach} {b0 : Nat} {v : Value} {d : DataW H} {p : List MemPlace}
    (hv : Value.okWide Tryz.prog W r b0 36 v) (h : DataW.Trod enc Tryz.prog W 0 (fun _ => true) true 36 v d p) :
    ∃ (N : Int) (a : Option Addr) (zs : List Int) (cap : Nat), v = .agg #[.int .i64 N, .slice a zs.length cap] ∧ Byt W a zs ∧ zs.length ≤ maxLen ∧ (-9223372036854775808 ≤ N ∧ N ≤ 9223372036854775807) := by
  obtain ⟨cs, rfl, hsz⟩ := okWide_struct Tryz.underlying36 hv
  have hsz1 := hsz.trans Tryz.cellsLItem
  obtain ⟨v0, v1, rfl⟩ : ∃ v0 v1, cs = #[v0, v1] := by
    obtain ⟨l⟩ := cs
    match l, hsz1 with
    | [v0, v1], _ => exact ⟨v0, v1, rfl⟩
  obtain ⟨fuel, hf⟩ := h
  obtain ⟨y0, y1, k, -, -, g0, g1⟩ := trod_struct2 Tryz.underlying36 hf
  obtain ⟨N, e0, _, w0⟩ := DataW.trod_int Tryz.underlying3 (show DataW.trod enc Tryz.prog W 0 (fun _ => true) true k 3 [v0] = some y0 by simpa [Value.cells, Tryz.cellsIInt] using g0)
  obtain ⟨a, zs, cap, e, hb, hm⟩ := byt_of_trod (v := v1) (show DataW.trod enc Tryz.prog W 0 (fun _ => true) true k 34 [v1] = some y1 by simpa [Value.cells, Tryz.cellsIInt, Tryz.cellsIBs] using g1)
  simp at e0
  subst e0 e
  exact ⟨N, a, zs, cap, rfl, hb, hm, bounds_i64 w0⟩
end Go.Proofs.YtdkffeemnenhdaaGreatDoor
