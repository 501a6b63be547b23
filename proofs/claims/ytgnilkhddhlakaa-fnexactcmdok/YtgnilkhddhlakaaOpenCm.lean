/-
  How a command that came in is opened: what the walks ask of it.
-/
import Derived.Test.YtgnilkhddhlakaaOpenBo
namespace Go.Proofs.Ytgnilkhddhlakaa
open Go.ChangeShapes Go.WideShapes Go.ChangeAt Go.RowKit Go.Joins
set_option linter.unusedVariables false

set_option maxRecDepth 20000 in
set_option maxHeartbeats 1000000 in
/-- A command that came in. -/
theorem open_cmd {H : Type} {enc : TypeId × Value → H} {W : World} {r : Reach} {b0 : Nat} {v : Value} {dd : DataW H} {p : List MemPlace}
    (hv : Value.okWide Try.prog W r b0 25 v) (h : DataW.Trod enc Try.prog W 0 (fun _ => true) true 25 v dd p) :
    ∃ (k x : Int) (a : Option Addr) (zs : List Int) (ca : Nat) (b : Option Addr) (bs : List Bool) (cb : Nat), v = .agg #[.int .i64 k, .int .i64 x, .slice a zs.length ca, .slice b bs.length cb] ∧ Byt W a zs ∧ Bos W b bs ∧ zs.length ≤ maxLen ∧ bs.length ≤ maxLen := by
  obtain ⟨cs, rfl, hsz⟩ := okWide_struct Try.underlying25 hv
  have hC : Try.prog.cellsOf 25 = 4 := by kernel_rfl
  have k1 : Try.prog.cellsOf 3 = 1 := by kernel_rfl
  have k2 : Try.prog.cellsOf 22 = 1 := by kernel_rfl
  have k3 : Try.prog.cellsOf 23 = 1 := by kernel_rfl
  have hsz1 := hsz.trans hC
  obtain ⟨v0, v1, v2, v3, rfl⟩ : ∃ v0 v1 v2 v3, cs = #[v0, v1, v2, v3] := by
    obtain ⟨l⟩ := cs
    match l, hsz1 with
    | [v0, v1, v2, v3], _ => exact ⟨v0, v1, v2, v3, rfl⟩
  obtain ⟨fuel, hf⟩ := h
  obtain ⟨xs, n, -, -, hl, hlen, hg⟩ := DataW.trod_struct Try.underlying25 hf
  match xs, hlen with
  | [y0, y1, y2, y3], _ =>
    have g0 : DataW.trod enc Try.prog W 0 (fun _ => true) true n 3 [v0] = some y0 := by simpa [Value.cells, k1] using hg 0 _ rfl
    have g1 : DataW.trod enc Try.prog W 0 (fun _ => true) true n 3 [v1] = some y1 := by simpa [Value.cells, k1] using hg 1 _ rfl
    have g2 : DataW.trod enc Try.prog W 0 (fun _ => true) true n 22 [v2] = some y2 := by simpa [Value.cells, k2] using hg 2 _ rfl
    have g3 : DataW.trod enc Try.prog W 0 (fun _ => true) true n 23 [v3] = some y3 := by simpa [Value.cells, k3] using hg 3 _ rfl
    obtain ⟨k, e0, -, -⟩ := DataW.trod_int Try.underlying3 g0
    obtain ⟨x, e1, -, -⟩ := DataW.trod_int Try.underlying3 g1
    obtain ⟨a, zs, ca, e2, hb, hm1⟩ := byt_of_trod (v := v2) g2
    obtain ⟨b, bs, cb, e3, hd, hm2⟩ := bos_of_trod (v := v3) g3
    simp at e0 e1
    subst e0 e1 e2 e3
    exact ⟨k, x, a, zs, ca, b, bs, cb, rfl, hb, hd, hm1, hm2⟩
end Go.Proofs.Ytgnilkhddhlakaa
