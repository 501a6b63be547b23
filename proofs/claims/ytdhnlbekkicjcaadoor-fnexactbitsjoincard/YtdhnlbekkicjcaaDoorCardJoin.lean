/-
  FnExactBitsJoin, for every input: the call returns true and leaves its arguments as they were, where the three sentinels hold what the program's own text lays there (the card ties them to it).
-/
import Derived.Test.YtdhnlbekkicjcaaDoorOpenS
import Derived.Test.YtdhnlbekkicjcaaDoorVars3
import Derived.Test.YtdhnlbekkicjcaaDoorLawJoin
import Derived.Stop.LaidTwo
namespace Go.Proofs.YtdhnlbekkicjcaaDoor.cardJoin
open Go.ChangeShapes Go.WideShapes Go.ChangeAt Go.RowKit Go.Joins
set_option linter.unusedVariables false

theorem door_met (os : Os) (args : Array Value) : laidMetH Tryd.prog Rows.fnExactBitsJoinRow.laid ((World.doorLaid Tryd.prog 66 os).forCall (fun _ _ => 0) ⟨#[], args, []⟩).memory :=
  laidMetH_of_parts3 (fuel := 8) (laidMet_of_run' 8 (by kernel_rfl) (by kernel_rfl)) (by kernel_rfl) (by kernel_rfl)

set_option maxRecDepth 100000 in
theorem lifted (os : Os) (started : os.Started) (H : Type) (enc : TypeId × Value → H) :
    ReturnsInHanded {} Tryd.checked os 8 .any (fun w args => (Rows.fnExactBitsJoinSpec.pre enc Tryd.prog Tryd.f8 [] false w args ∧ laidMetH Tryd.prog Rows.fnExactBitsJoinRow.laid w) ∧ sizedMet enc Tryd.prog Tryd.f8 (OpenSpec.ofChange Rows.fnExactBitsJoinSpec) false w args)
      (Rows.fnExactBitsJoinSpec.post enc Tryd.prog Tryd.f8 false true false false) := by
  refine returnsInHanded_of_change_and (C := Tryd.checked) (X := fun w _ => laidMetH Tryd.prog Rows.fnExactBitsJoinRow.laid w) (fun _ _ _ hh h => h.of_heap hh) Tryd.own started (by kernel_rfl) Tryd.func8
    (ChangeSpec.witness_shaped (enc := enc) (C := Tryd.checked) (os := os) (X := fun w _ => laidMetH Tryd.prog Rows.fnExactBitsJoinRow.laid w) false (World.doorLaid Tryd.prog 66 os) #[.agg #[.slice .none 0 0, .int .i64 0], .agg #[.slice .none 0 0, .int .i64 0]] 8 rfl (World.shaped_of_RefB (by kernel_rfl) (by kernel_rfl)) (by kernel_rfl) (by kernel_rfl) (by kernel_rfl) (door_met os _)) ?_
  intro W base args ds gs before hval0 hW _ _ hL _
  have hval : ∀ (j : Nat) t v, Tryd.f8.params[j]? = some t → args[j]? = some v → Value.okWide Tryd.prog W .any base t v := hval0
  have hW' := hW
  obtain ⟨p, q, hA0, hV0, rfl, hfz, hnd⟩ := hW
  have hA : DataW.TrodAll enc Tryd.prog W 0 (fun _ => true) true Tryd.f8.params.toList args.toList ds p := hA0
  have hV : DataW.TrodVars enc Tryd.prog W (fun _ => true) ["loop.example/g00528/impl.errOver", "loop.example/g00528/impl.errRange", "loop.example/g00528/impl.errFull"] gs q := hV0
  rw [Tryd.params8] at hA hval
  obtain ⟨v0, vs0, d0, ds0, p0, q0, hargs, rfl, rfl, h0, r0⟩ := trodAll_cons hA
  obtain ⟨v1, vs1, d1, ds1, p1, q1, rfl, rfl, rfl, h1, r1⟩ := trodAll_cons r0
  obtain ⟨rfl, rfl, rfl⟩ := trodAll_nil r1
  obtain rfl : args = #[v0, v1] := by cases args; simp_all
  have k0 := h0
  have k1 := h1
  have lt0 : ∀ x ∈ p0, x.block < W.heap.size := by obtain ⟨m, hm⟩ := k0; exact DataW.trod_lt m _ _ _ hm
  have lt1 : ∀ x ∈ p1, x.block < W.heap.size := by obtain ⟨m, hm⟩ := k1; exact DataW.trod_lt m _ _ _ hm
  obtain ⟨c0, c1, y0, y1, m, rfl, hd0, hp0, hy0, hy1⟩ := open_agg2 Tryd.underlying44 (by kernel_rfl) (by kernel_rfl) (hval 0 44 v0 rfl rfl) h0
  obtain ⟨N, e1, hY1, wN⟩ := DataW.trod_int Tryd.underlying3 hy1
  simp at e1
  subst e1
  obtain ⟨a, zs, cap, rfl, hb, hm⟩ := byt_of_trod hy0
  obtain ⟨c2, c3, y2, y3, m2, rfl, hd1, hp1, hy2, hy3⟩ := open_agg2 Tryd.underlying44 (by kernel_rfl) (by kernel_rfl) (hval 1 44 v1 rfl rfl) h1
  obtain ⟨L, e2, hY2, wL⟩ := DataW.trod_int Tryd.underlying3 hy3
  simp at e2
  subst e2
  obtain ⟨b, us, cb, rfl, hb2, hm2⟩ := byt_of_trod hy2
  rw [MakeChecks.laidMetH_plain _ _ _ (by kernel_rfl)] at hL
  obtain ⟨aO, aF, sO, sF, cO, cF, tO, tF, hvO, hvF, -, -, -, -, -, -, hne, hbO, hbF⟩ := laid_sentinels2 hL Tryd.gOver Tryd.tOver Tryd.gFull Tryd.tFull Tryd.underlying62 Tryd.rowES Tryd.underlying105 Tryd.underlying130 rfl rfl Tryd.underlying9 Tryd.cellsES Tryd.cellsStr
  obtain ⟨aR, hvR, hcR⟩ := sentinel hL.tail.tail Tryd.gRange Tryd.tRange
  have hcO : W.cell? ⟨2, 0, .none⟩ = some (.iface 105 (.pointer (some aO))) := by simpa using World.var?_cell Tryd.gOver hvO 0
  have hcF : W.cell? ⟨1, 0, .none⟩ = some (.iface 105 (.pointer (some aF))) := by simpa using World.var?_cell Tryd.gFull hvF 0
  have hT : Two W aO aF := ⟨hcO, hcF, fun h => hne h.symm, ⟨_, _, hbO⟩, ⟨_, _, hbF⟩⟩
  obtain ⟨rfl, rfl⟩ := hV.unique (vars_three enc Tryd.gOver Tryd.tOver Tryd.underlying62 hvO trivial Tryd.gRange Tryd.tRange Tryd.underlying62 hvR trivial Tryd.gFull Tryd.tFull Tryd.underlying62 hvF trivial _)
  have hG0 : 0 < W.heap.size := World.block_lt_of_cell? _ _ hcR
  clear hA0 hV0 hval0
  refine (lawJoin_any a cap zs N b cb us L aO aF W hb hb2 hm hm2 hT).mono fun e W' ⟨he, bel⟩ => ?_
  subst he
  exact ⟨_, rfl, _, _, _, [], _, _, hW', trodAll_mk1 (shut_bool Tryd.underlying4 _),
    (trodAll_cons_mk (Below.trod Tryd.laidOut (by kernel_rfl) (of_decide_eq_true (by kernel_rfl)) k0 bel lt0) (trodAll_cons_mk (Below.trod Tryd.laidOut (by kernel_rfl) (of_decide_eq_true (by kernel_rfl)) k1 bel lt1) trodAll_mk0)),
    vars_three enc Tryd.gOver Tryd.tOver Tryd.underlying62 (var?_below bel Tryd.gOver hT.lt.1 hvO) trivial Tryd.gRange Tryd.tRange Tryd.underlying62 (var?_below bel Tryd.gRange hG0 hvR) trivial Tryd.gFull Tryd.tFull Tryd.underlying62 (var?_below bel Tryd.gFull hT.lt.2 hvF) trivial _,
    bel.frame _, fun h => by cases h⟩

theorem said : Rows.FnExactBitsJoinSaid :=
  OpenClaim.holds_of_wide 8 Tryd.f8 rfl rfl rfl rfl rfl rfl rfl ⟨rfl, rfl, rfl, rfl, rfl⟩ rfl rfl rfl rfl rfl (by kernel_rfl) Tryd.func8 (by kernel_rfl)
    (of_decide_eq_true (by kernel_rfl)) (by unfold Func.isWrapper; first | (rw [if_pos (by decide +kernel)]; kernel_rfl) | (rw [if_neg (by decide +kernel)]; exact ⟨rfl, rfl⟩))
    (fun os started H enc _ => lifted os started H enc)

theorem plain (f : FuncId) (fn : Func) (hf : Tryd.pinned.checked.prog.funcNamed "loop.example/g00528/laws.FnExactBitsJoin" = some f) (hfn : Tryd.pinned.checked.prog.funcs[f]? = some fn) :
    true = Tryd.pinned.checked.prog.looks [] ∧ ∀ (j : Nat) t, fn.params[j]? = some t → Tryd.pinned.checked.prog.wantsStandIn t = false := by
  obtain rfl : f = 8 := Option.some.inj ((show Tryd.prog.funcNamed "loop.example/g00528/laws.FnExactBitsJoin" = some 8 by kernel_rfl).symm.trans hf) |>.symm
  obtain rfl : fn = Tryd.f8 := (Option.some.inj (Tryd.func8.symm.trans hfn)).symm
  refine ⟨by kernel_rfl, fun j t ht => ?_⟩
  rw [Tryd.params8] at ht
  have hmem := Array.mem_of_getElem? ht
  have h' : t = 44 := by simpa using hmem
  rcases h' with rfl
  exact (show Tryd.prog.wantsStandIn 44 = false by kernel_rfl)

end cardJoin

theorem bitsJoin_card : Rows.FnExactBitsJoinCardSaid :=
  Claim7.holds_tied_plain_at .later [] _ _ _ _ cardJoin.said (fun _ h => by cases h) (by kernel_rfl) (fun _ h => by cases h) fnExactBitsJoin_row_tie rfl ⟨rfl, rfl⟩ (by kernel_rfl) rfl cardJoin.plain (by kernel_rfl)
#print axioms bitsJoin_card
end Go.Proofs.YtdhnlbekkicjcaaDoor
