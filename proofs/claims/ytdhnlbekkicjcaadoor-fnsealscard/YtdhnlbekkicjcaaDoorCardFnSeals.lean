/-
  FnSeals, for every input: the call returns true and leaves its arguments as they were, where the three sentinels hold what the program's own text lays there (the card ties them to it).
-/
import Derived.Test.YtdhnlbekkicjcaaDoorOpenS
import Derived.Test.YtdhnlbekkicjcaaDoorVars3
import Derived.Test.YtdhnlbekkicjcaaDoorLawFnSeals
import Derived.Stop.LaidTwo
namespace Go.Proofs.YtdhnlbekkicjcaaDoor.cardFnSeals
open Go.ChangeShapes Go.WideShapes Go.ChangeAt Go.RowKit Go.Joins
set_option linter.unusedVariables false

theorem door_met (os : Os) (args : Array Value) : laidMetH Tryd.prog Rows.fnSealsRow.laid ((World.doorLaid Tryd.prog 66 os).forCall (fun _ _ => 0) ⟨#[], args, []⟩).memory :=
  laidMetH_of_parts3 (fuel := 8) (laidMet_of_run' 8 (by kernel_rfl) (by kernel_rfl)) (by kernel_rfl) (by kernel_rfl)

set_option maxRecDepth 100000 in
theorem lifted (os : Os) (started : os.Started) (H : Type) (enc : TypeId × Value → H) :
    ReturnsInHanded {} Tryd.checked os 4 .any (fun w args => (Rows.fnSealsSpec.pre enc Tryd.prog Tryd.f4 [] false w args ∧ laidMetH Tryd.prog Rows.fnSealsRow.laid w) ∧ sizedMet enc Tryd.prog Tryd.f4 (OpenSpec.ofChange Rows.fnSealsSpec) false w args)
      (Rows.fnSealsSpec.post enc Tryd.prog Tryd.f4 false true false false) := by
  refine returnsInHanded_of_change_and (C := Tryd.checked) (X := fun w _ => laidMetH Tryd.prog Rows.fnSealsRow.laid w) (fun _ _ _ hh h => h.of_heap hh) Tryd.own started (by kernel_rfl) Tryd.func4
    (ChangeSpec.witness_shaped (enc := enc) (C := Tryd.checked) (os := os) (X := fun w _ => laidMetH Tryd.prog Rows.fnSealsRow.laid w) false (World.doorLaid Tryd.prog 66 os) #[.slice .none 0 0] 8 rfl (World.shaped_of_RefB (by kernel_rfl) (by kernel_rfl)) (by kernel_rfl) (by kernel_rfl) (by kernel_rfl) (door_met os _)) ?_
  intro W base args ds gs before hval0 hW _ _ hL _
  have hval : ∀ (j : Nat) t v, Tryd.f4.params[j]? = some t → args[j]? = some v → Value.okWide Tryd.prog W .any base t v := hval0
  have hW' := hW
  obtain ⟨p, q, hA0, hV0, rfl, hfz, hnd⟩ := hW
  have hA : DataW.TrodAll enc Tryd.prog W 0 (fun _ => true) true Tryd.f4.params.toList args.toList ds p := hA0
  have hV : DataW.TrodVars enc Tryd.prog W (fun _ => true) ["loop.example/g00528/impl.errRange", "loop.example/g00528/impl.errFull", "loop.example/g00528/impl.errOver"] gs q := hV0
  rw [Tryd.params4] at hA hval
  obtain ⟨v0, vs0, d0, ds0, p0, q0, hargs, rfl, rfl, h0, r0⟩ := trodAll_cons hA
  obtain ⟨rfl, rfl, rfl⟩ := trodAll_nil r0
  obtain rfl : args = #[v0] := by cases args; simp_all
  have k0 := h0
  have lt0 : ∀ x ∈ p0, x.block < W.heap.size := by obtain ⟨m, hm⟩ := k0; exact DataW.trod_lt m _ _ _ hm
  obtain ⟨sa, sl, sc, rfl⟩ := okWide_slice Tryd.underlying22 (hval 0 22 v0 rfl rfl)
  obtain ⟨fuel, hf⟩ := h0
  obtain ⟨a, zs, cap, hv, hb, hm⟩ := byt_of_trod (v := .slice sa sl sc) (by simpa [Value.cells] using hf)
  rw [hv] at k0 hW' ⊢
  rw [MakeChecks.laidMetH_plain _ _ _ (by kernel_rfl)] at hL
  obtain ⟨aO, aF, sO, sF, cO, cF, tO, tF, hvO, hvF, -, -, -, -, -, -, hne, hbO, hbF⟩ := laid_sentinels2 hL Tryd.gOver Tryd.tOver Tryd.gFull Tryd.tFull Tryd.underlying62 Tryd.rowES Tryd.underlying105 Tryd.underlying130 rfl rfl Tryd.underlying9 Tryd.cellsES Tryd.cellsStr
  obtain ⟨aR, hvR, hcR⟩ := sentinel hL.tail.tail Tryd.gRange Tryd.tRange
  have hcO : W.cell? ⟨2, 0, .none⟩ = some (.iface 105 (.pointer (some aO))) := by simpa using World.var?_cell Tryd.gOver hvO 0
  have hcF : W.cell? ⟨1, 0, .none⟩ = some (.iface 105 (.pointer (some aF))) := by simpa using World.var?_cell Tryd.gFull hvF 0
  have hT : Two W aO aF := ⟨hcO, hcF, fun h => hne h.symm, ⟨_, _, hbO⟩, ⟨_, _, hbF⟩⟩
  have read : ∀ (W' : World) (sp : Nat → Bool), Below W.heap.size W W' → DataW.TrodVars enc Tryd.prog W' sp ["loop.example/g00528/impl.errRange", "loop.example/g00528/impl.errFull", "loop.example/g00528/impl.errOver"] _ _ := fun W' sp bel =>
    vars_three enc Tryd.gRange Tryd.tRange Tryd.underlying62 (var?_below bel Tryd.gRange (World.block_lt_of_cell? _ _ hcR) hvR) trivial Tryd.gFull Tryd.tFull Tryd.underlying62 (var?_below bel Tryd.gFull (World.block_lt_of_cell? _ _ hcF) hvF) trivial Tryd.gOver Tryd.tOver Tryd.underlying62 (var?_below bel Tryd.gOver (World.block_lt_of_cell? _ _ hcO) hvO) trivial sp
  obtain ⟨rfl, rfl⟩ := hV.unique (read W _ (Below.refl _ _))
  clear hA0 hV0 hval0
  refine (lawFnSeals_any a cap zs aO aF W hb hm hT).mono fun e W' ⟨he, bel⟩ => ?_
  subst he
  exact ⟨_, rfl, _, _, _, [], _, _, hW', trodAll_mk1 (shut_bool Tryd.underlying4 _),
    (trodAll_cons_mk (Below.trod Tryd.laidOut (by kernel_rfl) (of_decide_eq_true (by kernel_rfl)) k0 bel lt0) trodAll_mk0),
    read W' _ bel,
    bel.frame _, fun h => by cases h⟩

theorem said : Rows.FnSealsSaid :=
  OpenClaim.holds_of_wide 4 Tryd.f4 rfl rfl rfl rfl rfl rfl rfl ⟨rfl, rfl, rfl, rfl, rfl⟩ rfl rfl rfl rfl rfl (by kernel_rfl) Tryd.func4 (by kernel_rfl)
    (of_decide_eq_true (by kernel_rfl)) (by unfold Func.isWrapper; first | (rw [if_pos (by decide +kernel)]; kernel_rfl) | (rw [if_neg (by decide +kernel)]; exact ⟨rfl, rfl⟩))
    (fun os started H enc _ => lifted os started H enc)

theorem plain (f : FuncId) (fn : Func) (hf : Tryd.pinned.checked.prog.funcNamed "loop.example/g00528/laws.FnSeals" = some f) (hfn : Tryd.pinned.checked.prog.funcs[f]? = some fn) :
    true = Tryd.pinned.checked.prog.looks [] ∧ ∀ (j : Nat) t, fn.params[j]? = some t → Tryd.pinned.checked.prog.wantsStandIn t = false := by
  obtain rfl : f = 4 := Option.some.inj ((show Tryd.prog.funcNamed "loop.example/g00528/laws.FnSeals" = some 4 by kernel_rfl).symm.trans hf) |>.symm
  obtain rfl : fn = Tryd.f4 := (Option.some.inj (Tryd.func4.symm.trans hfn)).symm
  refine ⟨by kernel_rfl, fun j t ht => ?_⟩
  rw [Tryd.params4] at ht
  have hmem := Array.mem_of_getElem? ht
  have h' : t = 22 := by simpa using hmem
  subst h'
  exact (show Tryd.prog.wantsStandIn 22 = false by kernel_rfl)

end cardFnSeals

theorem fnSeals_card : Rows.FnSealsCardSaid :=
  Claim7.holds_tied_plain_at .later [] _ _ _ _ cardFnSeals.said (fun _ h => by cases h) (by kernel_rfl) (fun _ h => by cases h) fnSeals_row_tie rfl ⟨rfl, rfl⟩ (by kernel_rfl) rfl cardFnSeals.plain (by kernel_rfl)
#print axioms fnSeals_card
end Go.Proofs.YtdhnlbekkicjcaaDoor
