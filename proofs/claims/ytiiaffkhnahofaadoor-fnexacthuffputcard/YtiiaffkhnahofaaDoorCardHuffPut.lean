/-
  FnExactHuffPut, for every input: the call returns true and leaves its arguments as they were, where the named variables hold what the program's own text lays there (the card ties them to it).
-/
import Derived.Test.YtiiaffkhnahofaaDoorVarsC
import Derived.Test.YtiiaffkhnahofaaDoorOpenL
import Derived.Test.YtiiaffkhnahofaaDoorOpenI
import Derived.Test.YtiiaffkhnahofaaDoorLawHuffPut
namespace Go.Proofs.YtiiaffkhnahofaaDoor.cardHuffPut
open Go.ChangeShapes Go.WideShapes Go.ChangeAt Go.RowKit Go.Joins
set_option linter.unusedVariables false

theorem g_errFull : Tryd.prog.globalNamed "loop.example/g00528/impl.errFull" = some 9 := by kernel_rfl
theorem t_errFull : (Tryd.prog.globals[9]?).map (·.type) = some 51 := by kernel_rfl
theorem g_errRange : Tryd.prog.globalNamed "loop.example/g00528/impl.errRange" = some 8 := by kernel_rfl
theorem t_errRange : (Tryd.prog.globals[8]?).map (·.type) = some 51 := by kernel_rfl
theorem g_errSyms : Tryd.prog.globalNamed "loop.example/g00528/impl.errSyms" = some 1 := by kernel_rfl
theorem t_errSyms : (Tryd.prog.globals[1]?).map (·.type) = some 51 := by kernel_rfl
theorem g_errLength : Tryd.prog.globalNamed "loop.example/g00528/impl.errLength" = some 2 := by kernel_rfl
theorem t_errLength : (Tryd.prog.globals[2]?).map (·.type) = some 51 := by kernel_rfl
theorem g_errNoCodes : Tryd.prog.globalNamed "loop.example/g00528/impl.errNoCodes" = some 3 := by kernel_rfl
theorem t_errNoCodes : (Tryd.prog.globals[3]?).map (·.type) = some 51 := by kernel_rfl
theorem g_errShares : Tryd.prog.globalNamed "loop.example/g00528/impl.errShares" = some 4 := by kernel_rfl
theorem t_errShares : (Tryd.prog.globals[4]?).map (·.type) = some 51 := by kernel_rfl
theorem g_errNoCode : Tryd.prog.globalNamed "loop.example/g00528/impl.errNoCode" = some 5 := by kernel_rfl
theorem t_errNoCode : (Tryd.prog.globals[5]?).map (·.type) = some 51 := by kernel_rfl
theorem door_met (os : Os) (args : Array Value) : laidMetH Tryd.prog Rows.fnExactHuffPutRow.laid ((World.doorLaid Tryd.prog 206 os).forCall (fun _ _ => 0) ⟨#[], args, []⟩).memory :=
  laidMetH_of_parts3 (fuel := 8) (laidMet_of_run' 8 (by kernel_rfl) (by kernel_rfl)) (by kernel_rfl) (by kernel_rfl)

set_option maxRecDepth 100000 in
theorem lifted (os : Os) (started : os.Started) (H : Type) (enc : TypeId × Value → H) :
    ReturnsInHanded {} Tryd.checked os 6 .any (fun w args => (Rows.fnExactHuffPutSpec.pre enc Tryd.prog Tryd.f6 [] false w args ∧ laidMetH Tryd.prog Rows.fnExactHuffPutRow.laid w) ∧ sizedMet enc Tryd.prog Tryd.f6 (OpenSpec.ofChange Rows.fnExactHuffPutSpec) false w args)
      (Rows.fnExactHuffPutSpec.post enc Tryd.prog Tryd.f6 false true false false) := by
  refine returnsInHanded_of_change_and (C := Tryd.checked) (X := fun w _ => laidMetH Tryd.prog Rows.fnExactHuffPutRow.laid w) (fun _ _ _ hh h => h.of_heap hh) Tryd.own started (by kernel_rfl) Tryd.func6
    (ChangeSpec.witness_shaped (enc := enc) (C := Tryd.checked) (os := os) (X := fun w _ => laidMetH Tryd.prog Rows.fnExactHuffPutRow.laid w) false (World.doorLaid Tryd.prog 206 os) #[.slice .none 0 0, .slice .none 0 0] 8 rfl (World.shaped_of_RefB (by kernel_rfl) (by kernel_rfl)) (by kernel_rfl) (by kernel_rfl) (by kernel_rfl) (door_met os _)) ?_
  intro W base args ds gs before hval0 hW _ _ hL _
  have hval : ∀ (j : Nat) t v, Tryd.f6.params[j]? = some t → args[j]? = some v → Value.okWide Tryd.prog W .any base t v := hval0
  have hW' := hW
  obtain ⟨p, q, hA0, hV0, rfl, hfz, hnd⟩ := hW
  have hA : DataW.TrodAll enc Tryd.prog W 0 (fun _ => true) true Tryd.f6.params.toList args.toList ds p := hA0
  have hV : DataW.TrodVars enc Tryd.prog W (fun _ => true) ["loop.example/g00528/impl.errSyms", "loop.example/g00528/impl.errLength", "loop.example/g00528/impl.errNoCodes", "loop.example/g00528/impl.errShares", "loop.example/g00528/impl.errNoCode", "loop.example/g00528/impl.errRange", "loop.example/g00528/impl.errFull"] gs q := hV0
  rw [Tryd.params6] at hA hval
  obtain ⟨v0, vs0, d0, ds0, p0, q0, hargs, rfl, rfl, h0, r0⟩ := trodAll_cons hA
  obtain ⟨v1, vs1, d1, ds1, p1, q1, rfl, rfl, rfl, h1, r1⟩ := trodAll_cons r0
  obtain ⟨rfl, rfl, rfl⟩ := trodAll_nil r1
  obtain rfl : args = #[v0, v1] := by cases args; simp_all
  have k0 := h0
  have lt0 : ∀ x ∈ p0, x.block < W.heap.size := by obtain ⟨m, hm⟩ := k0; exact DataW.trod_lt m _ _ _ hm
  have k1 := h1
  have lt1 : ∀ x ∈ p1, x.block < W.heap.size := by obtain ⟨m, hm⟩ := k1; exact DataW.trod_lt m _ _ _ hm
  obtain ⟨sa0, sl0, sc0, rfl⟩ := okWide_slice Tryd.underlying22 (hval 0 22 v0 rfl rfl)
  obtain ⟨fuel0, hf0⟩ := h0
  obtain ⟨a0, zs0, cap0, hv0, hb0, hm0⟩ := ins_of_trod (v := .slice sa0 sl0 sc0) (by simpa [Value.cells] using hf0)
  obtain ⟨sa1, sl1, sc1, rfl⟩ := okWide_slice Tryd.underlying22 (hval 1 22 v1 rfl rfl)
  obtain ⟨fuel1, hf1⟩ := h1
  obtain ⟨a1, zs1, cap1, hv1, hb1, hm1⟩ := ins_of_trod (v := .slice sa1 sl1 sc1) (by simpa [Value.cells] using hf1)
  rw [hv0] at hW' k0 ⊢
  rw [hv1] at hW' k1 ⊢
  have hL' : laidMet Tryd.prog [("loop.example/g00528/impl.errFull", Rows.laid_loop_example_g00528_impl_errFull), ("loop.example/g00528/impl.errRange", Rows.laid_loop_example_g00528_impl_errRange), ("loop.example/g00528/impl.errSyms", Rows.laid_loop_example_g00528_impl_errSyms), ("loop.example/g00528/impl.errLength", Rows.laid_loop_example_g00528_impl_errLength), ("loop.example/g00528/impl.errNoCodes", Rows.laid_loop_example_g00528_impl_errNoCodes), ("loop.example/g00528/impl.errShares", Rows.laid_loop_example_g00528_impl_errShares), ("loop.example/g00528/impl.errNoCode", Rows.laid_loop_example_g00528_impl_errNoCode)] W ∧ handlesMet Tryd.prog [("errors.errorType", Rows.laid_errors_errorType)] W := hL
  obtain ⟨hP, hH⟩ := hL'
  obtain ⟨s_errFull, hv_errFull, hc_errFull⟩ := sentinel hP g_errFull t_errFull
  have hG_errFull : 9 < W.heap.size := World.block_lt_of_cell? _ _ hc_errFull
  obtain ⟨s_errRange, hv_errRange, hc_errRange⟩ := sentinel hP.tail g_errRange t_errRange
  have hG_errRange : 8 < W.heap.size := World.block_lt_of_cell? _ _ hc_errRange
  obtain ⟨s_errSyms, hv_errSyms, hc_errSyms⟩ := sentinel hP.tail.tail g_errSyms t_errSyms
  have hG_errSyms : 1 < W.heap.size := World.block_lt_of_cell? _ _ hc_errSyms
  obtain ⟨s_errLength, hv_errLength, hc_errLength⟩ := sentinel hP.tail.tail.tail g_errLength t_errLength
  have hG_errLength : 2 < W.heap.size := World.block_lt_of_cell? _ _ hc_errLength
  obtain ⟨s_errNoCodes, hv_errNoCodes, hc_errNoCodes⟩ := sentinel hP.tail.tail.tail.tail g_errNoCodes t_errNoCodes
  have hG_errNoCodes : 3 < W.heap.size := World.block_lt_of_cell? _ _ hc_errNoCodes
  obtain ⟨s_errShares, hv_errShares, hc_errShares⟩ := sentinel hP.tail.tail.tail.tail.tail g_errShares t_errShares
  have hG_errShares : 4 < W.heap.size := World.block_lt_of_cell? _ _ hc_errShares
  obtain ⟨s_errNoCode, hv_errNoCode, hc_errNoCode⟩ := sentinel hP.tail.tail.tail.tail.tail.tail g_errNoCode t_errNoCode
  have hG_errNoCode : 5 < W.heap.size := World.block_lt_of_cell? _ _ hc_errNoCode
  have hvE := handle_cell hH (List.mem_singleton.2 rfl) rfl rfl
  have hcE : ErrT W := by
    have := World.var?_cell Tryd.gET hvE 0
    simpa [ErrT] using this
  have read : ∀ (W' : World) (sp : Nat → Bool), Below W.heap.size W W' → DataW.TrodVars enc Tryd.prog W' sp ["loop.example/g00528/impl.errSyms", "loop.example/g00528/impl.errLength", "loop.example/g00528/impl.errNoCodes", "loop.example/g00528/impl.errShares", "loop.example/g00528/impl.errNoCode", "loop.example/g00528/impl.errRange", "loop.example/g00528/impl.errFull"] _ _ := fun W' sp bel =>
    vars_consC enc g_errSyms t_errSyms Tryd.underlying51 (var?_below bel g_errSyms hG_errSyms hv_errSyms) trivial (vars_consC enc g_errLength t_errLength Tryd.underlying51 (var?_below bel g_errLength hG_errLength hv_errLength) trivial (vars_consC enc g_errNoCodes t_errNoCodes Tryd.underlying51 (var?_below bel g_errNoCodes hG_errNoCodes hv_errNoCodes) trivial (vars_consC enc g_errShares t_errShares Tryd.underlying51 (var?_below bel g_errShares hG_errShares hv_errShares) trivial (vars_consC enc g_errNoCode t_errNoCode Tryd.underlying51 (var?_below bel g_errNoCode hG_errNoCode hv_errNoCode) trivial (vars_consC enc g_errRange t_errRange Tryd.underlying51 (var?_below bel g_errRange hG_errRange hv_errRange) trivial (vars_consC enc g_errFull t_errFull Tryd.underlying51 (var?_below bel g_errFull hG_errFull hv_errFull) trivial (vars_nil enc _)))))))
  obtain ⟨rfl, rfl⟩ := hV.unique (read W _ (Below.refl _ _))
  clear hA0 hV0 hval0
  refine (lawHuffPut_any a0 cap0 zs0 a1 cap1 zs1 W hb0 hb1 hm0 hm1 (⟨⟨_, _, hc_errSyms⟩, ⟨_, _, hc_errLength⟩, ⟨_, _, hc_errNoCodes⟩, ⟨_, _, hc_errShares⟩⟩) (hcE) (⟨⟨_, _, hc_errNoCode⟩, hG_errNoCode⟩)).mono fun e W' ⟨he, bel⟩ => ?_
  subst he
  exact ⟨_, rfl, _, _, _, [], _, _, hW', trodAll_mk1 (shut_bool Tryd.underlying4 _),
    (trodAll_cons_mk (Below.trod Tryd.laidOut (by kernel_rfl) (of_decide_eq_true (by kernel_rfl)) k0 bel lt0) (trodAll_cons_mk (Below.trod Tryd.laidOut (by kernel_rfl) (of_decide_eq_true (by kernel_rfl)) k1 bel lt1) trodAll_mk0)),
    read W' _ bel, bel.frame _, fun h => by cases h⟩

theorem said : Rows.FnExactHuffPutSaid :=
  OpenClaim.holds_of_wide 6 Tryd.f6 rfl rfl rfl rfl rfl rfl rfl ⟨rfl, rfl, rfl, rfl, rfl⟩ rfl rfl rfl rfl rfl (by kernel_rfl) Tryd.func6 (by kernel_rfl)
    (of_decide_eq_true (by kernel_rfl)) (by unfold Func.isWrapper; first | (rw [if_pos (by decide +kernel)]; kernel_rfl) | (rw [if_neg (by decide +kernel)]; exact ⟨rfl, rfl⟩))
    (fun os started H enc _ => lifted os started H enc)

theorem plain (f : FuncId) (fn : Func) (hf : Tryd.pinned.checked.prog.funcNamed "loop.example/g00528/laws.FnExactHuffPut" = some f) (hfn : Tryd.pinned.checked.prog.funcs[f]? = some fn) :
    true = Tryd.pinned.checked.prog.looks [] ∧ ∀ (j : Nat) t, fn.params[j]? = some t → Tryd.pinned.checked.prog.wantsStandIn t = false := by
  obtain rfl : f = 6 := Option.some.inj ((show Tryd.prog.funcNamed "loop.example/g00528/laws.FnExactHuffPut" = some 6 by kernel_rfl).symm.trans hf) |>.symm
  obtain rfl : fn = Tryd.f6 := (Option.some.inj (Tryd.func6.symm.trans hfn)).symm
  refine ⟨by kernel_rfl, fun j t ht => ?_⟩
  rw [Tryd.params6] at ht
  have hmem := Array.mem_of_getElem? ht
  have h' : t = 22 := by simpa using hmem
  rcases h' with rfl
  · exact (show Tryd.prog.wantsStandIn 22 = false by kernel_rfl)

end cardHuffPut

theorem huffPut_card : Rows.FnExactHuffPutCardSaid :=
  Claim7.holds_tied_plain_at .later [] _ _ _ _ cardHuffPut.said (fun _ h => by cases h) (by kernel_rfl) (fun _ h => by cases h) fnExactHuffPut_row_tie rfl ⟨rfl, rfl⟩ (by kernel_rfl) rfl cardHuffPut.plain (by kernel_rfl)
#print axioms huffPut_card
end Go.Proofs.YtiiaffkhnahofaaDoor
