/-
  FnExactHuffGet, for every input: the call returns true and leaves its arguments as they were, where the named variables hold what the program's own text lays there (the card ties them to it).
-/
import Derived.Test.YtiiaffkhnahofaaDoorVarsC
import Derived.Test.YtiiaffkhnahofaaDoorOpenL
import Derived.Test.YtiiaffkhnahofaaDoorOpenI
import Derived.Test.YtiiaffkhnahofaaDoorLawHuffGet
namespace Go.Proofs.YtiiaffkhnahofaaDoor.cardHuffGet
open Go.ChangeShapes Go.WideShapes Go.ChangeAt Go.RowKit Go.Joins
set_option linter.unusedVariables false

theorem g_errOver : Tryd.prog.globalNamed "loop.example/g00528/impl.errOver" = some 10 := by kernel_rfl
theorem t_errOver : (Tryd.prog.globals[10]?).map (·.type) = some 51 := by kernel_rfl
theorem g_errRange : Tryd.prog.globalNamed "loop.example/g00528/impl.errRange" = some 8 := by kernel_rfl
theorem t_errRange : (Tryd.prog.globals[8]?).map (·.type) = some 51 := by kernel_rfl
theorem g_errSyms : Tryd.prog.globalNamed "loop.example/g00528/impl.errSyms" = some 1 := by kernel_rfl
theorem t_errSyms : (Tryd.prog.globals[1]?).map (·.type) = some 51 := by kernel_rfl
theorem g_errLength : Tryd.prog.globalNamed "loop.example/g00528/impl.errLength" = some 2 := by kernel_rfl
theorem t_errLength : (Tryd.prog.globals[2]?).map (·.type) = some 51 := by kernel_rfl
theorem g_errNoCodes : Tryd.prog.globalNamed "loop.example/g00528/impl.errNoCodes" = some 3 := by kernel_rfl
theorem t_errNoCodes : (Tryd.prog.globals[3]?).map (·.type) = some 51 := by kernel_rfl
theorem g_errShares : Tryd.prog.globalNamed "loop.example/g00528/impl.errShares" = some 4 := by kernel_rfl
theorem t_errShares : (Tryd.prog.globals[4]?).map (·.type) = some 51 := by kernel_rfl
theorem g_errNoSymbol : Tryd.prog.globalNamed "loop.example/g00528/impl.errNoSymbol" = some 7 := by kernel_rfl
theorem t_errNoSymbol : (Tryd.prog.globals[7]?).map (·.type) = some 51 := by kernel_rfl
theorem door_met (os : Os) (args : Array Value) : laidMetH Tryd.prog Rows.fnExactHuffGetRow.laid ((World.doorLaid Tryd.prog 206 os).forCall (fun _ _ => 0) ⟨#[], args, []⟩).memory :=
  laidMetH_of_parts3 (fuel := 8) (laidMet_of_run' 8 (by kernel_rfl) (by kernel_rfl)) (by kernel_rfl) (by kernel_rfl)

set_option maxRecDepth 100000 in
theorem lifted (os : Os) (started : os.Started) (H : Type) (enc : TypeId × Value → H) :
    ReturnsInHanded {} Tryd.checked os 7 .any (fun w args => (Rows.fnExactHuffGetSpec.pre enc Tryd.prog Tryd.f7 [] false w args ∧ laidMetH Tryd.prog Rows.fnExactHuffGetRow.laid w) ∧ sizedMet enc Tryd.prog Tryd.f7 (OpenSpec.ofChange Rows.fnExactHuffGetSpec) false w args)
      (Rows.fnExactHuffGetSpec.post enc Tryd.prog Tryd.f7 false true false false) := by
  refine returnsInHanded_of_change_and (C := Tryd.checked) (X := fun w _ => laidMetH Tryd.prog Rows.fnExactHuffGetRow.laid w) (fun _ _ _ hh h => h.of_heap hh) Tryd.own started (by kernel_rfl) Tryd.func7
    (ChangeSpec.witness_shaped (enc := enc) (C := Tryd.checked) (os := os) (X := fun w _ => laidMetH Tryd.prog Rows.fnExactHuffGetRow.laid w) false (World.doorLaid Tryd.prog 206 os) #[.slice .none 0 0, .agg #[.slice .none 0 0, .int .i64 0], .int .i64 0, .int .i64 0] 8 rfl (World.shaped_of_RefB (by kernel_rfl) (by kernel_rfl)) (by kernel_rfl) (by kernel_rfl) (by kernel_rfl) (door_met os _)) ?_
  intro W base args ds gs before hval0 hW _ _ hL _
  have hval : ∀ (j : Nat) t v, Tryd.f7.params[j]? = some t → args[j]? = some v → Value.okWide Tryd.prog W .any base t v := hval0
  have hW' := hW
  obtain ⟨p, q, hA0, hV0, rfl, hfz, hnd⟩ := hW
  have hA : DataW.TrodAll enc Tryd.prog W 0 (fun _ => true) true Tryd.f7.params.toList args.toList ds p := hA0
  have hV : DataW.TrodVars enc Tryd.prog W (fun _ => true) ["loop.example/g00528/impl.errSyms", "loop.example/g00528/impl.errLength", "loop.example/g00528/impl.errNoCodes", "loop.example/g00528/impl.errShares", "loop.example/g00528/impl.errNoSymbol", "loop.example/g00528/impl.errRange", "loop.example/g00528/impl.errOver"] gs q := hV0
  rw [Tryd.params7] at hA hval
  obtain ⟨v0, vs0, d0, ds0, p0, q0, hargs, rfl, rfl, h0, r0⟩ := trodAll_cons hA
  obtain ⟨v1, vs1, d1, ds1, p1, q1, rfl, rfl, rfl, h1, r1⟩ := trodAll_cons r0
  obtain ⟨v2, vs2, d2, ds2, p2, q2, rfl, rfl, rfl, h2, r2⟩ := trodAll_cons r1
  obtain ⟨v3, vs3, d3, ds3, p3, q3, rfl, rfl, rfl, h3, r3⟩ := trodAll_cons r2
  obtain ⟨rfl, rfl, rfl⟩ := trodAll_nil r3
  obtain rfl : args = #[v0, v1, v2, v3] := by cases args; simp_all
  have k0 := h0
  have lt0 : ∀ x ∈ p0, x.block < W.heap.size := by obtain ⟨m, hm⟩ := k0; exact DataW.trod_lt m _ _ _ hm
  have k1 := h1
  have lt1 : ∀ x ∈ p1, x.block < W.heap.size := by obtain ⟨m, hm⟩ := k1; exact DataW.trod_lt m _ _ _ hm
  obtain ⟨sa0, sl0, sc0, rfl⟩ := okWide_slice Tryd.underlying22 (hval 0 22 v0 rfl rfl)
  obtain ⟨fuel0, hf0⟩ := h0
  obtain ⟨a0, zs0, cap0, hv0, hb0, hm0⟩ := ins_of_trod (v := .slice sa0 sl0 sc0) (by simpa [Value.cells] using hf0)
  obtain ⟨c0_1, c1_1, y0_1, y1_1, m1, rfl, hd0_1, hp0_1, hy0_1, hy1_1⟩ := open_agg2 Tryd.underlying38 (by kernel_rfl) (by kernel_rfl) (hval 1 38 v1 rfl rfl) h1
  obtain ⟨N1, e1_1, hY1_1, wN1⟩ := DataW.trod_int Tryd.underlying3 hy1_1
  simp at e1_1
  subst e1_1
  obtain ⟨a1, zs1, cap1, rfl, hb1, hm1⟩ := byt_of_trod hy0_1
  obtain ⟨x2, rfl, rfl, rfl, w2⟩ := open_int Tryd.underlying3 (hval 2 3 v2 rfl rfl) h2
  obtain ⟨x3, rfl, rfl, rfl, w3⟩ := open_int Tryd.underlying3 (hval 3 3 v3 rfl rfl) h3
  rw [hv0] at hW' k0 ⊢
  have hL' : laidMet Tryd.prog [("loop.example/g00528/impl.errOver", Rows.laid_loop_example_g00528_impl_errOver), ("loop.example/g00528/impl.errRange", Rows.laid_loop_example_g00528_impl_errRange), ("loop.example/g00528/impl.errSyms", Rows.laid_loop_example_g00528_impl_errSyms), ("loop.example/g00528/impl.errLength", Rows.laid_loop_example_g00528_impl_errLength), ("loop.example/g00528/impl.errNoCodes", Rows.laid_loop_example_g00528_impl_errNoCodes), ("loop.example/g00528/impl.errShares", Rows.laid_loop_example_g00528_impl_errShares), ("loop.example/g00528/impl.errNoSymbol", Rows.laid_loop_example_g00528_impl_errNoSymbol)] W ∧ handlesMet Tryd.prog [("errors.errorType", Rows.laid_errors_errorType)] W := hL
  obtain ⟨hP, hH⟩ := hL'
  obtain ⟨s_errOver, hv_errOver, hc_errOver⟩ := sentinel hP g_errOver t_errOver
  have hG_errOver : 10 < W.heap.size := World.block_lt_of_cell? _ _ hc_errOver
  obtain ⟨s_errRange, hv_errRange, hc_errRange⟩ := sentinel hP.tail g_errRange t_errRange
  have hG_errRange : 8 < W.heap.size := World.block_lt_of_cell? _ _ hc_errRange
  obtain ⟨s_errSyms, hv_errSyms, hc_errSyms⟩ := sentinel hP.tail.tail g_errSyms t_errSyms
  have hG_errSyms : 1 < W.heap.size := World.block_lt_of_cell? _ _ hc_errSyms
  obtain ⟨s_errLength, hv_errLength, hc_errLength⟩ := sentinel hP.tail.tail.tail g_errLength t_errLength
  have hG_errLength : 2 < W.heap.size := World.block_lt_of_cell? _ _ hc_errLength
  obtain ⟨s_errNoCodes, hv_errNoCodes, hc_errNoCodes⟩ := sentinel hP.tail.tail.tail.tail g_errNoCodes t_errNoCodes
  have hG_errNoCodes : 3 < W.heap.size := World.block_lt_of_cell? _ _ hc_errNoCodes
  obtain ⟨s_errShares, hv_errShares, hc_errShares⟩ := sentinel hP.tail.tail.tail.tail.tail g_errShares t_errShares
  have hG_errShares : 4 < W.heap.size := World.block_lt_of_cell? _ _ hc_errShares
  obtain ⟨s_errNoSymbol, hv_errNoSymbol, hc_errNoSymbol⟩ := sentinel hP.tail.tail.tail.tail.tail.tail g_errNoSymbol t_errNoSymbol
  have hG_errNoSymbol : 7 < W.heap.size := World.block_lt_of_cell? _ _ hc_errNoSymbol
  have hvE := handle_cell hH (List.mem_singleton.2 rfl) rfl rfl
  have hcE : ErrT W := by
    have := World.var?_cell Tryd.gET hvE 0
    simpa [ErrT] using this
  have read : ∀ (W' : World) (sp : Nat → Bool), Below W.heap.size W W' → DataW.TrodVars enc Tryd.prog W' sp ["loop.example/g00528/impl.errSyms", "loop.example/g00528/impl.errLength", "loop.example/g00528/impl.errNoCodes", "loop.example/g00528/impl.errShares", "loop.example/g00528/impl.errNoSymbol", "loop.example/g00528/impl.errRange", "loop.example/g00528/impl.errOver"] _ _ := fun W' sp bel =>
    vars_consC enc g_errSyms t_errSyms Tryd.underlying51 (var?_below bel g_errSyms hG_errSyms hv_errSyms) trivial (vars_consC enc g_errLength t_errLength Tryd.underlying51 (var?_below bel g_errLength hG_errLength hv_errLength) trivial (vars_consC enc g_errNoCodes t_errNoCodes Tryd.underlying51 (var?_below bel g_errNoCodes hG_errNoCodes hv_errNoCodes) trivial (vars_consC enc g_errShares t_errShares Tryd.underlying51 (var?_below bel g_errShares hG_errShares hv_errShares) trivial (vars_consC enc g_errNoSymbol t_errNoSymbol Tryd.underlying51 (var?_below bel g_errNoSymbol hG_errNoSymbol hv_errNoSymbol) trivial (vars_consC enc g_errRange t_errRange Tryd.underlying51 (var?_below bel g_errRange hG_errRange hv_errRange) trivial (vars_consC enc g_errOver t_errOver Tryd.underlying51 (var?_below bel g_errOver hG_errOver hv_errOver) trivial (vars_nil enc _)))))))
  obtain ⟨rfl, rfl⟩ := hV.unique (read W _ (Below.refl _ _))
  clear hA0 hV0 hval0
  refine (lawHuffGet_any a0 cap0 zs0 a1 cap1 zs1 N1 x2 x3 W hb0 hb1 hm0 hm1 (⟨⟨_, _, hc_errSyms⟩, ⟨_, _, hc_errLength⟩, ⟨_, _, hc_errNoCodes⟩, ⟨_, _, hc_errShares⟩⟩) (hcE) (⟨⟨_, _, hc_errRange⟩, ⟨_, _, hc_errOver⟩, ⟨_, _, hc_errNoSymbol⟩, hG_errRange, hG_errOver, hG_errNoSymbol⟩)).mono fun e W' ⟨he, bel⟩ => ?_
  subst he
  exact ⟨_, rfl, _, _, _, [], _, _, hW', trodAll_mk1 (shut_bool Tryd.underlying4 _),
    (trodAll_cons_mk (Below.trod Tryd.laidOut (by kernel_rfl) (of_decide_eq_true (by kernel_rfl)) k0 bel lt0) (trodAll_cons_mk (Below.trod Tryd.laidOut (by kernel_rfl) (of_decide_eq_true (by kernel_rfl)) k1 bel lt1) (trodAll_cons_mk (shut_int Tryd.underlying3 w2) (trodAll_cons_mk (shut_int Tryd.underlying3 w3) trodAll_mk0)))),
    read W' _ bel, bel.frame _, fun h => by cases h⟩

theorem said : Rows.FnExactHuffGetSaid :=
  OpenClaim.holds_of_wide 7 Tryd.f7 rfl rfl rfl rfl rfl rfl rfl ⟨rfl, rfl, rfl, rfl, rfl⟩ rfl rfl rfl rfl rfl (by kernel_rfl) Tryd.func7 (by kernel_rfl)
    (of_decide_eq_true (by kernel_rfl)) (by unfold Func.isWrapper; first | (rw [if_pos (by decide +kernel)]; kernel_rfl) | (rw [if_neg (by decide +kernel)]; exact ⟨rfl, rfl⟩))
    (fun os started H enc _ => lifted os started H enc)

theorem plain (f : FuncId) (fn : Func) (hf : Tryd.pinned.checked.prog.funcNamed "loop.example/g00528/laws.FnExactHuffGet" = some f) (hfn : Tryd.pinned.checked.prog.funcs[f]? = some fn) :
    true = Tryd.pinned.checked.prog.looks [] ∧ ∀ (j : Nat) t, fn.params[j]? = some t → Tryd.pinned.checked.prog.wantsStandIn t = false := by
  obtain rfl : f = 7 := Option.some.inj ((show Tryd.prog.funcNamed "loop.example/g00528/laws.FnExactHuffGet" = some 7 by kernel_rfl).symm.trans hf) |>.symm
  obtain rfl : fn = Tryd.f7 := (Option.some.inj (Tryd.func7.symm.trans hfn)).symm
  refine ⟨by kernel_rfl, fun j t ht => ?_⟩
  rw [Tryd.params7] at ht
  have hmem := Array.mem_of_getElem? ht
  have h' : t = 22 ∨ t = 38 ∨ t = 3 := by simpa using hmem
  rcases h' with rfl | rfl | rfl
  · exact (show Tryd.prog.wantsStandIn 22 = false by kernel_rfl)
  · exact (show Tryd.prog.wantsStandIn 38 = false by kernel_rfl)
  · exact (show Tryd.prog.wantsStandIn 3 = false by kernel_rfl)

end cardHuffGet

theorem huffGet_card : Rows.FnExactHuffGetCardSaid :=
  Claim7.holds_tied_plain_at .later [] _ _ _ _ cardHuffGet.said (fun _ h => by cases h) (by kernel_rfl) (fun _ h => by cases h) fnExactHuffGet_row_tie rfl ⟨rfl, rfl⟩ (by kernel_rfl) rfl cardHuffGet.plain (by kernel_rfl)
#print axioms huffGet_card
end Go.Proofs.YtiiaffkhnahofaaDoor
