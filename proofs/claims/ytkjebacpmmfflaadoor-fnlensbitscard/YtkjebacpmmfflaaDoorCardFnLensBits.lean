/-
  FnLensBits, for every input: the call returns true and leaves its arguments as they were, where the named variables hold what the program's own text lays there (the card ties them to it).
-/
import Derived.Test.YtkjebacpmmfflaaDoorIParts
import Derived.Test.YtkjebacpmmfflaaDoorNum
import Derived.Test.YtkjebacpmmfflaaDoorLawFnLensBits
import Derived.Test.YtkjebacpmmfflaaDoorVarsC
namespace Go.Proofs.YtkjebacpmmfflaaDoor.cardFnLensBits
open Go.ChangeShapes Go.WideShapes Go.ChangeAt Go.RowKit Go.Joins
set_option linter.unusedVariables false

theorem g_errOver : Tryd.prog.globalNamed "loop.example/g00528/impl.errOver" = some 8 := by kernel_rfl
theorem t_errOver : (Tryd.prog.globals[8]?).map (·.type) = some 63 := by kernel_rfl
theorem g_errFull : Tryd.prog.globalNamed "loop.example/g00528/impl.errFull" = some 10 := by kernel_rfl
theorem t_errFull : (Tryd.prog.globals[10]?).map (·.type) = some 63 := by kernel_rfl
theorem g_errRange : Tryd.prog.globalNamed "loop.example/g00528/impl.errRange" = some 7 := by kernel_rfl
theorem t_errRange : (Tryd.prog.globals[7]?).map (·.type) = some 63 := by kernel_rfl
theorem g_errSyms : Tryd.prog.globalNamed "loop.example/g00528/impl.errSyms" = some 1 := by kernel_rfl
theorem t_errSyms : (Tryd.prog.globals[1]?).map (·.type) = some 63 := by kernel_rfl
theorem g_errLength : Tryd.prog.globalNamed "loop.example/g00528/impl.errLength" = some 2 := by kernel_rfl
theorem t_errLength : (Tryd.prog.globals[2]?).map (·.type) = some 63 := by kernel_rfl
theorem g_errNoCodes : Tryd.prog.globalNamed "loop.example/g00528/impl.errNoCodes" = some 3 := by kernel_rfl
theorem t_errNoCodes : (Tryd.prog.globals[3]?).map (·.type) = some 63 := by kernel_rfl
theorem g_errShares : Tryd.prog.globalNamed "loop.example/g00528/impl.errShares" = some 4 := by kernel_rfl
theorem t_errShares : (Tryd.prog.globals[4]?).map (·.type) = some 63 := by kernel_rfl
theorem g_errRun : Tryd.prog.globalNamed "loop.example/g00528/impl.errRun" = some 6 := by kernel_rfl
theorem t_errRun : (Tryd.prog.globals[6]?).map (·.type) = some 63 := by kernel_rfl
theorem door_met (os : Os) (args : Array Value) : laidMetH Tryd.prog Rows.fnLensBitsRow.laid ((World.doorLaid Tryd.prog 206 os).forCall (fun _ _ => 0) ⟨#[], args, []⟩).memory :=
  laidMetH_of_parts3 (fuel := 8) (laidMet_of_run' 8 (by kernel_rfl) (by kernel_rfl)) (by kernel_rfl) (by kernel_rfl)

set_option maxRecDepth 100000 in
theorem lifted (os : Os) (started : os.Started) (H : Type) (enc : TypeId × Value → H) :
    ReturnsInHanded {} Tryd.checked os 7 .any (fun w args => (Rows.fnLensBitsSpec.pre enc Tryd.prog Tryd.f7 [] false w args ∧ laidMetH Tryd.prog Rows.fnLensBitsRow.laid w) ∧ sizedMet enc Tryd.prog Tryd.f7 (OpenSpec.ofChange Rows.fnLensBitsSpec) false w args)
      (Rows.fnLensBitsSpec.post enc Tryd.prog Tryd.f7 false true false false) := by
  refine returnsInHanded_of_change_and (C := Tryd.checked) (X := fun w _ => laidMetH Tryd.prog Rows.fnLensBitsRow.laid w) (fun _ _ _ hh h => h.of_heap hh) Tryd.own started (by kernel_rfl) Tryd.func7
    (ChangeSpec.witness_shaped (enc := enc) (C := Tryd.checked) (os := os) (X := fun w _ => laidMetH Tryd.prog Rows.fnLensBitsRow.laid w) false (World.doorLaid Tryd.prog 206 os) #[.slice .none 0 0] 8 rfl (World.shaped_of_RefB (by kernel_rfl) (by kernel_rfl)) (by kernel_rfl) (by kernel_rfl) (by kernel_rfl) (door_met os _)) ?_
  intro W base args ds gs before hval0 hW _ _ hL _
  have hval : ∀ (j : Nat) t v, Tryd.f7.params[j]? = some t → args[j]? = some v → Value.okWide Tryd.prog W .any base t v := hval0
  have hW' := hW
  obtain ⟨p, q, hA0, hV0, rfl, hfz, hnd⟩ := hW
  have hA : DataW.TrodAll enc Tryd.prog W 0 (fun _ => true) true Tryd.f7.params.toList args.toList ds p := hA0
  have hV : DataW.TrodVars enc Tryd.prog W (fun _ => true) ["loop.example/g00528/impl.errSyms", "loop.example/g00528/impl.errLength", "loop.example/g00528/impl.errNoCodes", "loop.example/g00528/impl.errShares", "loop.example/g00528/impl.errRange", "loop.example/g00528/impl.errFull", "loop.example/g00528/impl.errRun", "loop.example/g00528/impl.errOver"] gs q := hV0
  rw [Tryd.params7] at hA hval
  obtain ⟨v0, vs0, d0, ds0, p0, q0, hargs, rfl, rfl, h0, r0⟩ := trodAll_cons hA
  obtain ⟨rfl, rfl, rfl⟩ := trodAll_nil r0
  obtain rfl : args = #[v0] := by cases args; simp_all
  have k0 := h0
  have lt0 : ∀ x ∈ p0, x.block < W.heap.size := by obtain ⟨m, hm⟩ := k0; exact DataW.trod_lt m _ _ _ hm
  obtain ⟨sa0, sl0, sc0, rfl⟩ := okWide_slice Tryd.underlying22 (hval 0 22 v0 rfl rfl)
  obtain ⟨fuel0, hf0⟩ := h0
  obtain ⟨a0, zs0, cap0, hv0, hb0, hm0⟩ := byt_of_trod (v := .slice sa0 sl0 sc0) (by simpa [Value.cells] using hf0)
  rw [hv0] at hW' k0 ⊢
  have hL' : laidMet Tryd.prog [("loop.example/g00528/impl.errOver", Rows.laid_loop_example_g00528_impl_errOver), ("loop.example/g00528/impl.errFull", Rows.laid_loop_example_g00528_impl_errFull), ("loop.example/g00528/impl.errRange", Rows.laid_loop_example_g00528_impl_errRange), ("loop.example/g00528/impl.errSyms", Rows.laid_loop_example_g00528_impl_errSyms), ("loop.example/g00528/impl.errLength", Rows.laid_loop_example_g00528_impl_errLength), ("loop.example/g00528/impl.errNoCodes", Rows.laid_loop_example_g00528_impl_errNoCodes), ("loop.example/g00528/impl.errShares", Rows.laid_loop_example_g00528_impl_errShares), ("loop.example/g00528/impl.errRun", Rows.laid_loop_example_g00528_impl_errRun)] W ∧ handlesMet Tryd.prog [("errors.errorType", Rows.laid_errors_errorType)] W := hL
  obtain ⟨hP, hH⟩ := hL'
  obtain ⟨s_errOver, hv_errOver, hc_errOver⟩ := sentinel hP g_errOver t_errOver
  have hG_errOver : 8 < W.heap.size := World.block_lt_of_cell? _ _ hc_errOver
  obtain ⟨s_errFull, hv_errFull, hc_errFull⟩ := sentinel hP.tail g_errFull t_errFull
  have hG_errFull : 10 < W.heap.size := World.block_lt_of_cell? _ _ hc_errFull
  obtain ⟨s_errRange, hv_errRange, hc_errRange⟩ := sentinel hP.tail.tail g_errRange t_errRange
  have hG_errRange : 7 < W.heap.size := World.block_lt_of_cell? _ _ hc_errRange
  obtain ⟨s_errSyms, hv_errSyms, hc_errSyms⟩ := sentinel hP.tail.tail.tail g_errSyms t_errSyms
  have hG_errSyms : 1 < W.heap.size := World.block_lt_of_cell? _ _ hc_errSyms
  obtain ⟨s_errLength, hv_errLength, hc_errLength⟩ := sentinel hP.tail.tail.tail.tail g_errLength t_errLength
  have hG_errLength : 2 < W.heap.size := World.block_lt_of_cell? _ _ hc_errLength
  obtain ⟨s_errNoCodes, hv_errNoCodes, hc_errNoCodes⟩ := sentinel hP.tail.tail.tail.tail.tail g_errNoCodes t_errNoCodes
  have hG_errNoCodes : 3 < W.heap.size := World.block_lt_of_cell? _ _ hc_errNoCodes
  obtain ⟨s_errShares, hv_errShares, hc_errShares⟩ := sentinel hP.tail.tail.tail.tail.tail.tail g_errShares t_errShares
  have hG_errShares : 4 < W.heap.size := World.block_lt_of_cell? _ _ hc_errShares
  obtain ⟨s_errRun, hv_errRun, hc_errRun⟩ := sentinel hP.tail.tail.tail.tail.tail.tail.tail g_errRun t_errRun
  have hG_errRun : 6 < W.heap.size := World.block_lt_of_cell? _ _ hc_errRun
  have hvE := handle_cell hH (List.mem_singleton.2 rfl) rfl rfl
  have hcE : ErrT W := by
    have := World.var?_cell Tryd.gET hvE 0
    simpa [ErrT] using this
  have read : ∀ (W' : World) (sp : Nat → Bool), Below W.heap.size W W' → DataW.TrodVars enc Tryd.prog W' sp ["loop.example/g00528/impl.errSyms", "loop.example/g00528/impl.errLength", "loop.example/g00528/impl.errNoCodes", "loop.example/g00528/impl.errShares", "loop.example/g00528/impl.errRange", "loop.example/g00528/impl.errFull", "loop.example/g00528/impl.errRun", "loop.example/g00528/impl.errOver"] _ _ := fun W' sp bel =>
    vars_consC enc g_errSyms t_errSyms Tryd.underlying63 (var?_below bel g_errSyms hG_errSyms hv_errSyms) trivial (vars_consC enc g_errLength t_errLength Tryd.underlying63 (var?_below bel g_errLength hG_errLength hv_errLength) trivial (vars_consC enc g_errNoCodes t_errNoCodes Tryd.underlying63 (var?_below bel g_errNoCodes hG_errNoCodes hv_errNoCodes) trivial (vars_consC enc g_errShares t_errShares Tryd.underlying63 (var?_below bel g_errShares hG_errShares hv_errShares) trivial (vars_consC enc g_errRange t_errRange Tryd.underlying63 (var?_below bel g_errRange hG_errRange hv_errRange) trivial (vars_consC enc g_errFull t_errFull Tryd.underlying63 (var?_below bel g_errFull hG_errFull hv_errFull) trivial (vars_consC enc g_errRun t_errRun Tryd.underlying63 (var?_below bel g_errRun hG_errRun hv_errRun) trivial (vars_consC enc g_errOver t_errOver Tryd.underlying63 (var?_below bel g_errOver hG_errOver hv_errOver) trivial (vars_nil enc _))))))))
  obtain ⟨rfl, rfl⟩ := hV.unique (read W _ (Below.refl _ _))
  clear hA0 hV0 hval0
  refine (lawFnLensBits_any a0 cap0 zs0 W hb0 hm0 (SentV.mk ⟨⟨_, _, hc_errSyms⟩, ⟨_, _, hc_errLength⟩, ⟨_, _, hc_errNoCodes⟩, ⟨_, _, hc_errShares⟩⟩ hcE ⟨_, _, hc_errRange⟩ ⟨_, _, hc_errOver⟩ ⟨_, _, hc_errRun⟩ ⟨hG_errRange, hG_errOver, hG_errRun⟩)).mono fun e W' ⟨he, bel⟩ => ?_
  subst he
  exact ⟨_, rfl, _, _, _, [], _, _, hW', trodAll_mk1 (shut_bool Tryd.underlying4 _),
    (trodAll_cons_mk (Below.trod Tryd.laidOut (by kernel_rfl) (of_decide_eq_true (by kernel_rfl)) k0 bel lt0) trodAll_mk0),
    read W' _ bel, bel.frame _, fun h => by cases h⟩

theorem said : Rows.FnLensBitsSaid :=
  OpenClaim.holds_of_wide 7 Tryd.f7 rfl rfl rfl rfl rfl rfl rfl ⟨rfl, rfl, rfl, rfl, rfl⟩ rfl rfl rfl rfl rfl (by kernel_rfl) Tryd.func7 (by kernel_rfl)
    (of_decide_eq_true (by kernel_rfl)) (by unfold Func.isWrapper; first | (rw [if_pos (by decide +kernel)]; kernel_rfl) | (rw [if_neg (by decide +kernel)]; exact ⟨rfl, rfl⟩))
    (fun os started H enc _ => lifted os started H enc)

theorem plain (f : FuncId) (fn : Func) (hf : Tryd.pinned.checked.prog.funcNamed "loop.example/g00528/laws.FnLensBits" = some f) (hfn : Tryd.pinned.checked.prog.funcs[f]? = some fn) :
    true = Tryd.pinned.checked.prog.looks [] ∧ ∀ (j : Nat) t, fn.params[j]? = some t → Tryd.pinned.checked.prog.wantsStandIn t = false := by
  obtain rfl : f = 7 := Option.some.inj ((show Tryd.prog.funcNamed "loop.example/g00528/laws.FnLensBits" = some 7 by kernel_rfl).symm.trans hf) |>.symm
  obtain rfl : fn = Tryd.f7 := (Option.some.inj (Tryd.func7.symm.trans hfn)).symm
  refine ⟨by kernel_rfl, fun j t ht => ?_⟩
  rw [Tryd.params7] at ht
  have hmem := Array.mem_of_getElem? ht
  have h' : t = 22 := by simpa using hmem
  rcases h' with rfl
  · exact (show Tryd.prog.wantsStandIn 22 = false by kernel_rfl)

end cardFnLensBits

theorem fnLensBits_card : Rows.FnLensBitsCardSaid :=
  Claim7.holds_tied_plain_at .later [] _ _ _ _ cardFnLensBits.said (fun _ h => by cases h) (by kernel_rfl) (fun _ h => by cases h) fnLensBits_row_tie rfl ⟨rfl, rfl⟩ (by kernel_rfl) rfl cardFnLensBits.plain (by kernel_rfl)
#print axioms fnLensBits_card
end Go.Proofs.YtkjebacpmmfflaaDoor
