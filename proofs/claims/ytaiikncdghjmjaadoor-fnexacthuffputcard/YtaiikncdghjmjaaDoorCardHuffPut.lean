/-
  FnExactHuffPut, for every input: the call returns true and leaves its arguments as they were, where the named variables hold what the program's own text lays there (the card ties them to it).
-/
import Derived.Test.YtaiikncdghjmjaaDoorOpenL
import Derived.Test.YtaiikncdghjmjaaDoorLawHuffPut
namespace Go.Proofs.YtaiikncdghjmjaaDoor.cardHuffPut
open Go.ChangeShapes Go.WideShapes Go.ChangeAt Go.RowKit Go.Joins
set_option linter.unusedVariables false

theorem door_met (os : Os) (args : Array Value) : laidMetH Tryd.prog Rows.fnExactHuffPutRow.laid ((World.doorLaid Tryd.prog 187 os).forCall (fun _ _ => 0) ⟨#[], args, []⟩).memory :=
  laidMetH_of_parts3 (fuel := 8) (laidMet_of_run' 8 (by kernel_rfl) (by kernel_rfl)) (by kernel_rfl) (by kernel_rfl)

set_option maxRecDepth 100000 in
theorem lifted (os : Os) (started : os.Started) (H : Type) (enc : TypeId × Value → H) :
    ReturnsInHanded {} Tryd.checked os 6 .any (fun w args => (Rows.fnExactHuffPutSpec.pre enc Tryd.prog Tryd.f6 [] false w args ∧ laidMetH Tryd.prog Rows.fnExactHuffPutRow.laid w) ∧ sizedMet enc Tryd.prog Tryd.f6 (OpenSpec.ofChange Rows.fnExactHuffPutSpec) false w args)
      (Rows.fnExactHuffPutSpec.post enc Tryd.prog Tryd.f6 false true false false) := by
  refine returnsInHanded_of_change_and (C := Tryd.checked) (X := fun w _ => laidMetH Tryd.prog Rows.fnExactHuffPutRow.laid w) (fun _ _ _ hh h => h.of_heap hh) Tryd.own started (by kernel_rfl) Tryd.func6
    (ChangeSpec.witness_shaped (enc := enc) (C := Tryd.checked) (os := os) (X := fun w _ => laidMetH Tryd.prog Rows.fnExactHuffPutRow.laid w) false (World.doorLaid Tryd.prog 187 os) #[.slice .none 0 0, .slice .none 0 0] 8 rfl (World.shaped_of_RefB (by kernel_rfl) (by kernel_rfl)) (by kernel_rfl) (by kernel_rfl) (by kernel_rfl) (door_met os _)) ?_
  intro W base args ds gs before hval0 hW _ _ hL _
  have hval : ∀ (j : Nat) t v, Tryd.f6.params[j]? = some t → args[j]? = some v → Value.okWide Tryd.prog W .any base t v := hval0
  have hW' := hW
  obtain ⟨p, q, hA0, hV0, rfl, hfz, hnd⟩ := hW
  have hA : DataW.TrodAll enc Tryd.prog W 0 (fun _ => true) true Tryd.f6.params.toList args.toList ds p := hA0
  have hV : DataW.TrodVars enc Tryd.prog W (fun _ => true) ["loop.example/g00528/impl.errSyms", "loop.example/g00528/impl.errLength", "loop.example/g00528/impl.errNoCodes", "loop.example/g00528/impl.errShares", "loop.example/g00528/impl.errRange", "loop.example/g00528/impl.errFull"] gs q := hV0
  rw [Tryd.params6] at hA hval
  obtain ⟨v0, vs0, d0, ds0, p0, q0, hargs, rfl, rfl, h0, r0⟩ := trodAll_cons hA
  obtain ⟨v1, vs1, d1, ds1, p1, q1, rfl, rfl, rfl, h1, r1⟩ := trodAll_cons r0
  obtain ⟨rfl, rfl, rfl⟩ := trodAll_nil r1
  obtain rfl : args = #[v0, v1] := by cases args; simp_all
  have k1 := h1
  have lt1 : ∀ x ∈ p1, x.block < W.heap.size := by obtain ⟨m, hm⟩ := k1; exact DataW.trod_lt m _ _ _ hm
  have k0 := h0
  have lt0 : ∀ x ∈ p0, x.block < W.heap.size := by obtain ⟨m, hm⟩ := k0; exact DataW.trod_lt m _ _ _ hm
  obtain ⟨sa, sl, sc, rfl⟩ := okWide_slice Tryd.underlying22 (hval 0 22 v0 rfl rfl)
  obtain ⟨fuel, hf⟩ := h0
  obtain ⟨a, zs, cap, hv, hb, hm⟩ := ins_of_trod (v := .slice sa sl sc) (by simpa [Value.cells] using hf)
  obtain ⟨ta, tl, tc, rfl⟩ := okWide_slice Tryd.underlying22 (hval 1 22 v1 rfl rfl)
  obtain ⟨fuel1, hf1⟩ := h1
  obtain ⟨b, ls, cb, hvb, hb2, hm2⟩ := ins_of_trod (v := .slice ta tl tc) (by simpa [Value.cells] using hf1)
  rw [hv, hvb] at hW' ⊢
  rw [hv] at k0
  rw [hvb] at k1
  have hL' : laidMet Tryd.prog [("loop.example/g00528/impl.errFull", Rows.laid_loop_example_g00528_impl_errFull), ("loop.example/g00528/impl.errRange", Rows.laid_loop_example_g00528_impl_errRange), ("loop.example/g00528/impl.errSyms", Rows.laid_loop_example_g00528_impl_errSyms), ("loop.example/g00528/impl.errLength", Rows.laid_loop_example_g00528_impl_errLength), ("loop.example/g00528/impl.errNoCodes", Rows.laid_loop_example_g00528_impl_errNoCodes), ("loop.example/g00528/impl.errShares", Rows.laid_loop_example_g00528_impl_errShares)] W ∧ handlesMet Tryd.prog [("errors.errorType", Rows.laid_errors_errorType)] W := hL
  obtain ⟨hP, hH⟩ := hL'
  obtain ⟨a5, hv5, hc5⟩ := sentinel hP Tryd.gFull Tryd.tFull
  obtain ⟨a6, hv6, hc6⟩ := sentinel hP.tail Tryd.gRange Tryd.tRange
  obtain ⟨a1, hv1, hc1⟩ := sentinel hP.tail.tail Tryd.gSyms Tryd.tSyms
  obtain ⟨a2, hv2, hc2⟩ := sentinel hP.tail.tail.tail Tryd.gLength Tryd.tLength
  obtain ⟨a3, hv3, hc3⟩ := sentinel hP.tail.tail.tail.tail Tryd.gNoCodes Tryd.tNoCodes
  obtain ⟨a4, hv4, hc4⟩ := sentinel hP.tail.tail.tail.tail.tail Tryd.gShares Tryd.tShares
  have hvE := handle_cell hH (List.mem_singleton.2 rfl) rfl rfl
  have hcE : ErrT W := by
    have := World.var?_cell Tryd.gET hvE 0
    simpa [ErrT] using this
  have h4 : Four W := ⟨⟨_, _, hc1⟩, ⟨_, _, hc2⟩, ⟨_, _, hc3⟩, ⟨_, _, hc4⟩⟩
  have read : ∀ (W' : World) (sp : Nat → Bool), Below W.heap.size W W' → DataW.TrodVars enc Tryd.prog W' sp ["loop.example/g00528/impl.errSyms", "loop.example/g00528/impl.errLength", "loop.example/g00528/impl.errNoCodes", "loop.example/g00528/impl.errShares", "loop.example/g00528/impl.errRange", "loop.example/g00528/impl.errFull"] _ _ := fun W' sp bel =>
    vars_cons enc Tryd.gSyms Tryd.tSyms Tryd.underlying51 (var?_below bel Tryd.gSyms (World.block_lt_of_cell? _ _ hc1) hv1) trivial (vars_cons enc Tryd.gLength Tryd.tLength Tryd.underlying51 (var?_below bel Tryd.gLength (World.block_lt_of_cell? _ _ hc2) hv2) trivial
      (vars_cons enc Tryd.gNoCodes Tryd.tNoCodes Tryd.underlying51 (var?_below bel Tryd.gNoCodes (World.block_lt_of_cell? _ _ hc3) hv3) trivial (vars_cons enc Tryd.gShares Tryd.tShares Tryd.underlying51 (var?_below bel Tryd.gShares (World.block_lt_of_cell? _ _ hc4) hv4) trivial (vars_read2 enc Tryd.gRange Tryd.tRange Tryd.underlying51 (var?_below bel Tryd.gRange (World.block_lt_of_cell? _ _ hc6) hv6) trivial Tryd.gFull Tryd.tFull Tryd.underlying51 (var?_below bel Tryd.gFull (World.block_lt_of_cell? _ _ hc5) hv5) trivial sp))))
  obtain ⟨rfl, rfl⟩ := hV.unique (read W _ (Below.refl _ _))
  clear hA0 hV0 hval0
  refine (lawHuffPut_any a cap zs b cb ls W hb hb2 hm hm2 h4 hcE).mono fun e W' ⟨he, bel⟩ => ?_
  subst he
  exact ⟨_, rfl, _, _, _, [], _, _, hW', trodAll_mk1 (shut_bool Tryd.underlying4 _),
    (trodAll_cons_mk (Below.trod Tryd.laidOut (by kernel_rfl) (of_decide_eq_true (by kernel_rfl)) k0 bel lt0) (trodAll_cons_mk (Below.trod Tryd.laidOut (by kernel_rfl) (of_decide_eq_true (by kernel_rfl)) k1 bel lt1) trodAll_mk0)),
    read W' _ bel, bel.frame _, fun h => by cases h⟩

theorem said : Rows.FnExactHuffPutSaid :=
  OpenClaim.holds_of_wide 6 Tryd.f6 rfl rfl rfl rfl rfl rfl rfl ⟨rfl, rfl, rfl, rfl, rfl⟩ rfl rfl rfl rfl rfl (by kernel_rfl) Tryd.func6 (by kernel_rfl)
    (of_decide_eq_true (by kernel_rfl)) (by unfold Func.isWrapper; first | (rw [if_pos (by decide +kernel)]; kernel_rfl) | (rw [if_neg (by decide +kernel)]; exact ⟨rfl, rfl⟩))
    (fun os started H enc _ => lifted os started H enc)

theorem plain (f : FuncId) (fn : Func) (hf : Tryd.pinned.checked.prog.funcNamed "loop.example/g00528/laws.FnExactHuffPut" = some f) (hfn : Tryd.pinned.checked.prog.funcs[f]? = some fn) :
    true = Tryd.pinned.checked.prog.looks [] ∧ ∀ (j : Nat) t, fn.params[j]? = some t → Tryd.pinned.checked.prog.wantsStandIn t = false := by
  obtain rfl : f = 6 := Option.some.inj ((show Tryd.prog.funcNamed "loop.example/g00528/laws.FnExactHuffPut" = some 6 by kernel_rfl).symm.trans hf) |>.symm
  obtain rfl : fn = Tryd.f6 := (Option.some.inj (Tryd.func6.symm.trans hfn)).symm
  refine ⟨by kernel_rfl, fun j t ht => ?_⟩
  rw [Tryd.params6] at ht
  have hmem := Array.mem_of_getElem? ht
  have h' : t = 22 := by simpa using hmem
  rcases h' with rfl
  exact (show Tryd.prog.wantsStandIn 22 = false by kernel_rfl)

end cardHuffPut

theorem huffPut_card : Rows.FnExactHuffPutCardSaid :=
  Claim7.holds_tied_plain_at .later [] _ _ _ _ cardHuffPut.said (fun _ h => by cases h) (by kernel_rfl) (fun _ h => by cases h) fnExactHuffPut_row_tie rfl ⟨rfl, rfl⟩ (by kernel_rfl) rfl cardHuffPut.plain (by kernel_rfl)
#print axioms huffPut_card
end Go.Proofs.YtaiikncdghjmjaaDoor
