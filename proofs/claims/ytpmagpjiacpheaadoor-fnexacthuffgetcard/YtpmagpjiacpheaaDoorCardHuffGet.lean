/-
  FnExactHuffGet, for every input: the call returns true and leaves its arguments as they were, where the named variables hold what the program's own text lays there (the card ties them to it).
-/
import Derived.Test.YtpmagpjiacpheaaDoorOpenL
import Derived.Test.YtpmagpjiacpheaaDoorLawHuffGet
namespace Go.Proofs.YtpmagpjiacpheaaDoor.cardHuffGet
open Go.ChangeShapes Go.WideShapes Go.ChangeAt Go.RowKit Go.Joins
set_option linter.unusedVariables false

theorem gNoSymbol : Tryd.prog.globalNamed "loop.example/g00528/impl.errNoSymbol" = some 5 := by kernel_rfl
theorem tNoSymbol : (Tryd.prog.globals[5]?).map (·.type) = some 51 := by kernel_rfl
theorem door_met (os : Os) (args : Array Value) : laidMetH Tryd.prog Rows.fnExactHuffGetRow.laid ((World.doorLaid Tryd.prog 187 os).forCall (fun _ _ => 0) ⟨#[], args, []⟩).memory :=
  laidMetH_of_parts3 (fuel := 8) (laidMet_of_run' 8 (by kernel_rfl) (by kernel_rfl)) (by kernel_rfl) (by kernel_rfl)

set_option maxRecDepth 100000 in
theorem lifted (os : Os) (started : os.Started) (H : Type) (enc : TypeId × Value → H) :
    ReturnsInHanded {} Tryd.checked os 7 .any (fun w args => (Rows.fnExactHuffGetSpec.pre enc Tryd.prog Tryd.f7 [] false w args ∧ laidMetH Tryd.prog Rows.fnExactHuffGetRow.laid w) ∧ sizedMet enc Tryd.prog Tryd.f7 (OpenSpec.ofChange Rows.fnExactHuffGetSpec) false w args)
      (Rows.fnExactHuffGetSpec.post enc Tryd.prog Tryd.f7 false true false false) := by
  refine returnsInHanded_of_change_and (C := Tryd.checked) (X := fun w _ => laidMetH Tryd.prog Rows.fnExactHuffGetRow.laid w) (fun _ _ _ hh h => h.of_heap hh) Tryd.own started (by kernel_rfl) Tryd.func7
    (ChangeSpec.witness_shaped (enc := enc) (C := Tryd.checked) (os := os) (X := fun w _ => laidMetH Tryd.prog Rows.fnExactHuffGetRow.laid w) false (World.doorLaid Tryd.prog 187 os) #[.slice .none 0 0, .agg #[.slice .none 0 0, .int .i64 0], .int .i64 0, .int .i64 0] 8 rfl (World.shaped_of_RefB (by kernel_rfl) (by kernel_rfl)) (by kernel_rfl) (by kernel_rfl) (by kernel_rfl) (door_met os _)) ?_
  intro W base args ds gs before hval0 hW _ _ hL _
  have hval : ∀ (j : Nat) t v, Tryd.f7.params[j]? = some t → args[j]? = some v → Value.okWide Tryd.prog W .any base t v := hval0
  have hW' := hW
  obtain ⟨p, q, hA0, hV0, rfl, hfz, hnd⟩ := hW
  have hA : DataW.TrodAll enc Tryd.prog W 0 (fun _ => true) true Tryd.f7.params.toList args.toList ds p := hA0
  have hV : DataW.TrodVars enc Tryd.prog W (fun _ => true) ["loop.example/g00528/impl.errSyms", "loop.example/g00528/impl.errLength", "loop.example/g00528/impl.errNoCodes", "loop.example/g00528/impl.errShares", "loop.example/g00528/impl.errNoSymbol", "loop.example/g00528/impl.errRange", "loop.example/g00528/impl.errOver"] gs q := hV0
  rw [Tryd.params7] at hA hval
  obtain ⟨v0, vs0, d0, ds0, p0, q0, hargs, rfl, rfl, h0, r0⟩ := trodAll_cons hA
  obtain ⟨v1, vs1, d1, ds1, p1, q1, rfl, rfl, rfl, h1, r1⟩ := trodAll_cons r0
  obtain ⟨v2, vs2, d2, ds2, p2, q2, rfl, rfl, rfl, h2, r2⟩ := trodAll_cons r1
  obtain ⟨v3, vs3, d3, ds3, p3, q3, rfl, rfl, rfl, h3, r3⟩ := trodAll_cons r2
  obtain ⟨rfl, rfl, rfl⟩ := trodAll_nil r3
  obtain rfl : args = #[v0, v1, v2, v3] := by cases args; simp_all
  have k1 := h1
  have lt1 : ∀ x ∈ p1, x.block < W.heap.size := by obtain ⟨m, hm⟩ := k1; exact DataW.trod_lt m _ _ _ hm
  have k0 := h0
  have lt0 : ∀ x ∈ p0, x.block < W.heap.size := by obtain ⟨m, hm⟩ := k0; exact DataW.trod_lt m _ _ _ hm
  obtain ⟨sa, sl, sc, rfl⟩ := okWide_slice Tryd.underlying22 (hval 0 22 v0 rfl rfl)
  obtain ⟨fuel, hf⟩ := h0
  obtain ⟨b, ls, cb, hv, hu, hm2⟩ := ins_of_trod (v := .slice sa sl sc) (by simpa [Value.cells] using hf)
  obtain ⟨c0, c1, y0, y1, m, rfl, hd0, hp0, hy0, hy1⟩ := open_agg2 Tryd.underlying38 (by kernel_rfl) (by kernel_rfl) (hval 1 38 v1 rfl rfl) h1
  obtain ⟨N, e1, hY1, wN⟩ := DataW.trod_int Tryd.underlying3 hy1
  simp at e1
  subst e1
  obtain ⟨a, zs, cap, rfl, hb, hm⟩ := byt_of_trod hy0
  obtain ⟨x1, rfl, rfl, rfl, w1⟩ := open_int Tryd.underlying3 (hval 2 3 v2 rfl rfl) h2
  obtain ⟨x2, rfl, rfl, rfl, w2⟩ := open_int Tryd.underlying3 (hval 3 3 v3 rfl rfl) h3
  rw [hv] at hW' k0 ⊢
  have hL' : laidMet Tryd.prog [("loop.example/g00528/impl.errOver", Rows.laid_loop_example_g00528_impl_errOver), ("loop.example/g00528/impl.errRange", Rows.laid_loop_example_g00528_impl_errRange), ("loop.example/g00528/impl.errSyms", Rows.laid_loop_example_g00528_impl_errSyms), ("loop.example/g00528/impl.errLength", Rows.laid_loop_example_g00528_impl_errLength), ("loop.example/g00528/impl.errNoCodes", Rows.laid_loop_example_g00528_impl_errNoCodes), ("loop.example/g00528/impl.errShares", Rows.laid_loop_example_g00528_impl_errShares), ("loop.example/g00528/impl.errNoSymbol", Rows.laid_loop_example_g00528_impl_errNoSymbol)] W ∧ handlesMet Tryd.prog [("errors.errorType", Rows.laid_errors_errorType)] W := hL
  obtain ⟨hP, hH⟩ := hL'
  obtain ⟨a5, hv5, hc5⟩ := sentinel hP Tryd.gOver Tryd.tOver
  obtain ⟨a6, hv6, hc6⟩ := sentinel hP.tail Tryd.gRange Tryd.tRange
  obtain ⟨a1, hv1, hc1⟩ := sentinel hP.tail.tail Tryd.gSyms Tryd.tSyms
  obtain ⟨a2, hv2, hc2⟩ := sentinel hP.tail.tail.tail Tryd.gLength Tryd.tLength
  obtain ⟨a3, hv3, hc3⟩ := sentinel hP.tail.tail.tail.tail Tryd.gNoCodes Tryd.tNoCodes
  obtain ⟨a4, hv4, hc4⟩ := sentinel hP.tail.tail.tail.tail.tail Tryd.gShares Tryd.tShares
  obtain ⟨a7, hv7, hc7⟩ := sentinel hP.tail.tail.tail.tail.tail.tail gNoSymbol tNoSymbol
  have hvE := handle_cell hH (List.mem_singleton.2 rfl) rfl rfl
  have hcE : ErrT W := by
    have := World.var?_cell Tryd.gET hvE 0
    simpa [ErrT] using this
  have h4 : Four W := ⟨⟨_, _, hc1⟩, ⟨_, _, hc2⟩, ⟨_, _, hc3⟩, ⟨_, _, hc4⟩⟩
  have hS : SentH W := ⟨⟨_, _, hc6⟩, ⟨_, _, hc5⟩, ⟨_, _, hc7⟩, World.block_lt_of_cell? _ _ hc6, World.block_lt_of_cell? _ _ hc5, World.block_lt_of_cell? _ _ hc7⟩
  have read : ∀ (W' : World) (sp : Nat → Bool), Below W.heap.size W W' → DataW.TrodVars enc Tryd.prog W' sp ["loop.example/g00528/impl.errSyms", "loop.example/g00528/impl.errLength", "loop.example/g00528/impl.errNoCodes", "loop.example/g00528/impl.errShares", "loop.example/g00528/impl.errNoSymbol", "loop.example/g00528/impl.errRange", "loop.example/g00528/impl.errOver"] _ _ := fun W' sp bel =>
    vars_cons enc Tryd.gSyms Tryd.tSyms Tryd.underlying51 (var?_below bel Tryd.gSyms (World.block_lt_of_cell? _ _ hc1) hv1) trivial (vars_cons enc Tryd.gLength Tryd.tLength Tryd.underlying51 (var?_below bel Tryd.gLength (World.block_lt_of_cell? _ _ hc2) hv2) trivial
      (vars_cons enc Tryd.gNoCodes Tryd.tNoCodes Tryd.underlying51 (var?_below bel Tryd.gNoCodes (World.block_lt_of_cell? _ _ hc3) hv3) trivial (vars_cons enc Tryd.gShares Tryd.tShares Tryd.underlying51 (var?_below bel Tryd.gShares (World.block_lt_of_cell? _ _ hc4) hv4) trivial
        (vars_cons enc gNoSymbol tNoSymbol Tryd.underlying51 (var?_below bel gNoSymbol (World.block_lt_of_cell? _ _ hc7) hv7) trivial (vars_read2 enc Tryd.gRange Tryd.tRange Tryd.underlying51 (var?_below bel Tryd.gRange (World.block_lt_of_cell? _ _ hc6) hv6) trivial Tryd.gOver Tryd.tOver Tryd.underlying51 (var?_below bel Tryd.gOver (World.block_lt_of_cell? _ _ hc5) hv5) trivial sp)))))
  obtain ⟨rfl, rfl⟩ := hV.unique (read W _ (Below.refl _ _))
  clear hA0 hV0 hval0
  refine (lawHuffGet_any b cb ls a cap zs N x1 x2 W hu hb hm2 hm h4 hcE hS).mono fun e W' ⟨he, bel⟩ => ?_
  subst he
  exact ⟨_, rfl, _, _, _, [], _, _, hW', trodAll_mk1 (shut_bool Tryd.underlying4 _),
    (trodAll_cons_mk (Below.trod Tryd.laidOut (by kernel_rfl) (of_decide_eq_true (by kernel_rfl)) k0 bel lt0) (trodAll_cons_mk (Below.trod Tryd.laidOut (by kernel_rfl) (of_decide_eq_true (by kernel_rfl)) k1 bel lt1) (trodAll_cons_mk (shut_int Tryd.underlying3 w1) (trodAll_cons_mk (shut_int Tryd.underlying3 w2) trodAll_mk0)))),
    read W' _ bel, bel.frame _, fun h => by cases h⟩

theorem said : Rows.FnExactHuffGetSaid :=
  OpenClaim.holds_of_wide 7 Tryd.f7 rfl rfl rfl rfl rfl rfl rfl ⟨rfl, rfl, rfl, rfl, rfl⟩ rfl rfl rfl rfl rfl (by kernel_rfl) Tryd.func7 (by kernel_rfl)
    (of_decide_eq_true (by kernel_rfl)) (by unfold Func.isWrapper; first | (rw [if_pos (by decide +kernel)]; kernel_rfl) | (rw [if_neg (by decide +kernel)]; exact ⟨rfl, rfl⟩))
    (fun os started H enc _ => lifted os started H enc)

theorem plain (f : FuncId) (fn : Func) (hf : Tryd.pinned.checked.prog.funcNamed "loop.example/g00528/laws.FnExactHuffGet" = some f) (hfn : Tryd.pinned.checked.prog.funcs[f]? = some fn) :
    true = Tryd.pinned.checked.prog.looks [] ∧ ∀ (j : Nat) t, fn.params[j]? = some t → Tryd.pinned.checked.prog.wantsStandIn t = false := by
  obtain rfl : f = 7 := Option.some.inj ((show Tryd.prog.funcNamed "loop.example/g00528/laws.FnExactHuffGet" = some 7 by kernel_rfl).symm.trans hf) |>.symm
  obtain rfl : fn = Tryd.f7 := (Option.some.inj (Tryd.func7.symm.trans hfn)).symm
  refine ⟨by kernel_rfl, fun j t ht => ?_⟩
  rw [Tryd.params7] at ht
  have hmem := Array.mem_of_getElem? ht
  have h' : t = 22 ∨ t = 38 ∨ t = 3 := by simpa using hmem
  rcases h' with rfl | rfl | rfl
  · exact (show Tryd.prog.wantsStandIn 22 = false by kernel_rfl)
  · exact (show Tryd.prog.wantsStandIn 38 = false by kernel_rfl)
  · exact (show Tryd.prog.wantsStandIn 3 = false by kernel_rfl)

end cardHuffGet

theorem huffGet_card : Rows.FnExactHuffGetCardSaid :=
  Claim7.holds_tied_plain_at .later [] _ _ _ _ cardHuffGet.said (fun _ h => by cases h) (by kernel_rfl) (fun _ h => by cases h) fnExactHuffGet_row_tie rfl ⟨rfl, rfl⟩ (by kernel_rfl) rfl cardHuffGet.plain (by kernel_rfl)
#print axioms huffGet_card
end Go.Proofs.YtpmagpjiacpheaaDoor
