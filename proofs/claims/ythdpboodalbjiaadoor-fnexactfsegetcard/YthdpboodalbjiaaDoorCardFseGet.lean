/-
  FnExactFseGet, for every input: the call returns true and leaves its arguments as they were, where the named variables hold what the program's own text lays there (the card ties them to it).
-/
import Derived.Test.YthdpboodalbjiaaDoorVarsC
import Derived.Test.YthdpboodalbjiaaDoorVars3
import Derived.Test.YthdpboodalbjiaaDoorOpenI
import Derived.Test.YthdpboodalbjiaaDoorLawFseGet
namespace Go.Proofs.YthdpboodalbjiaaDoor.cardFseGet
open Go.ChangeShapes Go.WideShapes Go.ChangeAt Go.RowKit Go.Joins
set_option linter.unusedVariables false

theorem g_errOver : Tryd.prog.globalNamed "loop.example/g00528/impl.errOver" = some 5 := by kernel_rfl
theorem t_errOver : (Tryd.prog.globals[5]?).map (·.type) = some 49 := by kernel_rfl
theorem g_errRange : Tryd.prog.globalNamed "loop.example/g00528/impl.errRange" = some 3 := by kernel_rfl
theorem t_errRange : (Tryd.prog.globals[3]?).map (·.type) = some 49 := by kernel_rfl
theorem g_errOtherText : Tryd.prog.globalNamed "loop.example/g00528/impl.errOtherText" = some 0 := by kernel_rfl
theorem t_errOtherText : (Tryd.prog.globals[0]?).map (·.type) = some 49 := by kernel_rfl
theorem door_met (os : Os) (args : Array Value) : laidMetH Tryd.prog Rows.fnExactFseGetRow.laid ((World.doorLaid Tryd.prog 123 os).forCall (fun _ _ => 0) ⟨#[], args, []⟩).memory :=
  laidMetH_of_parts3 (fuel := 8) (laidMet_of_run' 8 (by kernel_rfl) (by kernel_rfl)) (by kernel_rfl) (by kernel_rfl)

set_option maxRecDepth 100000 in
theorem lifted (os : Os) (started : os.Started) (H : Type) (enc : TypeId × Value → H) :
    ReturnsInHanded {} Tryd.checked os 4 .any (fun w args => (Rows.fnExactFseGetSpec.pre enc Tryd.prog Tryd.f4 [] false w args ∧ laidMetH Tryd.prog Rows.fnExactFseGetRow.laid w) ∧ sizedMet enc Tryd.prog Tryd.f4 (OpenSpec.ofChange Rows.fnExactFseGetSpec) false w args)
      (Rows.fnExactFseGetSpec.post enc Tryd.prog Tryd.f4 false true false false) := by
  refine returnsInHanded_of_change_and (C := Tryd.checked) (X := fun w _ => laidMetH Tryd.prog Rows.fnExactFseGetRow.laid w) (fun _ _ _ hh h => h.of_heap hh) Tryd.own started (by kernel_rfl) Tryd.func4
    (ChangeSpec.witness_shaped (enc := enc) (C := Tryd.checked) (os := os) (X := fun w _ => laidMetH Tryd.prog Rows.fnExactFseGetRow.laid w) false (World.doorLaid Tryd.prog 123 os) #[.slice .none 0 0, .agg #[.slice .none 0 0, .int .i64 0], .int .i64 0] 8 rfl (World.shaped_of_RefB (by kernel_rfl) (by kernel_rfl)) (by kernel_rfl) (by kernel_rfl) (by kernel_rfl) (door_met os _)) ?_
  intro W base args ds gs before hval0 hW _ _ hL _
  have hval : ∀ (j : Nat) t v, Tryd.f4.params[j]? = some t → args[j]? = some v → Value.okWide Tryd.prog W .any base t v := hval0
  have hW' := hW
  obtain ⟨p, q, hA0, hV0, rfl, hfz, hnd⟩ := hW
  have hA : DataW.TrodAll enc Tryd.prog W 0 (fun _ => true) true Tryd.f4.params.toList args.toList ds p := hA0
  have hV : DataW.TrodVars enc Tryd.prog W (fun _ => true) ["loop.example/g00528/impl.errOtherText", "loop.example/g00528/impl.errRange", "loop.example/g00528/impl.errOver"] gs q := hV0
  rw [Tryd.params4] at hA hval
  obtain ⟨v0, vs0, d0, ds0, p0, q0, hargs, rfl, rfl, h0, r0⟩ := trodAll_cons hA
  obtain ⟨v1, vs1, d1, ds1, p1, q1, rfl, rfl, rfl, h1, r1⟩ := trodAll_cons r0
  obtain ⟨v2, vs2, d2, ds2, p2, q2, rfl, rfl, rfl, h2, r2⟩ := trodAll_cons r1
  obtain ⟨rfl, rfl, rfl⟩ := trodAll_nil r2
  obtain rfl : args = #[v0, v1, v2] := by cases args; simp_all
  have k0 := h0
  have lt0 : ∀ x ∈ p0, x.block < W.heap.size := by obtain ⟨m, hm⟩ := k0; exact DataW.trod_lt m _ _ _ hm
  have k1 := h1
  have lt1 : ∀ x ∈ p1, x.block < W.heap.size := by obtain ⟨m, hm⟩ := k1; exact DataW.trod_lt m _ _ _ hm
  obtain ⟨sa0, sl0, sc0, rfl⟩ := okWide_slice Tryd.underlying22 (hval 0 22 v0 rfl rfl)
  obtain ⟨fuel0, hf0⟩ := h0
  obtain ⟨a0, zs0, cap0, hv0, hb0, hm0⟩ := ins_of_trod (v := .slice sa0 sl0 sc0) (by simpa [Value.cells] using hf0)
  obtain ⟨c0_1, c1_1, y0_1, y1_1, m1, rfl, hd0_1, hp0_1, hy0_1, hy1_1⟩ := open_agg2 Tryd.underlying33 (by kernel_rfl) (by kernel_rfl) (hval 1 33 v1 rfl rfl) h1
  obtain ⟨N1, e1_1, hY1_1, wN1⟩ := DataW.trod_int Tryd.underlying3 hy1_1
  simp at e1_1
  subst e1_1
  obtain ⟨a1, zs1, cap1, rfl, hb1, hm1⟩ := byt_of_trod hy0_1
  obtain ⟨x2, rfl, rfl, rfl, w2⟩ := open_int Tryd.underlying3 (hval 2 3 v2 rfl rfl) h2
  rw [hv0] at hW' k0 ⊢
  rw [MakeChecks.laidMetH_plain _ _ _ (by kernel_rfl)] at hL
  obtain ⟨s_errOver, hv_errOver, hc_errOver⟩ := sentinel hL g_errOver t_errOver
  have hG_errOver : 5 < W.heap.size := World.block_lt_of_cell? _ _ hc_errOver
  obtain ⟨s_errRange, hv_errRange, hc_errRange⟩ := sentinel hL.tail g_errRange t_errRange
  have hG_errRange : 3 < W.heap.size := World.block_lt_of_cell? _ _ hc_errRange
  obtain ⟨s_errOtherText, hv_errOtherText, hc_errOtherText⟩ := sentinel hL.tail.tail g_errOtherText t_errOtherText
  have hG_errOtherText : 0 < W.heap.size := World.block_lt_of_cell? _ _ hc_errOtherText
  have read : ∀ (W' : World) (sp : Nat → Bool), Below W.heap.size W W' → DataW.TrodVars enc Tryd.prog W' sp ["loop.example/g00528/impl.errOtherText", "loop.example/g00528/impl.errRange", "loop.example/g00528/impl.errOver"] _ _ := fun W' sp bel =>
    vars_consC enc g_errOtherText t_errOtherText Tryd.underlying49 (var?_below bel g_errOtherText hG_errOtherText hv_errOtherText) trivial (vars_consC enc g_errRange t_errRange Tryd.underlying49 (var?_below bel g_errRange hG_errRange hv_errRange) trivial (vars_consC enc g_errOver t_errOver Tryd.underlying49 (var?_below bel g_errOver hG_errOver hv_errOver) trivial (vars_nil enc _)))
  obtain ⟨rfl, rfl⟩ := hV.unique (read W _ (Below.refl _ _))
  clear hA0 hV0 hval0
  refine (lawFseGet_any a0 cap0 zs0 a1 cap1 zs1 N1 x2 W hb0 hb1 hm0 hm1 ⟨⟨_, _, hc_errRange⟩, ⟨_, _, hc_errOver⟩, ⟨_, _, hc_errOtherText⟩, hG_errRange, hG_errOver, hG_errOtherText⟩).mono fun e W' ⟨he, bel⟩ => ?_
  subst he
  exact ⟨_, rfl, _, _, _, [], _, _, hW', trodAll_mk1 (shut_bool Tryd.underlying4 _),
    (trodAll_cons_mk (Below.trod Tryd.laidOut (by kernel_rfl) (of_decide_eq_true (by kernel_rfl)) k0 bel lt0) (trodAll_cons_mk (Below.trod Tryd.laidOut (by kernel_rfl) (of_decide_eq_true (by kernel_rfl)) k1 bel lt1) (trodAll_cons_mk (shut_int Tryd.underlying3 w2) trodAll_mk0))),
    read W' _ bel, bel.frame _, fun h => by cases h⟩

theorem said : Rows.FnExactFseGetSaid :=
  OpenClaim.holds_of_wide 4 Tryd.f4 rfl rfl rfl rfl rfl rfl rfl ⟨rfl, rfl, rfl, rfl, rfl⟩ rfl rfl rfl rfl rfl (by kernel_rfl) Tryd.func4 (by kernel_rfl)
    (of_decide_eq_true (by kernel_rfl)) (by unfold Func.isWrapper; first | (rw [if_pos (by decide +kernel)]; kernel_rfl) | (rw [if_neg (by decide +kernel)]; exact ⟨rfl, rfl⟩))
    (fun os started H enc _ => lifted os started H enc)

theorem plain (f : FuncId) (fn : Func) (hf : Tryd.pinned.checked.prog.funcNamed "loop.example/g00528/laws.FnExactFseGet" = some f) (hfn : Tryd.pinned.checked.prog.funcs[f]? = some fn) :
    false = Tryd.pinned.checked.prog.looks [] ∧ ∀ (j : Nat) t, fn.params[j]? = some t → Tryd.pinned.checked.prog.wantsStandIn t = false := by
  obtain rfl : f = 4 := Option.some.inj ((show Tryd.prog.funcNamed "loop.example/g00528/laws.FnExactFseGet" = some 4 by kernel_rfl).symm.trans hf) |>.symm
  obtain rfl : fn = Tryd.f4 := (Option.some.inj (Tryd.func4.symm.trans hfn)).symm
  refine ⟨by kernel_rfl, fun j t ht => ?_⟩
  rw [Tryd.params4] at ht
  have hmem := Array.mem_of_getElem? ht
  have h' : t = 22 ∨ t = 33 ∨ t = 3 := by simpa using hmem
  rcases h' with rfl | rfl | rfl
  · exact (show Tryd.prog.wantsStandIn 22 = false by kernel_rfl)
  · exact (show Tryd.prog.wantsStandIn 33 = false by kernel_rfl)
  · exact (show Tryd.prog.wantsStandIn 3 = false by kernel_rfl)

end cardFseGet

theorem fseGet_card : Rows.FnExactFseGetCardSaid :=
  Claim7.holds_tied_plain_at .later [] _ _ _ _ cardFseGet.said (fun _ h => by cases h) (by kernel_rfl) (fun _ h => by cases h) fnExactFseGet_row_tie rfl ⟨rfl, rfl⟩ (by kernel_rfl) rfl cardFseGet.plain (by kernel_rfl)
#print axioms fseGet_card
end Go.Proofs.YthdpboodalbjiaaDoor
