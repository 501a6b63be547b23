/-
  FnFseReads, for every input: the call returns true and leaves its arguments as they were, where the named variables hold what the program's own text lays there (the card ties them to it).
-/
import Derived.Test.YtmhpgkfaihcmeaaDoorOpenB
import Derived.Test.YtmhpgkfaihcmeaaDoorIParts
import Derived.Test.YtmhpgkfaihcmeaaDoorLawFnFseReads
import Derived.Test.YtmhpgkfaihcmeaaDoorVarsC
namespace Go.Proofs.YtmhpgkfaihcmeaaDoor.cardFnFseReads
open Go.ChangeShapes Go.WideShapes Go.ChangeAt Go.RowKit Go.Joins
set_option linter.unusedVariables false

theorem g_errOver : Tryd.prog.globalNamed "loop.example/g00528/impl.errOver" = some 5 := by kernel_rfl
theorem t_errOver : (Tryd.prog.globals[5]?).map (·.type) = some 55 := by kernel_rfl
theorem g_errFull : Tryd.prog.globalNamed "loop.example/g00528/impl.errFull" = some 4 := by kernel_rfl
theorem t_errFull : (Tryd.prog.globals[4]?).map (·.type) = some 55 := by kernel_rfl
theorem g_errRange : Tryd.prog.globalNamed "loop.example/g00528/impl.errRange" = some 3 := by kernel_rfl
theorem t_errRange : (Tryd.prog.globals[3]?).map (·.type) = some 55 := by kernel_rfl
theorem g_errNoShare : Tryd.prog.globalNamed "loop.example/g00528/impl.errNoShare" = some 2 := by kernel_rfl
theorem t_errNoShare : (Tryd.prog.globals[2]?).map (·.type) = some 55 := by kernel_rfl
theorem g_errOtherText : Tryd.prog.globalNamed "loop.example/g00528/impl.errOtherText" = some 0 := by kernel_rfl
theorem t_errOtherText : (Tryd.prog.globals[0]?).map (·.type) = some 55 := by kernel_rfl
theorem door_met (os : Os) (args : Array Value) : laidMetH Tryd.prog Rows.fnFseReadsRow.laid ((World.doorLaid Tryd.prog 123 os).forCall (fun _ _ => 0) ⟨#[], args, []⟩).memory :=
  laidMetH_of_parts3 (fuel := 8) (laidMet_of_run' 8 (by kernel_rfl) (by kernel_rfl)) (by kernel_rfl) (by kernel_rfl)

set_option maxRecDepth 100000 in
theorem lifted (os : Os) (started : os.Started) (H : Type) (enc : TypeId × Value → H) :
    ReturnsInHanded {} Tryd.checked os 4 .any (fun w args => (Rows.fnFseReadsSpec.pre enc Tryd.prog Tryd.f4 [] false w args ∧ laidMetH Tryd.prog Rows.fnFseReadsRow.laid w) ∧ sizedMet enc Tryd.prog Tryd.f4 (OpenSpec.ofChange Rows.fnFseReadsSpec) false w args)
      (Rows.fnFseReadsSpec.post enc Tryd.prog Tryd.f4 false true false false) := by
  refine returnsInHanded_of_change_and (C := Tryd.checked) (X := fun w _ => laidMetH Tryd.prog Rows.fnFseReadsRow.laid w) (fun _ _ _ hh h => h.of_heap hh) Tryd.own started (by kernel_rfl) Tryd.func4
    (ChangeSpec.witness_shaped (enc := enc) (C := Tryd.checked) (os := os) (X := fun w _ => laidMetH Tryd.prog Rows.fnFseReadsRow.laid w) false (World.doorLaid Tryd.prog 123 os) #[.slice .none 0 0] 8 rfl (World.shaped_of_RefB (by kernel_rfl) (by kernel_rfl)) (by kernel_rfl) (by kernel_rfl) (by kernel_rfl) (door_met os _)) ?_
  intro W base args ds gs before hval0 hW _ _ hL _
  have hval : ∀ (j : Nat) t v, Tryd.f4.params[j]? = some t → args[j]? = some v → Value.okWide Tryd.prog W .any base t v := hval0
  have hW' := hW
  obtain ⟨p, q, hA0, hV0, rfl, hfz, hnd⟩ := hW
  have hA : DataW.TrodAll enc Tryd.prog W 0 (fun _ => true) true Tryd.f4.params.toList args.toList ds p := hA0
  have hV : DataW.TrodVars enc Tryd.prog W (fun _ => true) ["loop.example/g00528/impl.errOtherText", "loop.example/g00528/impl.errRange", "loop.example/g00528/impl.errOver", "loop.example/g00528/impl.errNoShare", "loop.example/g00528/impl.errFull"] gs q := hV0
  rw [Tryd.params4] at hA hval
  obtain ⟨v0, vs0, d0, ds0, p0, q0, hargs, rfl, rfl, h0, r0⟩ := trodAll_cons hA
  obtain ⟨rfl, rfl, rfl⟩ := trodAll_nil r0
  obtain rfl : args = #[v0] := by cases args; simp_all
  have k0 := h0
  have lt0 : ∀ x ∈ p0, x.block < W.heap.size := by obtain ⟨m, hm⟩ := k0; exact DataW.trod_lt m _ _ _ hm
  obtain ⟨sa0, sl0, sc0, rfl⟩ := okWide_slice Tryd.underlying22 (hval 0 22 v0 rfl rfl)
  obtain ⟨fuel0, hf0⟩ := h0
  obtain ⟨a0, zs0, cap0, hv0, hb0, hm0⟩ := byt_of_trod (v := .slice sa0 sl0 sc0) (by simpa [Value.cells] using hf0)
  rw [hv0] at hW' k0 ⊢
  rw [MakeChecks.laidMetH_plain _ _ _ (by kernel_rfl)] at hL
  obtain ⟨s_errOver, hv_errOver, hc_errOver⟩ := sentinel hL g_errOver t_errOver
  have hG_errOver : 5 < W.heap.size := World.block_lt_of_cell? _ _ hc_errOver
  obtain ⟨s_errFull, hv_errFull, hc_errFull⟩ := sentinel hL.tail g_errFull t_errFull
  have hG_errFull : 4 < W.heap.size := World.block_lt_of_cell? _ _ hc_errFull
  obtain ⟨s_errRange, hv_errRange, hc_errRange⟩ := sentinel hL.tail.tail g_errRange t_errRange
  have hG_errRange : 3 < W.heap.size := World.block_lt_of_cell? _ _ hc_errRange
  obtain ⟨s_errNoShare, hv_errNoShare, hc_errNoShare⟩ := sentinel hL.tail.tail.tail g_errNoShare t_errNoShare
  have hG_errNoShare : 2 < W.heap.size := World.block_lt_of_cell? _ _ hc_errNoShare
  obtain ⟨s_errOtherText, hv_errOtherText, hc_errOtherText⟩ := sentinel hL.tail.tail.tail.tail g_errOtherText t_errOtherText
  have hG_errOtherText : 0 < W.heap.size := World.block_lt_of_cell? _ _ hc_errOtherText
  have read : ∀ (W' : World) (sp : Nat → Bool), Below W.heap.size W W' → DataW.TrodVars enc Tryd.prog W' sp ["loop.example/g00528/impl.errOtherText", "loop.example/g00528/impl.errRange", "loop.example/g00528/impl.errOver", "loop.example/g00528/impl.errNoShare", "loop.example/g00528/impl.errFull"] _ _ := fun W' sp bel =>
    vars_consC enc g_errOtherText t_errOtherText Tryd.underlying55 (var?_below bel g_errOtherText hG_errOtherText hv_errOtherText) trivial (vars_consC enc g_errRange t_errRange Tryd.underlying55 (var?_below bel g_errRange hG_errRange hv_errRange) trivial (vars_consC enc g_errOver t_errOver Tryd.underlying55 (var?_below bel g_errOver hG_errOver hv_errOver) trivial (vars_consC enc g_errNoShare t_errNoShare Tryd.underlying55 (var?_below bel g_errNoShare hG_errNoShare hv_errNoShare) trivial (vars_consC enc g_errFull t_errFull Tryd.underlying55 (var?_below bel g_errFull hG_errFull hv_errFull) trivial (vars_nil enc _)))))
  obtain ⟨rfl, rfl⟩ := hV.unique (read W _ (Below.refl _ _))
  clear hA0 hV0 hval0
  refine (lawFnFseReads_any a0 cap0 zs0 W hb0 hm0 ⟨⟨_, _, hc_errRange⟩, ⟨_, _, hc_errOver⟩, ⟨_, _, hc_errOtherText⟩, hG_errRange, hG_errOver, hG_errOtherText⟩ ⟨⟨_, _, hc_errNoShare⟩, hG_errNoShare⟩).mono fun e W' ⟨he, bel⟩ => ?_
  subst he
  exact ⟨_, rfl, _, _, _, [], _, _, hW', trodAll_mk1 (shut_bool Tryd.underlying4 _),
    (trodAll_cons_mk (Below.trod Tryd.laidOut (by kernel_rfl) (of_decide_eq_true (by kernel_rfl)) k0 bel lt0) trodAll_mk0),
    read W' _ bel, bel.frame _, fun h => by cases h⟩

theorem said : Rows.FnFseReadsSaid :=
  OpenClaim.holds_of_wide 4 Tryd.f4 rfl rfl rfl rfl rfl rfl rfl ⟨rfl, rfl, rfl, rfl, rfl⟩ rfl rfl rfl rfl rfl (by kernel_rfl) Tryd.func4 (by kernel_rfl)
    (of_decide_eq_true (by kernel_rfl)) (by unfold Func.isWrapper; first | (rw [if_pos (by decide +kernel)]; kernel_rfl) | (rw [if_neg (by decide +kernel)]; exact ⟨rfl, rfl⟩))
    (fun os started H enc _ => lifted os started H enc)

theorem plain (f : FuncId) (fn : Func) (hf : Tryd.pinned.checked.prog.funcNamed "loop.example/g00528/laws.FnFseReads" = some f) (hfn : Tryd.pinned.checked.prog.funcs[f]? = some fn) :
    false = Tryd.pinned.checked.prog.looks [] ∧ ∀ (j : Nat) t, fn.params[j]? = some t → Tryd.pinned.checked.prog.wantsStandIn t = false := by
  obtain rfl : f = 4 := Option.some.inj ((show Tryd.prog.funcNamed "loop.example/g00528/laws.FnFseReads" = some 4 by kernel_rfl).symm.trans hf) |>.symm
  obtain rfl : fn = Tryd.f4 := (Option.some.inj (Tryd.func4.symm.trans hfn)).symm
  refine ⟨by kernel_rfl, fun j t ht => ?_⟩
  rw [Tryd.params4] at ht
  have hmem := Array.mem_of_getElem? ht
  have h' : t = 22 := by simpa using hmem
  rcases h' with rfl
  · exact (show Tryd.prog.wantsStandIn 22 = false by kernel_rfl)

end cardFnFseReads

theorem fnFseReads_card : Rows.FnFseReadsCardSaid :=
  Claim7.holds_tied_plain_at .later [] _ _ _ _ cardFnFseReads.said (fun _ h => by cases h) (by kernel_rfl) (fun _ h => by cases h) fnFseReads_row_tie rfl ⟨rfl, rfl⟩ (by kernel_rfl) rfl cardFnFseReads.plain (by kernel_rfl)
#print axioms fnFseReads_card
end Go.Proofs.YtmhpgkfaihcmeaaDoor
