/-
  FnNormBits, for every input: the call returns true and leaves its arguments as they were, where the two sentinels hold what the program's own text lays there (the card ties them to it).
-/
import Derived.Test.YtfhcaoabohmkkaaDoorOpenS
import Derived.Test.YtfhcaoabohmkkaaDoorVars3
import Derived.Test.YtfhcaoabohmkkaaDoorLawFnNormBits
namespace Go.Proofs.YtfhcaoabohmkkaaDoor.cardFnNormBits
open Go.ChangeShapes Go.WideShapes Go.ChangeAt Go.RowKit Go.Joins
set_option linter.unusedVariables false

theorem gShare : Tryd.prog.globalNamed "loop.example/g00528/impl.errShare" = some 0 := by kernel_rfl
theorem tShare : (Tryd.prog.globals[0]?).map (·.type) = some 55 := by kernel_rfl
theorem varsOne {H : Type} (enc : TypeId × Value → H) {P : Program} {W : World} {n : String} {g : Nat} {t : TypeId} {ms : Array (String × TypeId)} {x : Value} {ns : List String} {ds : List (DataW H)} {ps : List MemPlace} {sp : Nat → Bool}
    (hg : P.globalNamed n = some g) (ht : (P.globals[g]?).map (·.type) = some t) (hi : P.underlying t = some (.interface ms)) (h : W.var? P n = some #[x]) (ix : IsIface x) (hr : DataW.TrodVars enc P W sp ns ds ps) :
    DataW.TrodVars enc P W sp (n :: ns) (tok enc x :: ds) (.cell g 0 :: ps) := ⟨g, t, #[x], 1, [], ps, hg, ht, h, trod_held hi ix 0, hr, rfl⟩
theorem door_met (os : Os) (args : Array Value) : laidMetH Tryd.prog Rows.fnNormBitsRow.laid ((World.doorLaid Tryd.prog 104 os).forCall (fun _ _ => 0) ⟨#[], args, []⟩).memory :=
  laidMetH_of_parts3 (fuel := 8) (laidMet_of_run' 8 (by kernel_rfl) (by kernel_rfl)) (by kernel_rfl) (by kernel_rfl)

set_option maxRecDepth 100000 in
theorem lifted (os : Os) (started : os.Started) (H : Type) (enc : TypeId × Value → H) :
    ReturnsInHanded {} Tryd.checked os 5 .any (fun w args => (Rows.fnNormBitsSpec.pre enc Tryd.prog Tryd.f5 [] false w args ∧ laidMetH Tryd.prog Rows.fnNormBitsRow.laid w) ∧ sizedMet enc Tryd.prog Tryd.f5 (OpenSpec.ofChange Rows.fnNormBitsSpec) false w args)
      (Rows.fnNormBitsSpec.post enc Tryd.prog Tryd.f5 false true false false) := by
  refine returnsInHanded_of_change_and (C := Tryd.checked) (X := fun w _ => laidMetH Tryd.prog Rows.fnNormBitsRow.laid w) (fun _ _ _ hh h => h.of_heap hh) Tryd.own started (by kernel_rfl) Tryd.func5
    (ChangeSpec.witness_shaped (enc := enc) (C := Tryd.checked) (os := os) (X := fun w _ => laidMetH Tryd.prog Rows.fnNormBitsRow.laid w) false (World.doorLaid Tryd.prog 104 os) #[.slice .none 0 0] 8 rfl (World.shaped_of_RefB (by kernel_rfl) (by kernel_rfl)) (by kernel_rfl) (by kernel_rfl) (by kernel_rfl) (door_met os _)) ?_
  intro W base args ds gs before hval0 hW _ _ hL _
  have hval : ∀ (j : Nat) t v, Tryd.f5.params[j]? = some t → args[j]? = some v → Value.okWide Tryd.prog W .any base t v := hval0
  have hW' := hW
  obtain ⟨p, q, hA0, hV0, rfl, hfz, hnd⟩ := hW
  have hA : DataW.TrodAll enc Tryd.prog W 0 (fun _ => true) true Tryd.f5.params.toList args.toList ds p := hA0
  have hV : DataW.TrodVars enc Tryd.prog W (fun _ => true) ["loop.example/g00528/impl.errRange", "loop.example/g00528/impl.errFull", "loop.example/g00528/impl.errShare", "loop.example/g00528/impl.errOver"] gs q := hV0
  rw [Tryd.params5] at hA hval
  obtain ⟨v0, vs0, d0, ds0, p0, q0, hargs, rfl, rfl, h0, r0⟩ := trodAll_cons hA
  obtain ⟨rfl, rfl, rfl⟩ := trodAll_nil r0
  obtain rfl : args = #[v0] := by cases args; simp_all
  have k0 := h0
  have lt0 : ∀ x ∈ p0, x.block < W.heap.size := by obtain ⟨m, hm⟩ := k0; exact DataW.trod_lt m _ _ _ hm
  obtain ⟨sa, sl, sc, rfl⟩ := okWide_slice Tryd.underlying22 (hval 0 22 v0 rfl rfl)
  obtain ⟨fuel, hf⟩ := h0
  obtain ⟨a, zs, cap, hv, hb, hm⟩ := byt_of_trod (v := .slice sa sl sc) (by simpa [Value.cells] using hf)
  rw [hv] at k0 hW' ⊢
  rw [MakeChecks.laidMetH_plain _ _ _ (by kernel_rfl)] at hL
  obtain ⟨aO, hvO, hcO⟩ := sentinel hL Tryd.gOver Tryd.tOver
  obtain ⟨aF, hvF, hcF⟩ := sentinel hL.tail Tryd.gFull Tryd.tFull
  obtain ⟨aR, hvR, hcR⟩ := sentinel hL.tail.tail Tryd.gRange Tryd.tRange
  obtain ⟨aS, hvS, hcS⟩ := sentinel hL.tail.tail.tail gShare tShare
  have read : ∀ (W' : World) (sp : Nat → Bool), Below W.heap.size W W' → DataW.TrodVars enc Tryd.prog W' sp ["loop.example/g00528/impl.errRange", "loop.example/g00528/impl.errFull", "loop.example/g00528/impl.errShare", "loop.example/g00528/impl.errOver"] _ _ := fun W' sp bel =>
    varsOne enc Tryd.gRange Tryd.tRange Tryd.underlying55 (var?_below bel Tryd.gRange (World.block_lt_of_cell? _ _ hcR) hvR) trivial (vars_three enc Tryd.gFull Tryd.tFull Tryd.underlying55 (var?_below bel Tryd.gFull (World.block_lt_of_cell? _ _ hcF) hvF) trivial gShare tShare Tryd.underlying55 (var?_below bel gShare (World.block_lt_of_cell? _ _ hcS) hvS) trivial Tryd.gOver Tryd.tOver Tryd.underlying55 (var?_below bel Tryd.gOver (World.block_lt_of_cell? _ _ hcO) hvO) trivial sp)
  obtain ⟨rfl, rfl⟩ := hV.unique (read W _ (Below.refl _ _))
  have hG0 : 2 < W.heap.size := World.block_lt_of_cell? _ _ hcR
  have hG1 : 4 < W.heap.size := World.block_lt_of_cell? _ _ hcO
  have hG2 : 0 < W.heap.size := World.block_lt_of_cell? _ _ hcS
  clear hA0 hV0 hval0
  refine (lawFnNormBits_any a cap zs W hb hm ⟨_, _, hcR⟩ ⟨_, _, hcO⟩ ⟨_, _, hcS⟩ ⟨hG0, hG1, hG2⟩).mono fun e W' ⟨he, bel⟩ => ?_
  subst he
  exact ⟨_, rfl, _, _, _, [], _, _, hW', trodAll_mk1 (shut_bool Tryd.underlying4 _),
    (trodAll_cons_mk (Below.trod Tryd.laidOut (by kernel_rfl) (of_decide_eq_true (by kernel_rfl)) k0 bel lt0) trodAll_mk0),
    read W' _ bel,
    bel.frame _, fun h => by cases h⟩

theorem said : Rows.FnNormBitsSaid :=
  OpenClaim.holds_of_wide 5 Tryd.f5 rfl rfl rfl rfl rfl rfl rfl ⟨rfl, rfl, rfl, rfl, rfl⟩ rfl rfl rfl rfl rfl (by kernel_rfl) Tryd.func5 (by kernel_rfl)
    (of_decide_eq_true (by kernel_rfl)) (by unfold Func.isWrapper; first | (rw [if_pos (by decide +kernel)]; kernel_rfl) | (rw [if_neg (by decide +kernel)]; exact ⟨rfl, rfl⟩))
    (fun os started H enc _ => lifted os started H enc)

theorem plain (f : FuncId) (fn : Func) (hf : Tryd.pinned.checked.prog.funcNamed "loop.example/g00528/laws.FnNormBits" = some f) (hfn : Tryd.pinned.checked.prog.funcs[f]? = some fn) :
    false = Tryd.pinned.checked.prog.looks [] ∧ ∀ (j : Nat) t, fn.params[j]? = some t → Tryd.pinned.checked.prog.wantsStandIn t = false := by
  obtain rfl : f = 5 := Option.some.inj ((show Tryd.prog.funcNamed "loop.example/g00528/laws.FnNormBits" = some 5 by kernel_rfl).symm.trans hf) |>.symm
  obtain rfl : fn = Tryd.f5 := (Option.some.inj (Tryd.func5.symm.trans hfn)).symm
  refine ⟨by kernel_rfl, fun j t ht => ?_⟩
  rw [Tryd.params5] at ht
  have hmem := Array.mem_of_getElem? ht
  have h' : t = 22 := by simpa using hmem
  subst h'
  exact (show Tryd.prog.wantsStandIn 22 = false by kernel_rfl)

end cardFnNormBits

theorem normBits_card : Rows.FnNormBitsCardSaid :=
  Claim7.holds_tied_plain_at .later [] _ _ _ _ cardFnNormBits.said (fun _ h => by cases h) (by kernel_rfl) (fun _ h => by cases h) fnNormBits_row_tie rfl ⟨rfl, rfl⟩ (by kernel_rfl) rfl cardFnNormBits.plain (by kernel_rfl)
#print axioms normBits_card
end Go.Proofs.YtfhcaoabohmkkaaDoor
