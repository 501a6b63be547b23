/-
  FnMaps, for every input: the call returns true and leaves its arguments as they were, where the named variables hold what the program's own text lays there (the card ties them to it).
-/
import Derived.Test.YtjmcjbmjgpponaaGreatDoorCardFnMapsL
import Derived.Test.YtjmcjbmjgpponaaGreatDoorCardFnMapsF
namespace Go.Proofs.YtjmcjbmjgpponaaGreatDoor.cardFnMaps
open Go.ChangeShapes Go.WideShapes Go.ChangeAt Go.RowKit Go.Joins
set_option linter.unusedVariables false
theorem said :Rows.FnMapsSaid:=
 OpenClaim.holds_of_wide 5 Tryz.f5 rfl rfl rfl rfl rfl rfl rfl ⟨rfl,rfl,rfl,rfl,rfl⟩ rfl rfl rfl rfl rfl (by kernel_rfl) Tryz.func5 zpb
  (of_decide_eq_true (by kernel_rfl)) (by unfold Func.isWrapper;first | (rw [if_pos (by decide +kernel)];kernel_rfl) | (rw [if_neg (by decide +kernel)];exact ⟨rfl,rfl⟩))
  (fun os started H enc _=>zqi os started H enc)
theorem plain (f : FuncId) (fn : Func) (hf : Tryz.pinned.checked.prog.funcNamed "loop.example/g00528/laws.FnMaps" = some f) (hfn : Tryz.pinned.checked.prog.funcs[f]? = some fn) :
  true=Tryz.pinned.checked.prog.looks []/\∀ (j:Nat) t,fn.params[j]?=some t->Tryz.pinned.checked.prog.wantsStandIn t=false:=by
 obtain rfl : f = 5 := Option.some.inj ((show Tryz.prog.funcNamed "loop.example/g00528/laws.FnMaps" = some 5 by kernel_rfl).symm.trans hf) |>.symm
 obtain rfl:fn=Tryz.f5:=(Option.some.inj (Tryz.func5.symm.trans hfn)).symm;refine ⟨by kernel_rfl,fun j t ht=>?_⟩
 rw [Tryz.params5] at ht;have hmem:=Array.mem_of_getElem? ht;have h':t=22:=by simpa using hmem
 rcases h' with rfl
 ·exact (show Tryz.prog.wantsStandIn 22=false by kernel_rfl)
end cardFnMaps
theorem fnMaps_card :Rows.FnMapsCardSaid:=
 Claim7.holds_tied_plain_at .later [] _ _ _ _ cardFnMaps.said (fun _ h=>by cases h) (by kernel_rfl) (fun _ h=>by cases h) fnMaps_row_tie rfl ⟨rfl,rfl⟩ (by kernel_rfl) rfl cardFnMaps.plain (by kernel_rfl)
#print axioms fnMaps_card
end Go.Proofs.YtjmcjbmjgpponaaGreatDoor
