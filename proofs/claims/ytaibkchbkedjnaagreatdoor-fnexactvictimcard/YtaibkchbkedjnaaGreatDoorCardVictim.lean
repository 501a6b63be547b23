/-
  FnExactVictim, for every input: the call returns true and leaves its arguments as they were, where the named variables hold what the program's own text lays there (the card ties them to it).
-/
import Derived.Test.YtaibkchbkedjnaaGreatDoorCardVictimF
import Derived.Test.YtaibkchbkedjnaaGreatDoorVarsC
import Derived.Test.YtaibkchbkedjnaaGreatDoorLawVictim
namespace Go.Proofs.YtaibkchbkedjnaaGreatDoor.cardVictim
open Go.ChangeShapes Go.WideShapes Go.ChangeAt Go.RowKit Go.Joins
set_option linter.unusedVariables false
theorem said :Rows.FnExactVictimSaid:=
 OpenClaim.holds_of_wide 6 Tryz.f6 rfl rfl rfl rfl rfl rfl rfl ⟨rfl,rfl,rfl,rfl,rfl⟩ rfl rfl rfl rfl rfl (by kernel_rfl) Tryz.func6 closed
  (of_decide_eq_true (by kernel_rfl)) (by unfold Func.isWrapper;first | (rw [if_pos (by decide +kernel)];kernel_rfl) | (rw [if_neg (by decide +kernel)];exact ⟨rfl,rfl⟩))
  (fun os started H enc _=>lifted os started H enc)
theorem plain (f : FuncId) (fn : Func) (hf : Tryz.pinned.checked.prog.funcNamed "loop.example/g00528/laws.FnExactVictim" = some f) (hfn : Tryz.pinned.checked.prog.funcs[f]? = some fn) :
  true=Tryz.pinned.checked.prog.looks []∧∀ (j:Nat) t,fn.params[j]?=some t→Tryz.pinned.checked.prog.wantsStandIn t=false:=by
 obtain rfl : f = 6 := Option.some.inj ((show Tryz.prog.funcNamed "loop.example/g00528/laws.FnExactVictim" = some 6 by kernel_rfl).symm.trans hf) |>.symm
 obtain rfl:fn=Tryz.f6:=(Option.some.inj (Tryz.func6.symm.trans hfn)).symm
 refine ⟨by kernel_rfl,fun j t ht=>?_⟩
 rw [Tryz.params6] at ht
 have hmem:=Array.mem_of_getElem? ht
 have h':t=34:=by simpa using hmem
 rcases h' with rfl
 ·exact (show Tryz.prog.wantsStandIn 34=false by kernel_rfl)
end cardVictim
theorem victim_card :Rows.FnExactVictimCardSaid:=
 Claim7.holds_tied_plain_at .later [] _ _ _ _ cardVictim.said (fun _ h=>by cases h) (by kernel_rfl) (fun _ h=>by cases h) fnExactVictim_row_tie rfl ⟨rfl,rfl⟩ (by kernel_rfl) rfl cardVictim.plain (by kernel_rfl)
#print axioms victim_card
end Go.Proofs.YtaibkchbkedjnaaGreatDoor
