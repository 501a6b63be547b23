/-
  FnExactCheck, for every input: the call returns true and leaves its arguments as they were, where the named variables hold what the program's own text lays there (the card ties them to it).
-/
import Derived.Test.YtaibkchbkedjnaaGreatDoorVarsC
import Derived.Test.YtaibkchbkedjnaaGreatDoorLawCheck
namespace Go.Proofs.YtaibkchbkedjnaaGreatDoor.cardCheck
open Go.ChangeShapes Go.WideShapes Go.ChangeAt Go.RowKit Go.Joins
set_option linter.unusedVariables false
theorem c_inPlace :(Rows.fnExactCheckRow.inPlace == Tryz.pinned.checked.prog.inPlace 7)=true:=by kernel_rfl
theorem c_unfollowed :(Rows.fnExactCheckRow.unfollowed == Tryz.pinned.checked.prog.unfollowed 7)=true:=by kernel_rfl
theorem c_recurses :(Rows.fnExactCheckRow.recurses == Tryz.pinned.checked.prog.recurses 7)=true:=by kernel_rfl
theorem c_named :(Rows.fnExactCheckRow.named == Tryz.pinned.checked.prog.varsNamed 7)=true:=by kernel_rfl
theorem closed :joinedFacts Tryz.pinned.checked.prog 7 Tryz.f7 Rows.fnExactCheckSpec Rows.fnExactCheckRow=true:=by
 unfold joinedFacts
 rw [c_inPlace,c_unfollowed,c_recurses,c_named]
 kernel_rfl
end Go.Proofs.YtaibkchbkedjnaaGreatDoor.cardCheck
