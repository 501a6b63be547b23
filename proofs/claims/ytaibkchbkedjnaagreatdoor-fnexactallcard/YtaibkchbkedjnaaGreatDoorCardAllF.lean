import Derived.Test.YtaibkchbkedjnaaGreatDoorLawAll
namespace Go.Proofs.YtaibkchbkedjnaaGreatDoor.cardAll
open Go.ChangeShapes Go.WideShapes Go.ChangeAt Go.RowKit Go.Joins
set_option linter.unusedVariables false
theorem zhq :(Rows.fnExactAllRow.inPlace == Tryz.pinned.checked.prog.inPlace 5)=true:=by kernel_rfl
theorem zbt :(Rows.fnExactAllRow.unfollowed == Tryz.pinned.checked.prog.unfollowed 5)=true:=by kernel_rfl
theorem zg4 :(Rows.fnExactAllRow.recurses == Tryz.pinned.checked.prog.recurses 5)=true:=by kernel_rfl
theorem zln :(Rows.fnExactAllRow.named == Tryz.pinned.checked.prog.varsNamed 5)=true:=by kernel_rfl
theorem zmo :joinedFacts Tryz.pinned.checked.prog 5 Tryz.f5 Rows.fnExactAllSpec Rows.fnExactAllRow=true:=by
 unfold joinedFacts;rw [zhq,zbt,zg4,zln]
 kernel_rfl
end Go.Proofs.YtaibkchbkedjnaaGreatDoor.cardAll
