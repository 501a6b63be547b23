import Derived.Test.YtaibkchbkedjnaaGreatDoorLawAll
namespace Go.Proofs.YtaibkchbkedjnaaGreatDoor.cardAll
open Go.ChangeShapes Go.WideShapes Go.ChangeAt Go.RowKit Go.Joins
set_option linter.unusedVariables false
theorem zho :(Rows.fnExactAllRow.inPlace == Tryz.pinned.checked.prog.inPlace 5)=true:=by kernel_rfl
theorem zbq :(Rows.fnExactAllRow.unfollowed == Tryz.pinned.checked.prog.unfollowed 5)=true:=by kernel_rfl
theorem zfo :(Rows.fnExactAllRow.recurses == Tryz.pinned.checked.prog.recurses 5)=true:=by kernel_rfl
theorem zkt :(Rows.fnExactAllRow.named == Tryz.pinned.checked.prog.varsNamed 5)=true:=by kernel_rfl
theorem zma :joinedFacts Tryz.pinned.checked.prog 5 Tryz.f5 Rows.fnExactAllSpec Rows.fnExactAllRow=true:=by
 unfold joinedFacts;rw [zho,zbq,zfo,zkt]
 kernel_rfl
end Go.Proofs.YtaibkchbkedjnaaGreatDoor.cardAll
