import Derived.Test.YtaibkchbkedjnaaGreatDoorLawRead
import Derived.Test.YtaibkchbkedjnaaGreatDoorOpenS5
namespace Go.Proofs.YtaibkchbkedjnaaGreatDoor.cardRead
open Go.ChangeShapes Go.WideShapes Go.ChangeAt Go.RowKit Go.Joins
set_option linter.unusedVariables false
theorem zhi :(Rows.fnExactReadRow.inPlace == Tryz.pinned.checked.prog.inPlace 3)=true:=by kernel_rfl
theorem zc8 :(Rows.fnExactReadRow.unfollowed == Tryz.pinned.checked.prog.unfollowed 3)=true:=by kernel_rfl
theorem zge :(Rows.fnExactReadRow.recurses == Tryz.pinned.checked.prog.recurses 3)=true:=by kernel_rfl
theorem zlq :(Rows.fnExactReadRow.named == Tryz.pinned.checked.prog.varsNamed 3)=true:=by kernel_rfl
theorem zmx :joinedFacts Tryz.pinned.checked.prog 3 Tryz.f3 Rows.fnExactReadSpec Rows.fnExactReadRow=true:=by
 unfold joinedFacts;rw [zhi,zc8,zge,zlq]
 kernel_rfl
end Go.Proofs.YtaibkchbkedjnaaGreatDoor.cardRead
