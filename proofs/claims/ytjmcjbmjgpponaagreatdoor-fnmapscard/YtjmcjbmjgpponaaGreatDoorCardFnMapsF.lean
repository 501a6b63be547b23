import Derived.Test.YtjmcjbmjgpponaaGreatDoorLawFnMaps
namespace Go.Proofs.YtjmcjbmjgpponaaGreatDoor.cardFnMaps
open Go.ChangeShapes Go.WideShapes Go.ChangeAt Go.RowKit Go.Joins
set_option linter.unusedVariables false
theorem ziy :(Rows.fnMapsRow.inPlace == Tryz.pinned.checked.prog.inPlace 5)=true:=by kernel_rfl
theorem zek :(Rows.fnMapsRow.unfollowed == Tryz.pinned.checked.prog.unfollowed 5)=true:=by kernel_rfl
theorem zhv :(Rows.fnMapsRow.recurses == Tryz.pinned.checked.prog.recurses 5)=true:=by kernel_rfl
theorem zob :(Rows.fnMapsRow.named == Tryz.pinned.checked.prog.varsNamed 5)=true:=by kernel_rfl
theorem zpb :joinedFacts Tryz.pinned.checked.prog 5 Tryz.f5 Rows.fnMapsSpec Rows.fnMapsRow=true:=by
 unfold joinedFacts;rw [ziy,zek,zhv,zob]
 kernel_rfl
end Go.Proofs.YtjmcjbmjgpponaaGreatDoor.cardFnMaps
