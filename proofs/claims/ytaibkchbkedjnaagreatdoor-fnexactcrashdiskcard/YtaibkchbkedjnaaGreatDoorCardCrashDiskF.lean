import Derived.Test.YtaibkchbkedjnaaGreatDoorOpenBo
import Derived.Test.YtaibkchbkedjnaaGreatDoorLawCrashDisk
namespace Go.Proofs.YtaibkchbkedjnaaGreatDoor.cardCrashDisk
open Go.ChangeShapes Go.WideShapes Go.ChangeAt Go.RowKit Go.Joins
set_option linter.unusedVariables false
theorem zh3 :(Rows.fnExactCrashDiskRow.inPlace == Tryz.pinned.checked.prog.inPlace 4)=true:=by kernel_rfl
theorem zc5 :(Rows.fnExactCrashDiskRow.unfollowed == Tryz.pinned.checked.prog.unfollowed 4)=true:=by kernel_rfl
theorem zeh :(Rows.fnExactCrashDiskRow.recurses == Tryz.pinned.checked.prog.recurses 4)=true:=by kernel_rfl
theorem zj2 :(Rows.fnExactCrashDiskRow.named == Tryz.pinned.checked.prog.varsNamed 4)=true:=by kernel_rfl
theorem zkb :joinedFacts Tryz.pinned.checked.prog 4 Tryz.f4 Rows.fnExactCrashDiskSpec Rows.fnExactCrashDiskRow=true:=by
 unfold joinedFacts;rw [zh3,zc5,zeh,zj2]
 kernel_rfl
end Go.Proofs.YtaibkchbkedjnaaGreatDoor.cardCrashDisk
