import Derived.Test.YtaibkchbkedjnaaGreatDoorOpenBo
import Derived.Test.YtaibkchbkedjnaaGreatDoorLawCrashDisk
namespace Go.Proofs.YtaibkchbkedjnaaGreatDoor.cardCrashDisk
open Go.ChangeShapes Go.WideShapes Go.ChangeAt Go.RowKit Go.Joins
set_option linter.unusedVariables false
theorem zg3 :(Rows.fnExactCrashDiskRow.inPlace == Tryz.pinned.checked.prog.inPlace 4)=true:=by kernel_rfl
theorem zbi :(Rows.fnExactCrashDiskRow.unfollowed == Tryz.pinned.checked.prog.unfollowed 4)=true:=by kernel_rfl
theorem zf3 :(Rows.fnExactCrashDiskRow.recurses == Tryz.pinned.checked.prog.recurses 4)=true:=by kernel_rfl
theorem zk9 :(Rows.fnExactCrashDiskRow.named == Tryz.pinned.checked.prog.varsNamed 4)=true:=by kernel_rfl
theorem zl5 :joinedFacts Tryz.pinned.checked.prog 4 Tryz.f4 Rows.fnExactCrashDiskSpec Rows.fnExactCrashDiskRow=true:=by
 unfold joinedFacts;rw [zg3,zbi,zf3,zk9]
 kernel_rfl
end Go.Proofs.YtaibkchbkedjnaaGreatDoor.cardCrashDisk
