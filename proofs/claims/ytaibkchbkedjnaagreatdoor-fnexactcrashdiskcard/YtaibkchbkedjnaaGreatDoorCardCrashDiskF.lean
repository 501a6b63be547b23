/-
  FnExactCrashDisk, for every input: the call returns true and leaves its arguments as they were, where the named variables hold what the program's own text lays there (the card ties them to it).
-/
import Derived.Test.YtaibkchbkedjnaaGreatDoorVarsC
import Derived.Test.YtaibkchbkedjnaaGreatDoorOpenBo
import Derived.Test.YtaibkchbkedjnaaGreatDoorLawCrashDisk
import Derived.Test.YtaibkchbkedjnaaGreatDoorElSz
namespace Go.Proofs.YtaibkchbkedjnaaGreatDoor.cardCrashDisk
open Go.ChangeShapes Go.WideShapes Go.ChangeAt Go.RowKit Go.Joins
set_option linter.unusedVariables false
theorem c_inPlace :(Rows.fnExactCrashDiskRow.inPlace == Tryz.pinned.checked.prog.inPlace 4)=true:=by kernel_rfl
theorem c_unfollowed :(Rows.fnExactCrashDiskRow.unfollowed == Tryz.pinned.checked.prog.unfollowed 4)=true:=by kernel_rfl
theorem c_recurses :(Rows.fnExactCrashDiskRow.recurses == Tryz.pinned.checked.prog.recurses 4)=true:=by kernel_rfl
theorem c_named :(Rows.fnExactCrashDiskRow.named == Tryz.pinned.checked.prog.varsNamed 4)=true:=by kernel_rfl
theorem closed :joinedFacts Tryz.pinned.checked.prog 4 Tryz.f4 Rows.fnExactCrashDiskSpec Rows.fnExactCrashDiskRow=true:=by
 unfold joinedFacts
 rw [c_inPlace,c_unfollowed,c_recurses,c_named]
 kernel_rfl
end Go.Proofs.YtaibkchbkedjnaaGreatDoor.cardCrashDisk
