/-
  FnExactUsedSectors, for every input: the call returns true and leaves its arguments as they were, where the named variables hold what the program's own text lays there (the card ties them to it).
-/
import Derived.Test.YtaibkchbkedjnaaGreatDoorVarsC
import Derived.Test.YtaibkchbkedjnaaGreatDoorLawUsedSectors
namespace Go.Proofs.YtaibkchbkedjnaaGreatDoor.cardUsedSectors
open Go.ChangeShapes Go.WideShapes Go.ChangeAt Go.RowKit Go.Joins
set_option linter.unusedVariables false

theorem c_inPlace :(Rows.fnExactUsedSectorsRow.inPlace == Tryz.pinned.checked.prog.inPlace 9)=true:=by kernel_rfl
theorem c_unfollowed :(Rows.fnExactUsedSectorsRow.unfollowed == Tryz.pinned.checked.prog.unfollowed 9)=true:=by kernel_rfl
theorem c_recurses :(Rows.fnExactUsedSectorsRow.recurses == Tryz.pinned.checked.prog.recurses 9)=true:=by kernel_rfl
theorem c_named :(Rows.fnExactUsedSectorsRow.named == Tryz.pinned.checked.prog.varsNamed 9)=true:=by kernel_rfl
theorem closed :joinedFacts Tryz.pinned.checked.prog 9 Tryz.f9 Rows.fnExactUsedSectorsSpec Rows.fnExactUsedSectorsRow=true:=by
 unfold joinedFacts
 rw [c_inPlace,c_unfollowed,c_recurses,c_named]
 kernel_rfl
end Go.Proofs.YtaibkchbkedjnaaGreatDoor.cardUsedSectors
