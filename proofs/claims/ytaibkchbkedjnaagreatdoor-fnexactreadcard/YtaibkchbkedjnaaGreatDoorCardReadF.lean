/-
  FnExactRead, for every input: the call returns true and leaves its arguments as they were, where the named variables hold what the program's own text lays there (the card ties them to it).
-/
import Derived.Test.YtaibkchbkedjnaaGreatDoorVarsC
import Derived.Test.YtaibkchbkedjnaaGreatDoorLawRead
import Derived.Test.YtaibkchbkedjnaaGreatDoorOpenS5
import Derived.Test.YtaibkchbkedjnaaGreatDoorBox2
namespace Go.Proofs.YtaibkchbkedjnaaGreatDoor.cardRead
open Go.ChangeShapes Go.WideShapes Go.ChangeAt Go.RowKit Go.Joins
set_option linter.unusedVariables false
theorem c_inPlace :(Rows.fnExactReadRow.inPlace == Tryz.pinned.checked.prog.inPlace 3)=true:=by kernel_rfl
theorem c_unfollowed :(Rows.fnExactReadRow.unfollowed == Tryz.pinned.checked.prog.unfollowed 3)=true:=by kernel_rfl
theorem c_recurses :(Rows.fnExactReadRow.recurses == Tryz.pinned.checked.prog.recurses 3)=true:=by kernel_rfl
theorem c_named :(Rows.fnExactReadRow.named == Tryz.pinned.checked.prog.varsNamed 3)=true:=by kernel_rfl
theorem closed :joinedFacts Tryz.pinned.checked.prog 3 Tryz.f3 Rows.fnExactReadSpec Rows.fnExactReadRow=true:=by
 unfold joinedFacts
 rw [c_inPlace,c_unfollowed,c_recurses,c_named]
 kernel_rfl
end Go.Proofs.YtaibkchbkedjnaaGreatDoor.cardRead
