/-
  FnExactLiveBytes, for every input: the call returns true and leaves its arguments as they were, where the named variables hold what the program's own text lays there (the card ties them to it).
-/
import Derived.Test.YtaibkchbkedjnaaGreatDoorVarsC
import Derived.Test.YtaibkchbkedjnaaGreatDoorLawLiveBytes
namespace Go.Proofs.YtaibkchbkedjnaaGreatDoor.cardLiveBytes
open Go.ChangeShapes Go.WideShapes Go.ChangeAt Go.RowKit Go.Joins
set_option linter.unusedVariables false
theorem c_inPlace :(Rows.fnExactLiveBytesRow.inPlace == Tryz.pinned.checked.prog.inPlace 8)=true:=by kernel_rfl
theorem c_unfollowed :(Rows.fnExactLiveBytesRow.unfollowed == Tryz.pinned.checked.prog.unfollowed 8)=true:=by kernel_rfl
theorem c_recurses :(Rows.fnExactLiveBytesRow.recurses == Tryz.pinned.checked.prog.recurses 8)=true:=by kernel_rfl
theorem c_named :(Rows.fnExactLiveBytesRow.named == Tryz.pinned.checked.prog.varsNamed 8)=true:=by kernel_rfl
theorem closed :joinedFacts Tryz.pinned.checked.prog 8 Tryz.f8 Rows.fnExactLiveBytesSpec Rows.fnExactLiveBytesRow=true:=by
 unfold joinedFacts
 rw [c_inPlace,c_unfollowed,c_recurses,c_named]
 kernel_rfl
end Go.Proofs.YtaibkchbkedjnaaGreatDoor.cardLiveBytes
