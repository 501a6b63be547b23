/- Lemmas on the way. -/
import Derived.Test.YtaibkchbkedjnaaGreatDoorDkMk
import Derived.Test.YtaibkchbkedjnaaGreatDoorElSz
namespace Go.Proofs.YtaibkchbkedjnaaGreatDoor
open Go.RowKit
set_option linter.unusedVariables false
theorem Dk10.stab {lo hi b:Nat} {d:DkV} (h1:lo≤b) (h2:b<hi):Stab lo hi (fun W=>Dk10 W b d):=fun T W W' hp ho ht hl=>hp.only ho (ht b h1 h2)
end Go.Proofs.YtaibkchbkedjnaaGreatDoor
