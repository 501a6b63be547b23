/- Lemmas on the way. -/
import Derived.Test.YtaibkchbkedjnaaGreatDoorFr1
import Derived.Test.YtaibkchbkedjnaaGreatDoorVarsC
namespace Go.Proofs.YtaibkchbkedjnaaGreatDoor
open Go.RowKit
set_option linter.unusedVariables false
theorem DkS.ssl {e d:DkV} (h:DkS e d):e.ss.length=d.ss.length:=by simpa using congrArg List.length h.ss
end Go.Proofs.YtaibkchbkedjnaaGreatDoor
