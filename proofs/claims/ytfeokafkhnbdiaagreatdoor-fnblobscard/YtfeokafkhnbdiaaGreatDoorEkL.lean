/- Lemmas on the way. -/
import Derived.BigQuiet
import Derived.Test.YtfeokafkhnbdiaaGreatDoorEkP
import Derived.Test.YtfeokafkhnbdiaaGreatDoorPcN
namespace Go.Proofs.YtfeokafkhnbdiaaGreatDoor
open Go.RowKit
set_option linter.unusedVariables false
set_option linter.unusedSimpArgs false
end Go.Proofs.YtfeokafkhnbdiaaGreatDoor
