/- Lemmas on the way. -/
import Derived.Test.YtfeokafkhnbdiaaGreatDoorReader
import Derived.Test.YtfeokafkhnbdiaaGreatDoorPmB
import Derived.Test.YtfeokafkhnbdiaaGreatDoorNPut
import Derived.Test.YtfeokafkhnbdiaaGreatDoorHPut2M
namespace Go.Proofs.YtfeokafkhnbdiaaGreatDoor
open Go.RowKit
set_option linter.unusedVariables false
end Go.Proofs.YtfeokafkhnbdiaaGreatDoor
