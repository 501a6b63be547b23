/- Lemmas on the way. -/
import Derived.Test.YtfeokafkhnbdiaaGreatDoorHPut2M
import Derived.Test.YtfeokafkhnbdiaaGreatDoorCodes3
import Derived.Test.YtfeokafkhnbdiaaGreatDoorReader
import Derived.Test.YtfeokafkhnbdiaaGreatDoorNPut
import Derived.Test.YtfeokafkhnbdiaaGreatDoorPut1
namespace Go.Proofs.YtfeokafkhnbdiaaGreatDoor
open Go.RowKit
set_option linter.unusedVariables false
end Go.Proofs.YtfeokafkhnbdiaaGreatDoor
