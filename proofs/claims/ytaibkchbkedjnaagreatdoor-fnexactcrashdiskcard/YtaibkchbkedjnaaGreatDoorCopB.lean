/- Lemmas on the way. -/
import Derived.Test.YtaibkchbkedjnaaGreatDoorCop
namespace Go.Proofs.YtaibkchbkedjnaaGreatDoor
open Go.RowKit
set_option linter.unusedVariables false
structure CopB (w W:World) (B X:Nat) (v u:Value) (es fs:List El):Prop where
 bel:Below w.heap.size w W
 hB:w.heap.size≤B
 hX:w.heap.size≤X
 own:RawO W B v u es fs
 box:Box2 W X v u
 nx:∀ k,blkR v u es fs k→k≠X
section
variable {w W W' w2 w3 : World} {B X : Nat} {v u v' : Value} {es fs : List El} {e : El} {ob : Obj}
end
end Go.Proofs.YtaibkchbkedjnaaGreatDoor
