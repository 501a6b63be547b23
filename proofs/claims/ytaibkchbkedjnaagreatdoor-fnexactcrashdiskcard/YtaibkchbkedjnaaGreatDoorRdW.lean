/- Lemmas on the way. -/
import Derived.Test.YtaibkchbkedjnaaGreatDoorMpI
import Derived.Test.YtaibkchbkedjnaaGreatDoorClone
namespace Go.Proofs.YtaibkchbkedjnaaGreatDoor
open Go.RowKit
set_option linter.unusedVariables false
def lastU (es:List El) (x:Int):Nat→Option El
 | 0=>none
 | k+1=>if (es.getD k de).n=x then some (es.getD k de) else lastU es x k
def rdE (ss ps:List El) (x:Int):El:=(lastU ps x ps.length).getD (ss.getD x.toNat de)
def rdB (ss ps:List El) (x:Int):Bool:=rok ss ps && decide (0≤x∧x<(ss.length:Int))
def rdL (ss ps:List El) (x:Int):List Int:=if rdB ss ps x=true then (rdE ss ps x).ls else []
end Go.Proofs.YtaibkchbkedjnaaGreatDoor
