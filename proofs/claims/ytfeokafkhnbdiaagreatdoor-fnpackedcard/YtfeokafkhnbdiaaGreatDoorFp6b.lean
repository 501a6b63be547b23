/- Lemmas on the way. -/
import Derived.Test.YtfeokafkhnbdiaaGreatDoorFp1
import Derived.Test.YtfeokafkhnbdiaaGreatDoorINorm4
import Derived.Laws.AppendOwn
import Derived.Test.YtfeokafkhnbdiaaGreatDoorTb4
import Derived.Test.YtfeokafkhnbdiaaGreatDoorEnM
namespace Go.Proofs.YtfeokafkhnbdiaaGreatDoor
open Go.RowKit
set_option linter.unusedVariables false
def CV (w:World) (B:Nat) (v:Value) (n:Nat) (fs:List Int):Prop:=w.ownsRow B 177 3 v n (fs.map (Value.int .i64))
def InR (w:World) (B U:Nat) (a:Option Addr) (fs:List Int):Prop:=
 (∀ z ∈ fs,-9223372036854775808≤z∧z≤9223372036854775807)∧(fs=[]∨∃ g,a=some ⟨g,0,none⟩∧B≤g∧g<U∧U≤w.heap.size∧∀ i,i<fs.length→w.cell? ⟨g,i,none⟩=some (.int .i64 (fs.getD i 0)))
end Go.Proofs.YtfeokafkhnbdiaaGreatDoor
