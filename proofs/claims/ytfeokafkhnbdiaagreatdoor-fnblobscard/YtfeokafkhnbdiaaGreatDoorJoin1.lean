/- Lemmas on the way. -/
import Derived.Test.YtfeokafkhnbdiaaGreatDoorHPut2
import Derived.Test.YtfeokafkhnbdiaaGreatDoorSome1
import Derived.Test.YtfeokafkhnbdiaaGreatDoorEnM
import Derived.Test.YtfeokafkhnbdiaaGreatDoorINorm4
import Derived.Test.YtfeokafkhnbdiaaGreatDoorPut4
import Derived.Test.YtfeokafkhnbdiaaGreatDoorPut1
import Derived.Test.YtfeokafkhnbdiaaGreatDoorSeal1
namespace Go.Proofs.YtfeokafkhnbdiaaGreatDoor
open Go.RowKit
set_option linter.unusedVariables false
def bitAt (zs:List Int) (p:Nat):Nat:=(zs.getD (p / 8) 0).toNat / 2 ^ (p % 8) % 2
structure Stay (w wr:World) (a:Option Addr) (K ca:Nat) (N:Int) (b:Option Addr) (L cb:Nat) (m:Int) (B:Nat):Prop where
 bel:Below w.heap.size w wr
 a0:wr.cell? ⟨w.heap.size,0,none⟩=some (.slice a K ca)
 a1:wr.cell? ⟨w.heap.size,1,none⟩=some (.int .i64 N)
 b0:wr.cell? ⟨w.heap.size+1,0,none⟩=some (.slice b L cb)
 b1:wr.cell? ⟨w.heap.size+1,1,none⟩=some (.int .i64 m)
 r0:wr.cell? ⟨w.heap.size+1+1,0,none⟩=some (.slice none 0 0)
 r1:wr.cell? ⟨w.heap.size+1+1,1,none⟩=some (.int .i64 0)
 f0:wr.frozen? ⟨w.heap.size+1+1,0,none⟩=false
 f1:wr.frozen? ⟨w.heap.size+1+1,1,none⟩=false
 hB:B=w.heap.size+1+1+1
 sz:B≤wr.heap.size
end Go.Proofs.YtfeokafkhnbdiaaGreatDoor
