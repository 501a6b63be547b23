/- Lemmas on the way. -/
import Derived.Test.YtfeokafkhnbdiaaGreatDoorPut4
import Derived.Test.YtfeokafkhnbdiaaGreatDoorPut1
import Derived.Test.YtfeokafkhnbdiaaGreatDoorSeal1
import Derived.Test.YtfeokafkhnbdiaaGreatDoorFp1
import Derived.Test.YtfeokafkhnbdiaaGreatDoorINorm3
import Derived.Laws.AppendOwn
import Derived.Test.YtfeokafkhnbdiaaGreatDoorArR
import Derived.Test.YtfeokafkhnbdiaaGreatDoorNPut
namespace Go.Proofs.YtfeokafkhnbdiaaGreatDoor
open Go.RowKit
set_option linter.unusedVariables false
def bitAt (zs:List Int) (p:Nat):Nat:=(zs.getD (p / 8) 0).toNat / 2 ^ (p % 8) % 2
structure Stay (w wr:World) (a:Option Addr) (K ca:Nat) (N:Int) (b:Option Addr) (L cb:Nat) (m:Int) (B:Nat):Prop where
 bel:Below w.heap.size w wr
 a0:wr.cell? ⟨w.heap.size,0,none⟩=some (.slice a K ca)
 a1:wr.cell? ⟨w.heap.size,1,none⟩=some (.int .i64 N)
 b0:wr.cell? ⟨w.heap.size+1,0,none⟩=some (.slice b L cb)
 b1:wr.cell? ⟨w.heap.size+1,1,none⟩=some (.int .i64 m)
 r0:wr.cell? ⟨w.heap.size+1+1,0,none⟩=some (.slice none 0 0)
 r1:wr.cell? ⟨w.heap.size+1+1,1,none⟩=some (.int .i64 0)
 f0:wr.frozen? ⟨w.heap.size+1+1,0,none⟩=false
 f1:wr.frozen? ⟨w.heap.size+1+1,1,none⟩=false
 hB:B=w.heap.size+1+1+1
 sz:B≤wr.heap.size
def CV (w:World) (B:Nat) (v:Value) (n:Nat) (fs:List Int):Prop:=w.ownsRow B 177 3 v n (fs.map (Value.int .i64))
def InR (w:World) (B U:Nat) (a:Option Addr) (fs:List Int):Prop:=
 (∀ z ∈ fs,-9223372036854775808≤z∧z≤9223372036854775807)∧(fs=[]∨∃ g,a=some ⟨g,0,none⟩∧B≤g∧g<U∧U≤w.heap.size∧∀ i,i<fs.length→w.cell? ⟨g,i,none⟩=some (.int .i64 (fs.getD i 0)))
end Go.Proofs.YtfeokafkhnbdiaaGreatDoor
