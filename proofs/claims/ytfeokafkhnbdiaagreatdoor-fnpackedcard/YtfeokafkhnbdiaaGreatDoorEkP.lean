/- Lemmas on the way. -/
import Derived.Test.YtfeokafkhnbdiaaGreatDoorEkA
import Derived.Test.YtfeokafkhnbdiaaGreatDoorPcN
import Derived.Test.YtfeokafkhnbdiaaGreatDoorHPut2M
import Derived.Test.YtfeokafkhnbdiaaGreatDoorINorm4
namespace Go.Proofs.YtfeokafkhnbdiaaGreatDoor
open Go.RowKit
set_option linter.unusedVariables false
set_option linter.unusedSimpArgs false
def mrgE :List Ek→List Ek→List Ek
 | [],b=>b
 | a :: ar,[]=>a :: ar
 | a :: ar,b :: br=>if a.p.wt≤b.p.wt then a :: mrgE ar (b :: br) else b :: mrgE (a :: ar) br
termination_by a b=>a.length+b.length
def Ekc (e:Ek) (u:Nat) (ea:Option Addr) (el ec:Nat):Prop:=u=e.p.wt∧ea=e.a∧el=e.p.sy.length∧ec=e.c
def EkSy (w:World) (M:Nat) (es:List Ek):Prop:=∀ e ∈ es,∃ b cur,e.a=some ⟨b,0,none⟩∧M<b∧e.p.sy.length≤e.c∧w.heap[b]?=some (.cells cur 3 (0,0))∧∀ i,i<e.p.sy.length→cur[i]?=some (.int .i64 (e.p.sy.getD i 0))
structure CoI (w W:World) (N n:Nat) (zs:List Int) (v:Value) (es:List Ek):Prop where
 row:OVk W (N+1) v es
 sy:EkSy W N es
 out:OwI W N N n (List.replicate zs.length 0)
 bel:Below N w W
structure RoI (w W:World) (N n:Nat) (zs:List Int) (ca:Option Addr) (es:List Ek) (pa:Option Addr) (ks:List Ek):Prop where
 coins:Eks W ca es
 sye:EkSy W N es
 packs:Eks W pa ks
 syk:EkSy W N ks
 out:OwI W N N n (List.replicate zs.length 0)
 bel:Below N w W
structure PaI (w5 W:World) (N B:Nat) (v:Value) (es:List Ek):Prop where
 row:OVk W B v es
 sy:EkSy W N es
 bel:Below B w5 W
end Go.Proofs.YtfeokafkhnbdiaaGreatDoor
