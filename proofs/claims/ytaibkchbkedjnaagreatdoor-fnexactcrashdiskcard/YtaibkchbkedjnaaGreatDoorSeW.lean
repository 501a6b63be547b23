/- Lemmas on the way. -/
import Derived.Test.YtaibkchbkedjnaaGreatDoorSetlS
namespace Go.Proofs.YtaibkchbkedjnaaGreatDoor
open Go.RowKit
set_option linter.unusedVariables false
set_option linter.unusedSimpArgs false
def seS (ss ps:List El) (ev:Bool) (bs:List Bool):List (Int × List Int):=if rok ss ps=true then (setl ss ps (kep ev bs) ps.length).map El.ct else []
def brB (ss ps:List El):Bool:=rok ss ps
def brS (ss ps:List El):List (Int × List Int):=seS ss ps true []
def brP (ss ps:List El):List (Int × List Int):=[]
def crB (ss ps:List El) (bs:List Bool):Bool:=rok ss ps
def crS (ss ps:List El) (bs:List Bool):List (Int × List Int):=seS ss ps false bs
def crP (ss ps:List El) (bs:List Bool):List (Int × List Int):=[]
theorem se_ct {ss ps ts qs:List El} (h1:ts.map El.ct=ss.map El.ct) (h2:qs.map El.ct=ps.map El.ct) (ev:Bool) (bs:List Bool):seS ts qs ev bs=seS ss ps ev bs:=by
 unfold seS
 rw [rok_ct h1 h2,len_ctE h2,setl_ct h1 h2]
theorem cr_ct {ss ps ts qs:List El} (h1:ts.map El.ct=ss.map El.ct) (h2:qs.map El.ct=ps.map El.ct) (bs:List Bool):crB ts qs bs=crB ss ps bs∧crS ts qs bs=crS ss ps bs∧crP ts qs bs=crP ss ps bs:=⟨rok_ct h1 h2,se_ct h1 h2 _ _,rfl⟩
theorem se_yes {ss ps:List El} (h:rok ss ps=true) (ev:Bool) (bs:List Bool):seS ss ps ev bs=(setl ss ps (kep ev bs) ps.length).map El.ct:=by unfold seS;rw [if_pos h]
theorem se_no {ss ps:List El} (h:rok ss ps=false) (ev:Bool) (bs:List Bool):seS ss ps ev bs=[]:=by unfold seS;rw [if_neg (by rw [h];simp)]
end Go.Proofs.YtaibkchbkedjnaaGreatDoor
