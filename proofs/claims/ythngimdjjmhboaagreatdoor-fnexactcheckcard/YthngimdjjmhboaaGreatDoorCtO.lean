/-
  What an address has, by the program: contentOf. (Typed by wip/mkct4.py.)
-/
import Derived.Test.YthngimdjjmhboaaGreatDoorCtI
namespace Go.Proofs.YthngimdjjmhboaaGreatDoor
open Go.RowKit
set_option linter.unusedVariables false
set_option linter.unusedSimpArgs false

def CtW (f:List Int→Option (List Int)) (d:DkV) (x:Nat) (w:World) (r:Ending) (w':World):Prop:=
 (∃ o T u,CtR f d x o∧r=.returned (.iface T u)∧CnV o w' (.iface T u))∧Below w.heap.size w w'

set_option maxRecDepth 20000 in
set_option maxHeartbeats 8000000 in
theorem contentOf_any (f:List Int→Option (List Int)) (hf:DecF f) (d:DkV) (x:Nat) (w:World) (hb:DkI w d) (hi:ItI w d.oa d.os) (hG:DkG f d) (hd:DkF d) (hS:SentR w) (hx:x<d.ms.length) :
  Calls Tryz.prog 53 #[.agg #[Value.slice d.sa d.ss.length d.sc,Value.slice d.pa d.ps.length d.pc,Value.int IntKind.i64 d.E,Value.int IntKind.i64 d.O,Value.slice d.ma d.ms.length d.mc,Value.slice d.va d.vs.length d.vc,Value.slice d.ca d.cs.length d.cc,Value.int IntKind.i64 d.F,Value.int IntKind.i64 d.G,Value.slice d.oa d.os.length d.oc],.int .i64 x] w (CtW f d x w):=by
 have HW0:Hid (Below w.heap.size w (w.alloc (Obj.cells #[Value.slice d.sa d.ss.length d.sc,Value.slice d.pa d.ps.length d.pc,Value.int IntKind.i64 d.E,Value.int IntKind.i64 d.O,Value.slice d.ma d.ms.length d.mc,Value.slice d.va d.vs.length d.vc,Value.slice d.ca d.cs.length d.cc,Value.int IntKind.i64 d.F,Value.int IntKind.i64 d.G,Value.slice d.oa d.os.length d.oc] 49))):=(Below.refl _ _).alloc (Nat.le_refl _) _
 have hx0:=Dk10.new w d 49
 have H1:=implPackFind_any f hf d.F d.G x d.oa d.oc d.os (w.alloc (Obj.cells #[Value.slice d.sa d.ss.length d.sc,Value.slice d.pa d.ps.length d.pc,Value.int IntKind.i64 d.E,Value.int IntKind.i64 d.O,Value.slice d.ma d.ms.length d.mc,Value.slice d.va d.vs.length d.vc,Value.slice d.ca d.cs.length d.cc,Value.int IntKind.i64 d.F,Value.int IntKind.i64 d.G,Value.slice d.oa d.os.length d.oc] 49)) (hi.below HW0.out (Nat.le_refl _)) hd.opn.j (hS.b.below HW0.out)
 have HB:Hid (DkI w d∧ItI w d.oa d.os∧DkG f d∧DkF d∧SentR w∧DecF f):=⟨hb,hi,hG,hd,hS,hf⟩
 have hxn:=(mapB_len d.ms hG.map).2
 have hkn:=hG.op.n
 clear hb hi hG hd hS hf
 have HYES:Hid (∀ (o:Option (List Int)) (T:TypeId) (u:Value) (W:World),CtR f d x o→CnV o W (.iface T u)→Below w.heap.size w W→CtW f d x w (.returned (.iface T u)) W):=fun o T u W h1 h2 h3=>⟨⟨o,T,u,h1,rfl,h2⟩,h3⟩
 generalize CtW f d x w=RP at *
 go_enter Tryz.func53,Tryz.ntmps53
 go_wp2_with fail
 generalize (w.alloc (Obj.cells #[Value.slice d.sa d.ss.length d.sc,Value.slice d.pa d.ps.length d.pc,Value.int IntKind.i64 d.E,Value.int IntKind.i64 d.O,Value.slice d.ma d.ms.length d.mc,Value.slice d.va d.vs.length d.vc,Value.slice d.ca d.cs.length d.cc,Value.int IntKind.i64 d.F,Value.int IntKind.i64 d.G,Value.slice d.oa d.os.length d.oc] 49))=W0 at *
 refine H1.mono ?_
 clear H1
 rintro e w1 ⟨⟨z,rfl,hz⟩,hb1⟩
 have HW1:Hid (Below w.heap.size w w1):=HW0.out.trans (hb1.mono HW0.out.size)
 have hx1:=hx0.step hb1
 clear hb1 hx0 HW0
 obtain ⟨-,hz⟩:PkR f d.F d.G d.os∧FndP d.os x z:=hz.elim id (fun h=>absurd HB.out.2.2.1.op h.1)
 rcases hz with ⟨k,h1,rfl,h3,h4⟩ | ⟨rfl,h4⟩
 ·obtain ⟨b,off,hoa,hbl,c0,c1,hby,hrg⟩:=(HB.out.1.opn.below HW1.out (Nat.le_refl _)).pen k h1
  obtain ⟨x0,x1,x2,x3,x4,x5,x6,x7,x8,x9,xl⟩:=hx1
  rw [hoa] at x9
  have HC:Hid (CtR f d x (some (d.os.getD k de).ls)):=.inl ⟨k,h1,h3,h4,rfl⟩
  have H2:=contentOpen_any (d.os.getD k de).n (d.os.getD k de).a (d.os.getD k de).c (d.os.getD k de).ls w1 hby (HB.out.2.1.cap _ (getD_memE h1))
  clear hby hrg h3 h4 HB hoa
  have hk0:(0:Int)≤(k:Int)∧(k:Int)<(d.os.length:Int):=by omega
  generalize d.os.getD k de=it at *
  generalize d.os.length=n at *
  go_wp2_with fail
  refine H2.mono ?_
  clear H2
  rintro e w2 ⟨⟨v,rfl,hv,T,u,rfl⟩,hb2⟩
  have HF:Hid (RP (.returned (.iface T u)) w2):=HYES.out _ T u w2 HC.out hv (HW1.out.trans (hb2.mono HW1.out.size))
  clear HYES HC hv hb2
  go_wp2
  exact HF.out
 ·have H4:Hid (∀ j,j<d.os.length→(d.os.getD j de).n≠(x:Int)):=h4
  obtain ⟨x0,x1,x2,x3,x4,x5,x6,x7,x8,x9,xl⟩:=id hx1
  have H2:=implMapGet_any d.ma d.mc d.ms x w1 (HB.out.1.map.below HW1.out (Nat.le_refl _)) HB.out.2.2.2.1.ms
  have e1:gtP d.ms x=d.ms.getD x dp:=by unfold gtP;rw [if_pos HB.out.2.2.1.map,plcO_in d.ms x hx]
  have e2:gtB d.ms x=!nwh (d.ms.getD x dp):=by unfold gtB;rw [HB.out.2.2.1.map,plcO_in d.ms x hx];rfl
  rw [e1,e2] at H2
  obtain ⟨p1,p2,p3,p4⟩:=plc_all HB.out.2.2.1.map x hx
  have hq1:=HB.out.2.2.1.pm x hx
  have hok:=okT_get d.ms _ x (mapB_okT d.ms HB.out.2.2.1.map) hx
  clear h4 e1 e2
  go_wp2_with fail
  refine H2.mono ?_
  clear H2 x0 x1 x2 x3 x4 x5 x6 x7 x8 x9 xl
  rintro e w2 ⟨rfl,hb2⟩
  have HW2:Hid (Below w.heap.size w w2):=HW1.out.trans (hb2.mono HW1.out.size)
  have hx2:=hx1.step hb2
  clear hx1 hb2
  obtain ⟨q,hq⟩:=Int.eq_ofNat_of_zero_le p1
  obtain ⟨i,hi⟩:=Int.eq_ofNat_of_zero_le p3
  by_cases hz:nwh (d.ms.getD x dp)=true
  ·have hz1:(d.ms.getD x dp).1=0:=by
    unfold nwh at hz
    simp only [Bool.and_eq_true,beq_iff_eq] at hz
    exact hz.1
   have HF:Hid (∀ o,RP (.returned (.iface 130 (.agg #[]))) (w2.alloc o)):=fun o=>HYES.out (some []) _ _ _ (.inr ⟨H4.out,.inl ⟨hz1,rfl⟩⟩) (.inr (.inl ⟨rfl,.inr rfl⟩)) (HW2.out.alloc HW2.out.size o)
   rw [hz,hq,hi]
   clear HYES HB H4 hok hz hz1 hq hi p1 p2 p3 p4 hq1 HW1
   go_wp2
   exact HF.out _
  ·have hzf:nwh (d.ms.getD x dp)=false:=by simpa using hz
   have hz1:(d.ms.getD x dp).1≠0:=by
    rcases hok with h | h
    ·exact absurd h hz
    ·unfold rgt at h
     have:=of_decide_eq_true h
     omega
   have hqn:q<d.ss.length:=by omega
   have hba:∀ o,Below w.heap.size w (w2.alloc o):=fun o=>HW2.out.alloc HW2.out.size o
   have H3:=contentAt_any f HB.out.2.2.2.2.2 d x q i (w2.alloc (Obj.cells #[Value.int IntKind.i64 (q:Int),Value.int IntKind.i64 (i:Int)] 127)) (HB.out.1.below (hba _) (Nat.le_refl _)) HB.out.2.2.1 HB.out.2.2.2.1 (HB.out.2.2.2.2.1.below (hba _)) hq hi hqn (by omega) (by omega)
   have hx3:=hx2.alloc (Obj.cells #[Value.int IntKind.i64 (q:Int),Value.int IntKind.i64 (i:Int)] 127)
   have HW3:Hid (Below w.heap.size w (w2.alloc (Obj.cells #[Value.int IntKind.i64 (q:Int),Value.int IntKind.i64 (i:Int)] 127))):=hba _
   have HZ1:Hid ((d.ms.getD x dp).1≠0):=hz1
   rw [hzf,hq,hi]
   clear HB hok hz hzf hz1 hq hi p1 p2 p3 p4 hq1 HW1 hba hx2 HW2
   obtain ⟨x0,x1,x2,x3,x4,x5,x6,x7,x8,x9,xl⟩:=hx3
   go_wp2_with fail
   refine H3.mono ?_
   clear H3
   rintro e w3 ⟨h3,hb3⟩
   have HF:Hid (∃ T u,e=.returned (.iface T u)∧RP (.returned (.iface T u)) w3):=by
    rcases h3 with ⟨g,v,T,u,rfl,hv,rfl⟩ | ⟨g,rfl⟩
    ·exact ⟨T,u,rfl,HYES.out _ T u w3 (.inr ⟨H4.out,.inr ⟨HZ1.out,.inl ⟨g,rfl⟩⟩⟩) hv (HW3.out.trans (hb3.mono HW3.out.size))⟩
    ·exact ⟨_,_,rfl,HYES.out none _ _ w3 (.inr ⟨H4.out,.inr ⟨HZ1.out,.inr ⟨g,rfl⟩⟩⟩) (.inr (.inr ⟨rfl,rfl⟩)) (HW3.out.trans (hb3.mono HW3.out.size))⟩
   obtain ⟨T,u,rfl,HF0⟩:=HF.out
   have HF2:Hid (RP (.returned (.iface T u)) w3):=HF0
   clear HF HF0 h3 hb3 HYES H4 HZ1 HW3
   go_wp2
   exact HF2.out
end Go.Proofs.YthngimdjjmhboaaGreatDoor
