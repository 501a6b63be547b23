/-
  What an address has, by the program: content. (Typed by wip/mkct3.py.)
-/
import Derived.Test.YthngimdjjmhboaaGreatDoorCtM
import Derived.Test.YthngimdjjmhboaaGreatDoorRwRdI
import Derived.Test.YthngimdjjmhboaaGreatDoorRp5
import Derived.Test.YthngimdjjmhboaaGreatDoorPkFI
import Derived.Test.YthngimdjjmhboaaGreatDoorMpGetI
import Derived.Test.YthngimdjjmhboaaGreatDoorDkI3
namespace Go.Proofs.YthngimdjjmhboaaGreatDoor
open Go.RowKit
set_option linter.unusedVariables false
set_option linter.unusedSimpArgs false

theorem OVB.capsC {w:World} {B:Nat} {a:Option Addr} {n c:Nat} {zs:List Int} (h:OVB w B (.slice a n c) zs):zs.length≤c∧c≤9223372036854775807:=by
 rcases h.1.2 with ⟨e,e2⟩ | ⟨g,cap,cur,e,-,-,h1,h2,-⟩
 ·simp at e
  omega
 ·simp at e
  unfold maxLen at h2
  omega
def CnV (o:Option (List Int)) (W:World) (v:Value):Prop:=
 (∃ (ls:List Int) (a:Option Addr) (c:Nat) (n:Int),o=some ls∧ls≠[]∧v=(.iface 122 (.agg #[.int .i64 n,.slice a ls.length c]))∧Byt W a ls∧ls.length≤c)∨(o=some []∧(v=.iface 173 (.agg #[])∨v=.iface 130 (.agg #[])))∨(o=none∧v=.iface 124 (.agg #[]))
def CtV (f:List Int→Option (List Int)) (d:DkV) (x:Nat) (w:World) (r:Ending) (w':World):Prop:=
 (∃ o v,CtR f d x o∧r=.returned v∧CnV o w' v)∧Below w.heap.size w w'

set_option maxRecDepth 20000 in
theorem contentOpen_any (n:Int) (a:Option Addr) (c:Nat) (ls:List Int) (w:World) (hb:Byt w a ls) (hc:ls.length≤c) :
  Calls Tryz.prog 95 #[.agg #[.int .i64 n,.slice a ls.length c]] w fun r w'=>(∃ v,r=.returned v∧CnV (some ls) w' v∧∃ T u,v=.iface T u)∧Below w.heap.size w w':=by
 have hw:Below w.heap.size w (w.alloc (Obj.cells #[Value.int IntKind.i64 n,Value.slice a ls.length c] 113)):=(Below.refl _ _).alloc (Nat.le_refl _) _
 have HB:Hid (Byt (w.alloc (Obj.cells #[Value.int IntKind.i64 n,Value.slice a ls.length c] 113)) a ls∧Below w.heap.size w (w.alloc (Obj.cells #[Value.int IntKind.i64 n,Value.slice a ls.length c] 113))):=⟨hb.below hw (Nat.le_refl _),hw⟩
 clear hb hw
 by_cases hl:ls=[]
 ·subst hl
  go_enter Tryz.func95,Tryz.ntmps95
  go_wp2
  go_ret
  exact ⟨⟨_,rfl,.inr (.inl ⟨rfl,.inl rfl⟩),_,_,rfl⟩,HB.out.2⟩
 ·have HL:Hid (ls≠[]∧ls.length≤c):=⟨hl,hc⟩
  have hl0:((ls.length:Int) == 0)=false:=by
   have:ls.length≠0:=fun h=>hl (List.length_eq_zero_iff.1 h)
   rw [beq_eq_false_iff_ne]
   omega
  clear hl hc
  have HF:Hid (CnV (some ls) (w.alloc (Obj.cells #[Value.int IntKind.i64 n,Value.slice a ls.length c] 113)) (.iface 122 (.agg #[.int .i64 n,.slice a ls.length c]))):=.inl ⟨ls,a,c,n,rfl,HL.out.1,rfl,HB.out.1,HL.out.2⟩
  clear HL
  go_enter Tryz.func95,Tryz.ntmps95
  go_wp2
  go_ret
  exact ⟨⟨_,rfl,HF.out,_,_,rfl⟩,HB.out.2⟩

set_option maxRecDepth 20000 in
set_option maxHeartbeats 8000000 in
theorem contentAt_any (f:List Int→Option (List Int)) (hf:DecF f) (d:DkV) (x q i:Nat) (w:World) (hb:DkI w d) (hG:DkG f d) (hd:DkF d) (hS:SentR w) (hq:(d.ms.getD x dp).1=(q:Int)) (hi:(d.ms.getD x dp).2=(i:Int)) (hqn:q<d.ss.length) (hi15:i≤15) (hx16:x<16) :
  Calls Tryz.prog 97 #[.agg #[Value.slice d.sa d.ss.length d.sc,Value.slice d.pa d.ps.length d.pc,Value.int IntKind.i64 d.E,Value.int IntKind.i64 d.O,Value.slice d.ma d.ms.length d.mc,Value.slice d.va d.vs.length d.vc,Value.slice d.ca d.cs.length d.cc,Value.int IntKind.i64 d.F,Value.int IntKind.i64 d.G,Value.slice d.oa d.os.length d.oc],.agg #[.int .i64 q,.int .i64 i],.int .i64 x] w fun r w'=>((CtG f d x∧∃ v T u,r=.returned v∧CnV (some (ctE d x).ls) w' v∧v=.iface T u)∨(¬CtG f d x∧r=.returned (.iface 124 (.agg #[]))))∧Below w.heap.size w w':=by
 have hRD:=rd_yes hG.raw hqn
 have HZ:Hid (ctZ d x=(rdE d.ss d.ps q).ls∧ctI d x=i):=by
  unfold ctZ ctI
  rw [hq,hi]
  exact ⟨rfl,rfl⟩
 generalize hRP:(fun (r:Ending) (w':World)=>((CtG f d x∧∃ v T u,r=.returned v∧CnV (some (ctE d x).ls) w' v∧v=.iface T u)∨(¬CtG f d x∧r=.returned (.iface 124 (.agg #[]))))∧Below w.heap.size w w')=RP
 have HYES:Hid (∀ (zs:List Int) (a:Option Addr) (c:Nat) (W:World) (l:List Int) (n:Int),(rdE d.ss d.ps q).ls=zs→PrG f zs→i<rpM zs→(itE zs (rpM zs) i).n=(x:Int)→(itE zs (rpM zs) i).ls=l→l≠[]→Byt W a l→l.length≤c→Below w.heap.size w W→RP (.returned (.iface 122 (.agg #[.int .i64 n,.slice a l.length c]))) W):=by
  rintro zs a c W l n rfl g1 g2 g3 rfl g4 g5 g6 g7
  have hz:=HZ.out
  have e1:ctE d x=itE (rdE d.ss d.ps q).ls (rpM (rdE d.ss d.ps q).ls) i:=by unfold ctE;rw [hz.1,hz.2]
  rw [←e1] at g3 g4 g5 g6 ⊢
  rw [←hRP]
  exact ⟨.inl ⟨⟨by rw [hz.1];exact g1,by rw [hz.1,hz.2];exact g2,g3,g4⟩,_,_,_,rfl,.inl ⟨_,a,c,n,rfl,g4,rfl,g5,g6⟩,rfl⟩,g7⟩
 have HNO:Hid (∀ (zs:List Int) (W:World),(rdE d.ss d.ps q).ls=zs→¬(PrG f zs∧i<rpM zs∧(itE zs (rpM zs) i).n=(x:Int)∧(itE zs (rpM zs) i).ls≠[])→Below w.heap.size w W→RP (.returned (.iface 124 (.agg #[]))) W):=by
  rintro zs W rfl g1 g2
  have hz:=HZ.out
  rw [←hRP]
  refine ⟨.inr ⟨fun h=>g1 ?_,rfl⟩,g2⟩
  obtain ⟨k1,k2,k3,k4⟩:=h
  unfold ctE at k3 k4
  rw [hz.1] at k1 k2 k3 k4
  rw [hz.2] at k2 k3 k4
  exact ⟨k1,k2,k3,k4⟩
 clear HZ hRP
 have HW0:Hid (Below w.heap.size w ((w.alloc (Obj.cells #[Value.slice d.sa d.ss.length d.sc,Value.slice d.pa d.ps.length d.pc,Value.int IntKind.i64 d.E,Value.int IntKind.i64 d.O,Value.slice d.ma d.ms.length d.mc,Value.slice d.va d.vs.length d.vc,Value.slice d.ca d.cs.length d.cc,Value.int IntKind.i64 d.F,Value.int IntKind.i64 d.G,Value.slice d.oa d.os.length d.oc] 49)).alloc (Obj.cells #[Value.int IntKind.i64 (q:Int),Value.int IntKind.i64 (i:Int)] 127))):=((Below.refl _ _).alloc (Nat.le_refl _) _).alloc (by simp) _
 have hx0:=(Dk10.new w d 49).alloc (Obj.cells #[Value.int IntKind.i64 (q:Int),Value.int IntKind.i64 (i:Int)] 127)
 have hP:=Box2.new (w.alloc (Obj.cells #[Value.slice d.sa d.ss.length d.sc,Value.slice d.pa d.ps.length d.pc,Value.int IntKind.i64 d.E,Value.int IntKind.i64 d.O,Value.slice d.ma d.ms.length d.mc,Value.slice d.va d.vs.length d.vc,Value.slice d.ca d.cs.length d.cc,Value.int IntKind.i64 d.F,Value.int IntKind.i64 d.G,Value.slice d.oa d.os.length d.oc] 49)) (.int .i64 (q:Int)) (.int .i64 (i:Int)) 127
 simp only [World.size_alloc] at hP
 have hlen:=rdE_len (rok_ok hG.raw) hqn
 have H1:=implRawRead_any d.sa d.pa d.sc d.pc d.ss d.ps q ((w.alloc (Obj.cells #[Value.slice d.sa d.ss.length d.sc,Value.slice d.pa d.ps.length d.pc,Value.int IntKind.i64 d.E,Value.int IntKind.i64 d.O,Value.slice d.ma d.ms.length d.mc,Value.slice d.va d.vs.length d.vc,Value.slice d.ca d.cs.length d.cc,Value.int IntKind.i64 d.F,Value.int IntKind.i64 d.G,Value.slice d.oa d.os.length d.oc] 49)).alloc (Obj.cells #[Value.int IntKind.i64 (q:Int),Value.int IntKind.i64 (i:Int)] 127)) (hb.raw.below HW0.out (Nat.le_refl _)) (by have:=hd.raw.n;omega) (by have:=hd.raw.m;omega) (fun s hs=>by have:=hd.raw.l s hs;omega) (fun s hs=>by have:=hd.raw.p s hs;omega)
 rw [hRD.1,hRD.2] at H1
 have HB:Hid (DecF f∧SentR w∧(rdE d.ss d.ps q).ls.length=256):=⟨hf,hS,hlen⟩
 clear hb hG hd hf hS hq hi hRD hlen
 go_enter Tryz.func97,Tryz.ntmps97
 go_wp2_with fail
 generalize ((w.alloc (Obj.cells #[Value.slice d.sa d.ss.length d.sc,Value.slice d.pa d.ps.length d.pc,Value.int IntKind.i64 d.E,Value.int IntKind.i64 d.O,Value.slice d.ma d.ms.length d.mc,Value.slice d.va d.vs.length d.vc,Value.slice d.ca d.cs.length d.cc,Value.int IntKind.i64 d.F,Value.int IntKind.i64 d.G,Value.slice d.oa d.os.length d.oc] 49)).alloc (Obj.cells #[Value.int IntKind.i64 (q:Int),Value.int IntKind.i64 (i:Int)] 127))=W0 at *
 refine H1.mono ?_
 clear H1
 rintro e w1 ⟨⟨v,rfl,hov⟩,hb1⟩
 obtain ⟨za,zc,hv⟩:=hov.form
 subst hv
 have HW1:Hid (Below w.heap.size w w1):=HW0.out.trans (hb1.mono HW0.out.size)
 have hP1:=hP.keep hb1 hP.lt
 have hx1:=hx0.step hb1
 have hzl:=HB.out.2.2
 have HZE:Hid ((rdE d.ss d.ps q).ls=(rdE d.ss d.ps q).ls∧True):=⟨rfl,trivial⟩
 have H2:=implPackRead_any f HB.out.1 za zc (rdE d.ss d.ps q).ls w1 hov.byt (by omega) hov.capsC.1 hov.capsC.2 (HB.out.2.1.below HW1.out)
 clear hov hb1 hP hx0 HW0 hzl
 generalize hzs:(rdE d.ss d.ps q).ls=zs at *
 have HZS:Hid ((rdE d.ss d.ps q).ls=zs∧True):=⟨hzs,trivial⟩
 clear hzs HZE
 go_wp2_with fail
 refine H2.mono ?_
 clear H2
 rintro e w2 ⟨h2,hb2⟩
 have HW3:Hid (Below w.heap.size w w2):=HW1.out.trans (hb2.mono HW1.out.size)
 obtain ⟨y0,y1,-,-,yl⟩:=hP1.keep hb2 hP1.lt
 have HB3:Hid (∀ o,Below w.heap.size w (w2.alloc o)):=fun o=>HW3.out.alloc HW3.out.size o
 have HB4:Hid (∀ o o',Below w.heap.size w ((w2.alloc o).alloc o')):=fun o o'=>(HB3.out o).alloc (HB3.out o).size o'
 clear hx1 hP1
 rcases h2 with ⟨hg,v,fs,rfl,hcp⟩ | ⟨hg,rfl⟩
 rotate_left 1
 ·have HN:Hid (∀ W,Below w.heap.size w W→RP (.returned (.iface 124 (.agg #[]))) W):=fun W=>HNO.out zs W rfl (fun h=>hg h.1)
  clear hg HNO HYES hb2
  go_wp2
  exact HN.out _ (HB3.out _)
 obtain ⟨va',vc',hv⟩:=hcp.row.form
 subst hv
 have hfl:fs.length=rpM zs:=by rw [len_ctE hcp.ct,itL_len]
 have HCP:Hid (ItI w2 va' fs∧fs.map El.ct=(itL zs (rpM zs) (rpM zs)).map El.ct∧fs.length=rpM zs):=⟨hcp.its,hcp.ct,hfl⟩
 have hfn:fs.length≤16:=by
  have:=hg.ok.n
  rw [itL_len] at this
  omega
 have HG:Hid (PrG f zs):=hg
 clear hcp hfl hg hb2
 by_cases hlt:i<fs.length
 rotate_left 1
 ·have HN:Hid (∀ W,Below w.heap.size w W→RP (.returned (.iface 124 (.agg #[]))) W):=fun W=>HNO.out zs W rfl (fun h=>hlt (by rw [HCP.out.2.2];exact h.2.1))
  have hge:((i:Int) ≥ (fs.length:Int)):=by omega
  clear HNO HYES HCP HG
  go_wp2
  exact HN.out _ (HB3.out _)
 obtain ⟨b2,off2,hva,hbb,e0,e1,hby,hrg⟩:=HCP.out.1.els.pen i hlt
 subst hva
 have HIT:Hid ((fs.getD i de).n=(itE zs (rpM zs) i).n∧(fs.getD i de).ls=(itE zs (rpM zs) i).ls∧i<rpM zs∧(fs.getD i de).ls.length≤(fs.getD i de).c):=by
  have h1:=ctE_get HCP.out.2.1 i
  rw [itL_getC _ _ (by rw [←HCP.out.2.2];exact hlt)] at h1
  exact ⟨congrArg Prod.fst h1,congrArg Prod.snd h1,by rw [←HCP.out.2.2];exact hlt,HCP.out.1.cap _ (getD_memE hlt)⟩
 generalize fs.getD i de=it at *
 obtain ⟨sn,sa',sc',sl⟩:=it
 dsimp only at *
 have HBY:Hid (∀ o o',Byt ((w2.alloc o).alloc o') sa' sl):=fun o o'=>hby.below (((Below.refl w2.heap.size w2).alloc (Nat.le_refl _) o).alloc (by simp) o') (Nat.le_refl _)
 have hge:¬((i:Int) ≥ (fs.length:Int)):=by omega
 have hlti:(i:Int)<(fs.length:Int):=by omega
 clear hby hrg HCP HW3
 generalize fs.length=n at *
 by_cases hsn:sn=(x:Int)
 rotate_left 1
 ·have HN:Hid (∀ W,Below w.heap.size w W→RP (.returned (.iface 124 (.agg #[]))) W):=fun W=>HNO.out zs W rfl (fun h=>hsn (by rw [HIT.out.1];exact h.2.2.1))
  have hne:(sn != (x:Int))=true:=by rw [bne_iff_ne];exact hsn
  clear HNO HYES HG HIT HBY hsn
  go_wp2
  exact HN.out _ (HB4.out _ _)
 have hne:(sn != (x:Int))=false:=by rw [hsn];simp
 have HSN:Hid (sn=(x:Int)∧True):=⟨hsn,trivial⟩
 clear hsn
 by_cases hsl:sl=[]
 ·have HN:Hid (∀ W,Below w.heap.size w W→RP (.returned (.iface 124 (.agg #[]))) W):=fun W=>HNO.out zs W rfl (fun h=>h.2.2.2 (by rw [←HIT.out.2.1];exact hsl))
  subst hsl
  clear HNO HYES HG HIT HBY
  go_wp2
  exact HN.out _ (HB4.out _ _)
 have hl0:((sl.length:Int) == 0)=false:=by
  have:sl.length≠0:=fun h=>hsl (List.length_eq_zero_iff.1 h)
  rw [beq_eq_false_iff_ne]
  omega
 have HY:Hid (∀ W,Byt W sa' sl→Below w.heap.size w W→RP (.returned (.iface 122 (.agg #[.int .i64 sn,.slice sa' sl.length sc']))) W):=fun W k1 k2=>HYES.out zs sa' sc' W sl sn rfl HG.out HIT.out.2.2.1 (by rw [←HIT.out.1];exact HSN.out.1) HIT.out.2.1.symm hsl k1 HIT.out.2.2.2 k2
 clear HNO HYES HG HIT HSN hsl
 go_wp2
 exact HY.out _ (HBY.out _ _) (HB4.out _ _)
end Go.Proofs.YthngimdjjmhboaaGreatDoor
