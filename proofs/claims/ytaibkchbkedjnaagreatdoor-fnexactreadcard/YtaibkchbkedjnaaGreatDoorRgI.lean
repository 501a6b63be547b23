import Derived.Test.YtaibkchbkedjnaaGreatDoorLbI
set_option maxRecDepth 20000
set_option maxHeartbeats 16000000
namespace Go.Proofs.YtaibkchbkedjnaaGreatDoor
open Go.RowKit
set_option linter.unusedVariables false
set_option linter.unusedSimpArgs false
structure RwC (d:DkV):Prop where
 s:∀ e ∈ d.ss,e.ls.length<=e.c/\e.c<=9223372036854775807
 p:∀ e ∈ d.ps,e.ls.length<=e.c/\e.c<=9223372036854775807
theorem RwC.rd {d:DkV} (h:RwC d) {q:Nat} (hq:q<d.ss.length):(rdE d.ss d.ps q).ls.length<=(rdE d.ss d.ps q).c/\(rdE d.ss d.ps q).c<=9223372036854775807:=by
 unfold rdE
 cases ha:zr d.ps q d.ps.length with
 | none=>simp only [Option.getD_none,Int.toNat_natCast];exact h.s _ (zf hq)
 | some e=>exact h.p e (z5g ha nl)
def CtJ (f:List Int->Option (List Int)) (d:DkV) (x:Nat) (w:World) (r:Ending) (w':World):Prop:=
 ((CtG f d x/\∃ a c,r=.returned (.tuple #[.slice a (ctE d x).ls.length c,.bool true])/\Byt w' a (ctE d x).ls/\(ctE d x).ls.length<=c)\/(¬CtG f d x/\r=.returned (.tuple #[.slice none 0 0,.bool false])))/\Below w.heap.size w w'
def CtB (f:List Int->Option (List Int)) (d:DkV) (x:Nat) (w:World) (r:Ending) (w':World):Prop:=
 (∃ o,CtR f d x o/\((∃ ls a c,o=some ls/\r=.returned (.tuple #[.slice a ls.length c,.bool true])/\Byt w' a ls/\ls.length<=c)\/(o=none/\r=.returned (.tuple #[.slice none 0 0,.bool false]))))/\Below w.heap.size w w'
theorem zep (f:List Int->Option (List Int)) (hf:zx f) (d:DkV) (x:Nat) (w:World) (hb:DkI w d) (hG:DkG f d) (hd:DkF d) (hc:RwC d) (hx:x<d.ms.length) :
  Calls Tryz.prog 110 #[.agg #[.slice d.sa d.ss.length d.sc,.slice d.pa d.ps.length d.pc,.int .i64 d.E,.int .i64 d.O,.slice d.ma d.ms.length d.mc,.slice d.va d.vs.length d.vc,.slice d.ca d.cs.length d.cc,.int .i64 d.F,.int .i64 d.G,.slice d.oa d.os.length d.oc],.int .i64 x] w (CtJ f d x w):=by
 obtain ⟨b,off,hma,hbl,hcc⟩:=hb.map.len_pos x hx;obtain ⟨c0,c1⟩:=hcc x hx;obtain ⟨p1,p2,p3,p4⟩:=zff hG.map x hx;have hq1:=hG.pm x hx;obtain ⟨q,hq⟩:=Int.eq_ofNat_of_zero_le p1;obtain ⟨i,hi⟩:=Int.eq_ofNat_of_zero_le p3;have hxn:=(z2v d.ms hG.map).2;have HZ:Hid (ctZ d x=(rdE d.ss d.ps q).ls/\ctI d x=i):=by
  unfold ctZ ctI;rw [hq,hi];exact ⟨rfl,rfl⟩
 rw [hq] at hq1 c0 p2;rw [hi] at c1 p4;have HB:Hid (RawI w d.sa d.pa d.ss d.ps/\zx f):=⟨hb.raw,hf⟩;have hqn:q<d.ss.length:=by omega
 have HRD:=hc.rd hqn;have HLN:=z8t (z7u hG.raw) hqn;have HFS:Hid (d.ss.length<=1000000/\d.ps.length<=1000000):=by
  obtain ⟨r1,r2,r3,-⟩:=z7u hG.raw;exact ⟨by omega,by omega⟩
 have HBY:Hid (Byt w (rdE d.ss d.ps q).a (rdE d.ss d.ps q).ls):=zf6 hb.raw hqn;clear hcc hq hi p1 p3 hb hG hd hc hf;have HYES:Hid (∀ (a:Option Addr) (c:Nat) (W:World) (l:List Int),PrG f (rdE d.ss d.ps q).ls->i<rpM (rdE d.ss d.ps q).ls->(itE (rdE d.ss d.ps q).ls (rpM (rdE d.ss d.ps q).ls) i).n=(x:Int)->(itE (rdE d.ss d.ps q).ls (rpM (rdE d.ss d.ps q).ls) i).ls=l->l≠[]->Byt W a l->l.length<=c->Bw w W->CtJ f d x w (.returned (.tuple #[.slice a l.length c,.bool true])) W):=by
  rintro a c W l g1 g2 g3 rfl g4 g5 g6 g7;have hz:=HZ.out;have e1:ctE d x=itE (rdE d.ss d.ps q).ls (rpM (rdE d.ss d.ps q).ls) i:=by unfold ctE;rw [hz.1,hz.2]
  rw [<-e1] at g3 g4 g5 g6 ⊢;exact ⟨.inl ⟨⟨by rw [hz.1];exact g1,by rw [hz.1,hz.2];exact g2,g3,g4⟩,a,c,rfl,g5,g6⟩,g7⟩
 have HNO:Hid (∀ (W:World),¬(PrG f (rdE d.ss d.ps q).ls/\i<rpM (rdE d.ss d.ps q).ls/\(itE (rdE d.ss d.ps q).ls (rpM (rdE d.ss d.ps q).ls) i).n=(x:Int)/\(itE (rdE d.ss d.ps q).ls (rpM (rdE d.ss d.ps q).ls) i).ls≠[])->Bw w W->CtJ f d x w (.returned (.tuple #[.slice none 0 0,.bool false])) W):=by
  intro W g1 g2
  have hz:=HZ.out;refine ⟨.inr ⟨fun h=>g1 ?_,rfl⟩,g2⟩
  obtain ⟨k1,k2,k3,k4⟩:=h;unfold ctE at k3 k4;rw [hz.1] at k1 k2 k3 k4;rw [hz.2] at k2 k3 k4;exact ⟨k1,k2,k3,k4⟩
 clear HZ;generalize CtJ f d x w=RP at *;obtain ⟨sa,sc,ss,pa,pc,ps,E,O,ma,mc,ms,va,vc,vs,ca,cc,cs,F,G,oa,oc,os⟩:=d
 dsimp only at *
 subst hma;have HW0:Hid (Bw w (w.alloc (Obj.cells #[.slice sa ss.length sc,.slice pa ps.length pc,.int .i64 E,.int .i64 O,.slice (some ⟨b,off,none⟩) ms.length mc,.slice va vs.length vc,.slice ca cs.length cc,.int .i64 F,.int .i64 G,.slice oa os.length oc] 49))):=ba;have hY:=Dk10.new w ⟨sa,sc,ss,pa,pc,ps,E,O,(some ⟨b,off,none⟩),mc,ms,va,vc,vs,ca,cc,cs,F,G,oa,oc,os⟩ 49
 dsimp only at hY
 have hYa:=hY.alloc (Obj.cells #[.int .i64 (q:Int),.int .i64 (i:Int)] 127);have HW1:Hid (Bw w ((w.alloc (Obj.cells #[.slice sa ss.length sc,.slice pa ps.length pc,.int .i64 E,.int .i64 O,.slice (some ⟨b,off,none⟩) ms.length mc,.slice va vs.length vc,.slice ca cs.length cc,.int .i64 F,.int .i64 G,.slice oa os.length oc] 49)).alloc (Obj.cells #[.int .i64 (q:Int),.int .i64 (i:Int)] 127))):=HW0.out.alloc (by simp) _
 have hP2:=Box2.new (w.alloc (Obj.cells #[.slice sa ss.length sc,.slice pa ps.length pc,.int .i64 E,.int .i64 O,.slice (some ⟨b,off,none⟩) ms.length mc,.slice va vs.length vc,.slice ca cs.length cc,.int .i64 F,.int .i64 G,.slice oa os.length oc] 49)) (.int .i64 (q:Int)) (.int .i64 (i:Int)) 127;have H1:=zg2 sa pa sc pc ss ps q ((w.alloc (Obj.cells #[.slice sa ss.length sc,.slice pa ps.length pc,.int .i64 E,.int .i64 O,.slice (some ⟨b,off,none⟩) ms.length mc,.slice va vs.length vc,.slice ca cs.length cc,.int .i64 F,.int .i64 G,.slice oa os.length oc] 49)).alloc (Obj.cells #[.int .i64 (q:Int),.int .i64 (i:Int)] 127)) (HB.out.1.below HW1.out nl) hqn HFS.out.1 HFS.out.2
 have d0:=ze (Obj.cells #[.slice sa ss.length sc,.slice pa ps.length pc,.int .i64 E,.int .i64 O,.slice (some ⟨b,off,none⟩) ms.length mc,.slice va vs.length vc,.slice ca cs.length cc,.int .i64 F,.int .i64 G,.slice oa os.length oc] 49) hbl c0;have d1:=ze (Obj.cells #[.slice sa ss.length sc,.slice pa ps.length pc,.int .i64 E,.int .i64 O,.slice (some ⟨b,off,none⟩) ms.length mc,.slice va vs.length vc,.slice ca cs.length cc,.int .i64 F,.int .i64 G,.slice oa os.length oc] 49) hbl c1
 clear c0 c1
 go_enter Tryz.func110,Tryz.ntmps110
 go_wp2_with fail
 generalize (w.alloc (Obj.cells #[.slice sa ss.length sc,.slice pa ps.length pc,.int .i64 E,.int .i64 O,.slice (some ⟨b,off,none⟩) ms.length mc,.slice va vs.length vc,.slice ca cs.length cc,.int .i64 F,.int .i64 G,.slice oa os.length oc] 49)).alloc (Obj.cells #[.int .i64 (q:Int),.int .i64 (i:Int)] 127)=W1 at *;have HPB:Hid (Box2 W1 (w.heap.size+1) (.int .i64 (q:Int)) (.int .i64 (i:Int))):=(by simpa using hP2:Box2 W1 (w.heap.size+1) (.int .i64 (q:Int)) (.int .i64 (i:Int)))
 refine H1.mono ?_;clear H1 hP2 hY hYa d0 d1 HW0 HFS;generalize rdE ss ps (q:Int)=ee at *;obtain ⟨en,ea,ec,zs⟩:=ee
 dsimp only at *
 rintro e w1 ⟨rfl,hb1⟩;have HW2:Hid (Bw w w1):=HW1.out.trans (hb1.mono HW1.out.size);have HP1:Hid (Box2 w1 (w.heap.size+1) (.int .i64 (q:Int)) (.int .i64 (i:Int))):=HPB.out.keep hb1 HPB.out.lt;have H2:=z6o f HB.out.2 ea ec zs w1 (HBY.out.below HW2.out nl) (by omega) HRD.1 HRD.2
 clear hb1 HPB HW1 HBY HB HRD HLN;go_wp2_with fail
 refine H2.mono ?_;clear H2;rintro e w2 ⟨h2,hb2⟩;have HW3:Hid (Bw w w2):=HW2.out.trans (hb2.mono HW2.out.size);obtain ⟨y0,y1,-,-,yl⟩:=HP1.out.keep hb2 HP1.out.lt;rcases h2 with ⟨hg,v,fs,rfl,hcp⟩ | ⟨hg,rfl⟩
 rotate_left
 ·have HN:Hid (∀ W,Bw w W->RP (.returned (.tuple #[.slice none 0 0,.bool false])) W):=fun W=>HNO.out W (fun h=>hg h.1)
  have HB3:Hid (∀ o,Bw w (w2.alloc o)):=fun o=>HW3.out.alloc HW3.out.size o
  clear hg HNO HYES HW2 HP1 hb2;go_wp2;exact HN.out _ (HB3.out _)
 obtain ⟨va',vc',hv⟩:=hcp.row.form;subst hv;have hfl:fs.length=rpM zs:=by rw [zz hcp.ct,z0j]
 have HCP:Hid (ItI w2 va' fs/\fs.map El.ct=(itL zs (rpM zs) (rpM zs)).map El.ct/\fs.length=rpM zs):=⟨hcp.its,hcp.ct,hfl⟩;have HB3:Hid (∀ o,Bw w (w2.alloc o)):=fun o=>HW3.out.alloc HW3.out.size o
 have hfn:fs.length<=16:=by
  have:=hg.ok.n;rw [z0j] at this
  omega
 have HG:Hid (PrG f zs):=hg;clear hcp hfl hg HW2 HP1 hb2
 by_cases hlt:i<fs.length
 rotate_left
 ·have HN:Hid (∀ W,Bw w W->RP (.returned (.tuple #[.slice none 0 0,.bool false])) W):=fun W=>HNO.out W (fun h=>hlt (by rw [HCP.out.2.2];exact h.2.1))
  have hge:((i:Int)≥(fs.length:Int)):=by omega
  clear HNO HYES HCP HG;go_wp2;exact HN.out _ (HB3.out _)
 obtain ⟨b2,off2,hva,hbb,e0,e1,hby,hrg⟩:=HCP.out.1.els.pen i hlt;subst hva;have HIT:Hid ((fs.getD i de).n=(itE zs (rpM zs) i).n/\(fs.getD i de).ls=(itE zs (rpM zs) i).ls/\i<rpM zs/\(fs.getD i de).ls.length<=(fs.getD i de).c):=by
  have h1:=z0k HCP.out.2.1 i;rw [z47 _ _ (by rw [<-HCP.out.2.2];exact hlt)] at h1
  exact ⟨congrArg Prod.fst h1,congrArg Prod.snd h1,by rw [<-HCP.out.2.2];exact hlt,HCP.out.1.cap _ (zf hlt)⟩
 generalize fs.getD i de=it at *;obtain ⟨sn,sa',sc',sl⟩:=it
 dsimp only at *
 have HBY:Hid (∀ o,Byt (w2.alloc o) sa' sl):=fun o=>hby.below ((Below.refl w2.heap.size w2).alloc nl o) nl
 have hge:¬((i:Int)≥(fs.length:Int)):=by omega
 have hlti:(i:Int)<(fs.length:Int):=by omega
 clear hby hrg HCP HW3;generalize fs.length=n at *
 by_cases hsn:sn=(x:Int)
 rotate_left
 ·have HN:Hid (∀ W,Bw w W->RP (.returned (.tuple #[.slice none 0 0,.bool false])) W):=fun W=>HNO.out W (fun h=>hsn (by rw [HIT.out.1];exact h.2.2.1))
  have hne:(sn != (x:Int))=true:=by rw [bne_iff_ne];exact hsn
  clear HNO HYES HG HIT HBY hsn;go_wp2;exact HN.out _ (HB3.out _)
 have hne:(sn != (x:Int))=false:=by rw [hsn];simp
 have HSN:Hid (sn=(x:Int)/\True):=⟨hsn,trivial⟩;clear hsn
 by_cases hsl:sl=[]
 ·have HN:Hid (∀ W,Bw w W->RP (.returned (.tuple #[.slice none 0 0,.bool false])) W):=fun W=>HNO.out W (fun h=>h.2.2.2 (by rw [<-HIT.out.2.1];exact hsl))
  subst hsl;clear HNO HYES HG HIT HBY;go_wp2;exact HN.out _ (HB3.out _)
 have hl0:((sl.length:Int) == 0)=false:=by
  have:sl.length≠0:=fun h=>hsl (List.length_eq_zero_iff.1 h)
  rw [beq_eq_false_iff_ne]
  omega
 have HY:Hid (∀ W,Byt W sa' sl->Bw w W->RP (.returned (.tuple #[.slice sa' sl.length sc',.bool true])) W):=fun W k1 k2=>HYES.out sa' sc' W sl HG.out HIT.out.2.2.1 (by rw [<-HIT.out.1];exact HSN.out.1) HIT.out.2.1.symm hsl k1 HIT.out.2.2.2 k2
 clear HNO HYES HG HIT HSN hsl;go_wp2;exact HY.out _ (HBY.out _) (HB3.out _)
theorem zea (f:List Int->Option (List Int)) (hf:zx f) (d:DkV) (x:Nat) (w:World) (hb:DkI w d) (hi:ItI w d.oa d.os) (hG:DkG f d) (hd:DkF d) (hc:RwC d) (hx:x<d.ms.length) :
  Calls Tryz.prog 68 #[.agg #[.slice d.sa d.ss.length d.sc,.slice d.pa d.ps.length d.pc,.int .i64 d.E,.int .i64 d.O,.slice d.ma d.ms.length d.mc,.slice d.va d.vs.length d.vc,.slice d.ca d.cs.length d.cc,.int .i64 d.F,.int .i64 d.G,.slice d.oa d.os.length d.oc],.int .i64 x] w (CtB f d x w):=by
 have HW0:Hid (Bw w (w.alloc (Obj.cells #[.slice d.sa d.ss.length d.sc,.slice d.pa d.ps.length d.pc,.int .i64 d.E,.int .i64 d.O,.slice d.ma d.ms.length d.mc,.slice d.va d.vs.length d.vc,.slice d.ca d.cs.length d.cc,.int .i64 d.F,.int .i64 d.G,.slice d.oa d.os.length d.oc] 49))):=ba;have hx0:=Dk10.new w d 49;have H1:=z7y d.F d.G x d.oa d.oc d.os (w.alloc (Obj.cells #[.slice d.sa d.ss.length d.sc,.slice d.pa d.ps.length d.pc,.int .i64 d.E,.int .i64 d.O,.slice d.ma d.ms.length d.mc,.slice d.va d.vs.length d.vc,.slice d.ca d.cs.length d.cc,.int .i64 d.F,.int .i64 d.G,.slice d.oa d.os.length d.oc] 49)) (hb.opn.below HW0.out nl) hd.opn.n
 have HB:Hid (DkI w d/\ItI w d.oa d.os/\DkG f d/\DkF d/\RwC d/\zx f):=⟨hb,hi,hG,hd,hc,hf⟩;have hxn:=(z2v d.ms hG.map).2;have hkn:=hG.op.n;clear hb hi hG hd hc hf;have HYES:Hid (∀ (ls:List Int) (a:Option Addr) (c:Nat) (W:World),CtR f d x (some ls)->Byt W a ls->ls.length<=c->Bw w W->CtB f d x w (.returned (.tuple #[.slice a ls.length c,.bool true])) W):=fun ls a c W h1 h2 h3 h4=>⟨⟨_,h1,.inl ⟨ls,a,c,rfl,rfl,h2,h3⟩⟩,h4⟩
 have HJ:Hid ((∀ j,j<d.os.length->(d.os.getD j de).n≠(x:Int))->(d.ms.getD x dp).1≠0->∀ (r:Ending) (W W':World),Bw w W->CtJ f d x W r W'->(∃ u v,r=.returned (.tuple #[u,v]))/\CtB f d x w r W'):=by
  rintro g1 g2 r W W' hW ⟨⟨h1,a,c,rfl,h2,h3⟩ | ⟨h1,rfl⟩,h4⟩
  ·exact ⟨⟨_,_,rfl⟩,⟨_,.inr ⟨g1,.inr ⟨g2,.inl ⟨h1,rfl⟩⟩⟩,.inl ⟨_,a,c,rfl,rfl,h2,h3⟩⟩,hW.trans (h4.mono hW.size)⟩
  ·exact ⟨⟨_,_,rfl⟩,⟨_,.inr ⟨g1,.inr ⟨g2,.inr ⟨h1,rfl⟩⟩⟩,.inr ⟨rfl,rfl⟩⟩,hW.trans (h4.mono hW.size)⟩
 generalize CtB f d x w=RP at *
 go_enter Tryz.func68,Tryz.ntmps68
 go_wp2_with fail
 generalize (w.alloc (Obj.cells #[.slice d.sa d.ss.length d.sc,.slice d.pa d.ps.length d.pc,.int .i64 d.E,.int .i64 d.O,.slice d.ma d.ms.length d.mc,.slice d.va d.vs.length d.vc,.slice d.ca d.cs.length d.cc,.int .i64 d.F,.int .i64 d.G,.slice d.oa d.os.length d.oc] 49))=W0 at *;refine H1.mono ?_;clear H1;rintro e w1 ⟨⟨z,rfl,hz⟩,hb1⟩;have HW1:Hid (Bw w w1):=HW0.out.trans (hb1.mono HW0.out.size);have hx1:=hx0.step hb1
 clear hb1 hx0 HW0;rcases hz with ⟨k,h1,rfl,h3,h4⟩ | ⟨rfl,h4⟩
 ·obtain ⟨b,off,hoa,hbl,c0,c1,hby,hrg⟩:=(HB.out.1.opn.below HW1.out nl).pen k h1
  obtain ⟨x0,x1,x2,x3,x4,x5,x6,x7,x8,x9,xl⟩:=hx1;rw [hoa] at x9;have HF:Hid (RP (.returned (.tuple #[.slice (d.os.getD k de).a (d.os.getD k de).ls.length (d.os.getD k de).c,.bool true])) w1):=HYES.out _ _ _ w1 (.inl ⟨k,h1,h3,h4,rfl⟩) hby (HB.out.2.1.cap _ (zf h1)) HW1.out;clear HYES HJ hby hrg h3 h4 HB hoa;have hk0:(0:Int)<=(k:Int)/\(k:Int)<(d.os.length:Int):=by omega
  generalize d.os.getD k de=it at *;generalize d.os.length=n at *;go_wp2;exact HF.out
 ·obtain ⟨b,off,hma,hbl,hcc⟩:=(HB.out.1.map.below HW1.out nl).len_pos x hx
  obtain ⟨c0,c1⟩:=hcc x hx;have hx1':=hx1;obtain ⟨x0,x1,x2,x3,x4,x5,x6,x7,x8,x9,xl⟩:=hx1;rw [hma] at x4;have H4:Hid (∀ j,j<d.os.length->(d.os.getD j de).n≠(x:Int)):=h4;clear h4 hcc
  by_cases hz:(d.ms.getD x dp).1=0
  ·have HF:Hid (RP (.returned (.tuple #[.slice none 0 0,.bool true])) w1):=HYES.out [] none 0 w1 (.inr ⟨H4.out,.inl ⟨hz,rfl⟩⟩) ⟨fun z hz=>by simp at hz,fun h=>by simp at h⟩ nl HW1.out
   rw [hz] at c0;clear HYES HJ HB hma hz H4 hx1';generalize d.ms.length=n at *;have hxi:(0:Int)<=(x:Int)/\(x:Int)<(n:Int):=by omega
   go_wp2
   exact HF.out
  ·have hzb:((d.ms.getD x dp).1 == 0)=false:=by rw [beq_eq_false_iff_ne];exact hz
   have HJ2:Hid (∀ (r:Ending) (W':World),CtJ f d x w1 r W'->(∃ u v,r=.returned (.tuple #[u,v]))/\RP r W'):=fun r W' h=>HJ.out H4.out hz r w1 W' HW1.out h
   have H2:=zep f HB.out.2.2.2.2.2 d x w1 (HB.out.1.below HW1.out nl) HB.out.2.2.1 HB.out.2.2.2.1 HB.out.2.2.2.2.1 hx;have hxi:(0:Int)<=(x:Int)/\(x:Int)<(d.ms.length:Int):=by omega
   have y4:=hx1'.c4;clear HYES HJ HB hz H4 hx1';rw [hma] at H2;clear hma y4;generalize (d.ms.getD x dp).1=mq at *;generalize d.ms.length=n at *;go_wp2_with fail
   refine H2.mono ?_;clear H2
   intro e w2 hj
   obtain ⟨⟨u,v,rfl⟩,HF0⟩:=HJ2.out e w2 hj;have HF:Hid (RP (.returned (.tuple #[u,v])) w2):=HF0;clear hj HF0 HJ2;go_wp2;exact HF.out
theorem Mine.capX {w:World} {B U:Nat} {a:Option Addr} {c:Nat} {zs:List Int} (h:Mine w B U a c zs):zs.length<=c/\c<=9223372036854775807:=by
 rcases h with ⟨-,rfl,rfl⟩ | ⟨g,-,-,-,h⟩
 ·simp
 ·rcases h.1.2 with ⟨e,_⟩ | ⟨g',cap',cur,e,-,-,r,r2,-⟩
  ·simp at e
  ·simp at e
   unfold maxLen at r2
   omega
theorem DkO.rwc {W:World} {B B1 B2 B3 B4 Z:Nat} {d:DkV} (h:DkO W B B1 B2 B3 B4 Z d):RwC d:=
 ⟨fun e he=>(h.raw.o.deep.mine e (List.mem_append_left _ he)).capX,fun e he=>(h.raw.o.deep.mine e (List.mem_append_right _ he)).capX⟩
def RgK (f:List Int->Option (List Int)) (d:DkV) (k:Nat) (bs:List Int) (c:Int):Prop:=
 ∃ o,CtR f d k o/\((o=none/\bs=[]/\c=4)\/(o=some []/\bs=List.replicate 64 0/\c=0)\/(∃ ls,o=some ls/\ls≠[]/\f ls=some bs/\bs.length=64/\c=0))
def RgR (f:List Int->Option (List Int)) (d:DkV) (x:Int) (bs:List Int) (c:Int):Prop:=
 (DkG f d/\((∃ k:Nat,x=k/\k<d.ms.length/\RgK f d k bs c)\/(¬(0<=x/\x<(d.ms.length:Int))/\bs=[]/\c=2)))\/(¬DkG f d/\bs=[]/\c=1)
theorem RgK.same {f:List Int->Option (List Int)} {e d:DkV} {k:Nat} {bs:List Int} {c:Int} (hs:DkS e d) (h:RgK f e k bs c):RgK f d k bs c:=by
 obtain ⟨o,h1,h2⟩:=h;exact ⟨o,h1.same hs,h2⟩
theorem RgK.uniq {f:List Int->Option (List Int)} {d:DkV} {k:Nat} {bs cs:List Int} {c e:Int} (h:RgK f d k bs c) (h':RgK f d k cs e):bs=cs/\c=e:=by
 obtain ⟨o,h1,h2⟩:=h;obtain ⟨o',h1',h2'⟩:=h';obtain rfl:=h1.uniq h1';rcases h2 with ⟨rfl,h3,h4⟩ | ⟨rfl,h3,h4⟩ | ⟨ls,rfl,h5,h3,h6,h4⟩ <;> rcases h2' with ⟨q,k3,k4⟩ | ⟨q,k3,k4⟩ | ⟨ms,q,k5,k3,k6,k4⟩ <;> simp_all
theorem RgR.same {f:List Int->Option (List Int)} {e d:DkV} {x:Int} {bs:List Int} {c:Int} (hs:DkS e d) (h:RgR f e x bs c):RgR f d x bs c:=by
 rcases h with ⟨h1,⟨k,rfl,h2,h3⟩ | ⟨h2,h3⟩⟩ | ⟨h1,h2⟩
 ·exact .inl ⟨h1.same hs,.inl ⟨k,rfl,by rw [<-hs.ms];exact h2,h3.same hs⟩⟩
 ·exact .inl ⟨h1.same hs,.inr ⟨by rw [<-hs.ms];exact h2,h3⟩⟩
 ·exact .inr ⟨fun h=>h1 (h.same hs.symm),h2⟩
theorem RgR.uniq {f:List Int->Option (List Int)} {d:DkV} {x:Int} {bs cs:List Int} {c e:Int} (h:RgR f d x bs c) (h':RgR f d x cs e):bs=cs/\c=e:=by
 rcases h with ⟨h1,⟨k,hk,h2,h3⟩ | ⟨h2,h3,h4⟩⟩ | ⟨h1,h3,h4⟩ <;> rcases h' with ⟨k1,⟨j,hj,k2,k3⟩ | ⟨k2,k3,k4⟩⟩ | ⟨k1,k3,k4⟩
 ·obtain rfl:k=j:=by omega
  exact h3.uniq k3
 ·exact absurd ⟨by omega,by omega⟩ k2
 ·exact absurd h1 k1
 ·exact absurd ⟨by omega,by omega⟩ h2
 ·exact ⟨by rw [h3,k3],by rw [h4,k4]⟩
 ·exact absurd h1 k1
 ·exact absurd k1 h1
 ·exact absurd k1 h1
 ·exact ⟨by rw [h3,k3],by rw [h4,k4]⟩
theorem RgK.len {f:List Int->Option (List Int)} {d:DkV} {k:Nat} {bs:List Int} {c:Int} (h:RgK f d k bs c):bs.length<=64:=by
 obtain ⟨o,-,⟨-,rfl,-⟩ | ⟨-,rfl,-⟩ | ⟨ls,-,-,-,h,-⟩⟩:=h
 ·simp
 ·simp
 ·omega
theorem RgR.len {f:List Int->Option (List Int)} {d:DkV} {x:Int} {bs:List Int} {c:Int} (h:RgR f d x bs c):bs.length<=64:=by
 rcases h with ⟨-,⟨k,-,-,h⟩ | ⟨-,rfl,-⟩⟩ | ⟨-,rfl,-⟩
 ·exact h.len
 ·simp
 ·simp
def RgA (R:List Int->Int->Prop) (w:World) (r:Ending) (w':World):Prop:=(∃ v bs c,r=.returned (.tuple #[v,.int .i64 c])/\OVB w' w.heap.size v bs/\R bs c)/\Below w.heap.size w w'
theorem ze2 (f:List Int->Option (List Int)) (hf:zx f) (d:DkV) (x:Nat) (w:World) (hb:DkI w d) (hi:ItI w d.oa d.os) (hG:DkG f d) (hd:DkF d) (hc:RwC d) (hx:x<d.ms.length) :
  Calls Tryz.prog 45 #[.agg #[.slice d.sa d.ss.length d.sc,.slice d.pa d.ps.length d.pc,.int .i64 d.E,.int .i64 d.O,.slice d.ma d.ms.length d.mc,.slice d.va d.vs.length d.vc,.slice d.ca d.cs.length d.cc,.int .i64 d.F,.int .i64 d.G,.slice d.oa d.os.length d.oc],.int .i64 x] w (RgA (RgK f d x) w):=by
 have HW0:Hid (Bw w (w.alloc (Obj.cells #[.slice d.sa d.ss.length d.sc,.slice d.pa d.ps.length d.pc,.int .i64 d.E,.int .i64 d.O,.slice d.ma d.ms.length d.mc,.slice d.va d.vs.length d.vc,.slice d.ca d.cs.length d.cc,.int .i64 d.F,.int .i64 d.G,.slice d.oa d.os.length d.oc] 49))):=ba;have H1:=zea f hf d x (w.alloc (Obj.cells #[.slice d.sa d.ss.length d.sc,.slice d.pa d.ps.length d.pc,.int .i64 d.E,.int .i64 d.O,.slice d.ma d.ms.length d.mc,.slice d.va d.vs.length d.vc,.slice d.ca d.cs.length d.cc,.int .i64 d.F,.int .i64 d.G,.slice d.oa d.os.length d.oc] 49)) (hb.below HW0.out nl) (hi.below HW0.out nl) hG hd hc hx
 have HB:Hid (DkG f d/\zx f):=⟨hG,hf⟩;have HAN:Hid (∀ (v:Value) (bs:List Int) (c:Int) (W:World),OVB W w.heap.size v bs->RgK f d x bs c->Bw w W->RgA (RgK f d x) w (.returned (.tuple #[v,.int .i64 c])) W):=fun v bs c W h1 h2 h3=>⟨⟨v,bs,c,rfl,h1,h2⟩,h3⟩
 clear hb hi hG hd hc hf hx;generalize RgA (RgK f d x) w=RP at *
 go_enter Tryz.func45,Tryz.ntmps45
 go_wp2_with fail
 generalize (w.alloc (Obj.cells #[.slice d.sa d.ss.length d.sc,.slice d.pa d.ps.length d.pc,.int .i64 d.E,.int .i64 d.O,.slice d.ma d.ms.length d.mc,.slice d.va d.vs.length d.vc,.slice d.ca d.cs.length d.cc,.int .i64 d.F,.int .i64 d.G,.slice d.oa d.os.length d.oc] 49))=W0 at *;refine H1.mono ?_;clear H1;rintro e w1 ⟨⟨o,hct,ho⟩,hb1⟩;have HW1:Hid (Bw w w1):=HW0.out.trans (hb1.mono HW0.out.size);clear hb1 HW0
 rcases ho with ⟨ls,a,c,rfl,rfl,hby,hlc⟩ | ⟨rfl,rfl⟩
 rotate_left
 ·have HF:Hid (RP (.returned (.tuple #[.slice none 0 0,.int .i64 4])) w1):=HAN.out _ [] 4 w1 (OVB.nil _ _) ⟨none,hct,.inl ⟨rfl,rfl,rfl⟩⟩ HW1.out
  clear HAN HB hct;go_wp2;exact HF.out
 by_cases hl:ls=[]
 ·subst hl
  obtain ⟨w2,hmk,ho2,hb2⟩:=z32 w1 64 (by omega) (List.replicate 64 0) rfl
  have hmk2:Sem.run Tryz.prog (Instr.makeSlice 36 (.int .i64 64) (.int .i64 64)) w1=.ok (.slice (some ⟨w1.heap.size,0,none⟩) 64 64) w2:=hmk;have hov:OVB w2 w1.heap.size (.slice (some ⟨w1.heap.size,0,none⟩) (List.replicate 64 (0:Int)).length 64) (List.replicate 64 0):=ho2;rw [List.length_replicate] at hov;have HF:Hid (RP (.returned (.tuple #[.slice (some ⟨w1.heap.size,0,none⟩) 64 64,.int .i64 0])) w2):=HAN.out _ (List.replicate 64 0) 0 w2 (hov.weak HW1.out.size) ⟨_,hct,.inr (.inl ⟨rfl,rfl,rfl⟩)⟩ (HW1.out.trans (hb2.mono HW1.out.size))
  clear HAN HB hct hby hlc ho2 hb2 hov hmk;go_wp2;exact HF.out
 ·have hl0:((ls.length:Int) == 0)=false:=by
   have:ls.length≠0:=fun h=>hl (List.length_eq_zero_iff.1 h)
   rw [beq_eq_false_iff_ne]
   omega
  have hsm:=(hct.blob HB.out.1).resolve_left hl;obtain ⟨bs,hbs⟩:=Option.isSome_iff_exists.1 hsm;have hsh:=hct.short HB.out.1
  simp only [Option.getD_some] at hsh
  have H2:=(HB.out.2 ls (by omega) hby.1).2.1 a c w1 hlc hby
  have h64:=((HB.out.2 ls (by omega) hby.1).1 bs hbs).1
  have HK:Hid (RgK f d x bs 0):=⟨_,hct,.inr (.inr ⟨ls,rfl,hl,hbs,h64,rfl⟩)⟩;have HBS:Hid (f ls=some bs/\True):=⟨hbs,trivial⟩;clear hct hsm hbs hl hby HB h64;go_wp2_with fail
  refine H2.mono ?_;clear H2;rintro e w2 ⟨hb2,⟨bs',v,h1,h2,rfl⟩ | ⟨h1,-⟩⟩
  ·obtain rfl:bs'=bs:=by
    have:=HBS.out.1;rw [h1] at this;exact Option.some.inj this
   obtain ⟨va,vc,rfl⟩:=h2.form;have HF:Hid (RP (.returned (.tuple #[.slice va bs'.length vc,.int .i64 0])) w2):=HAN.out _ bs' 0 w2 (h2.weak HW1.out.size) HK.out (HW1.out.trans (hb2.mono HW1.out.size));clear HAN h1 h2 hb2 HK HBS;go_wp2;exact HF.out
  ·have:=HBS.out.1
   rw [h1] at this
   cases this
theorem zbp (f:List Int->Option (List Int)) (hf:zx f) (d:DkV) (x:Int) (w:World) (hb:DkI w d) (hi:ItI w d.oa d.os) (hd:DkF d) (hc:RwC d) (hcc:d.cs.length<=d.cc) :
  Calls Tryz.prog 11 #[.agg #[.slice d.sa d.ss.length d.sc,.slice d.pa d.ps.length d.pc,.int .i64 d.E,.int .i64 d.O,.slice d.ma d.ms.length d.mc,.slice d.va d.vs.length d.vc,.slice d.ca d.cs.length d.cc,.int .i64 d.F,.int .i64 d.G,.slice d.oa d.os.length d.oc],.int .i64 x] w (RgA (RgR f d x) w):=by
 have HW0:Hid (Bw w (w.alloc (Obj.cells #[.slice d.sa d.ss.length d.sc,.slice d.pa d.ps.length d.pc,.int .i64 d.E,.int .i64 d.O,.slice d.ma d.ms.length d.mc,.slice d.va d.vs.length d.vc,.slice d.ca d.cs.length d.cc,.int .i64 d.F,.int .i64 d.G,.slice d.oa d.os.length d.oc] 49))):=ba;have hx0:=Dk10.new w d 49;have H1:=z8w f hf d _ (hb.below HW0.out nl) (hi.below HW0.out nl) hd hcc;have HB:Hid (DkI w d/\ItI w d.oa d.os/\DkF d/\zx f/\RwC d):=⟨hb,hi,hd,hf,hc⟩
 have HAN:Hid (∀ (v:Value) (bs:List Int) (c:Int) (W:World),OVB W w.heap.size v bs->RgR f d x bs c->Bw w W->RgA (RgR f d x) w (.returned (.tuple #[v,.int .i64 c])) W):=fun v bs c W h1 h2 h3=>⟨⟨v,bs,c,rfl,h1,h2⟩,h3⟩
 clear hb hi hd hf hc hcc;generalize RgA (RgR f d x) w=RP at *
 go_enter Tryz.func11,Tryz.ntmps11
 go_wp2_with fail
 generalize (w.alloc (Obj.cells #[.slice d.sa d.ss.length d.sc,.slice d.pa d.ps.length d.pc,.int .i64 d.E,.int .i64 d.O,.slice d.ma d.ms.length d.mc,.slice d.va d.vs.length d.vc,.slice d.ca d.cs.length d.cc,.int .i64 d.F,.int .i64 d.G,.slice d.oa d.os.length d.oc] 49))=W0 at *;refine H1.mono ?_;clear H1;rintro e w1 ⟨h1,hb1⟩;have hx1:=hx0.step hb1;have HW1:Hid (Bw w w1):=HW0.out.trans (hb1.mono HW0.out.size)
 clear hb1 hx0 HW0;rcases h1 with ⟨hG,rfl⟩ | ⟨hG,rfl⟩
 rotate_left
 ·have HF:Hid (RP (.returned (.tuple #[.slice none 0 0,.int .i64 1])) w1):=HAN.out _ [] 1 _ (OVB.nil _ _) (.inr ⟨hG,rfl,rfl⟩) HW1.out
  clear hG HB HAN;go_wp2;exact HF.out
 have HG:Hid (DkG f d):=hG;have hL:=(z2v d.ms hG.map).2;clear hG;obtain ⟨x0,x1,x2,x3,x4,x5,x6,x7,x8,x9,xl⟩:=hx1
 by_cases hlo:x<0
 ·have HF:Hid (RP (.returned (.tuple #[.slice none 0 0,.int .i64 2])) w1):=HAN.out _ [] 2 _ (OVB.nil _ _) (.inl ⟨HG.out,.inr ⟨by omega,rfl,rfl⟩⟩) HW1.out
  clear HB HAN HG;go_wp2;exact HF.out
 by_cases hhi:x≥(d.ms.length:Int)
 ·have HF:Hid (RP (.returned (.tuple #[.slice none 0 0,.int .i64 2])) w1):=HAN.out _ [] 2 _ (OVB.nil _ _) (.inl ⟨HG.out,.inr ⟨by omega,rfl,rfl⟩⟩) HW1.out
  clear HB HAN HG;go_wp2;exact HF.out
 obtain ⟨k,rfl⟩:=Int.eq_ofNat_of_zero_le (show 0<=x by omega)
 have hk:k<d.ms.length:=by omega
 have H2:=ze2 f HB.out.2.2.2.1 d k w1 (HB.out.1.below HW1.out nl) (HB.out.2.1.below HW1.out nl) HG.out HB.out.2.2.1 HB.out.2.2.2.2 hk;have HK:Hid (k<d.ms.length):=hk;clear HB;go_wp2_with fail
 refine H2.mono ?_;clear H2;rintro e w2 ⟨⟨v,bs,c,rfl,h2,h3⟩,hb2⟩;obtain ⟨va,vc,rfl⟩:=h2.form;have HF:Hid (RP (.returned (.tuple #[.slice va bs.length vc,.int .i64 c])) w2):=HAN.out _ bs c w2 (h2.weak HW1.out.size) (.inl ⟨HG.out,.inl ⟨k,rfl,HK.out,h3⟩⟩) (HW1.out.trans (hb2.mono HW1.out.size));clear HAN h2 h3 hb2 HG HK;go_wp2;exact HF.out
structure Five (w:World) (pF pO pS pC pG:Addr):Prop where
 cpF:w.cell? ⟨1,0,none⟩=some (.iface 326 (.pointer (some pF)))
 cpO:w.cell? ⟨2,0,none⟩=some (.iface 326 (.pointer (some pO)))
 cpS:w.cell? ⟨3,0,none⟩=some (.iface 326 (.pointer (some pS)))
 cpC:w.cell? ⟨0,0,none⟩=some (.iface 326 (.pointer (some pC)))
 cpG:w.cell? ⟨4,0,none⟩=some (.iface 326 (.pointer (some pG)))
 npF:pC≠pF
 npO:pC≠pO
 npS:pC≠pS
 hpF:∃ c t,w.heap[pF.block]?=some (.cells c t (0,0))
 hpO:∃ c t,w.heap[pO.block]?=some (.cells c t (0,0))
 hpS:∃ c t,w.heap[pS.block]?=some (.cells c t (0,0))
 hpC:∃ c t,w.heap[pC.block]?=some (.cells c t (0,0))
theorem Five.below {w w':World} {pF pO pS pC pG:Addr} (h:Five w pF pO pS pC pG) (hb:Below w.heap.size w w'):Five w' pF pO pS pC pG:=by
 obtain ⟨c1,t1,h1⟩:=h.hpF;obtain ⟨c2,t2,h2⟩:=h.hpO;obtain ⟨c3,t3,h3⟩:=h.hpS;obtain ⟨c4,t4,h4⟩:=h.hpC;exact ⟨keep hb (World.block_lt_of_cell? _ _ h.cpF) h.cpF,keep hb (World.block_lt_of_cell? _ _ h.cpO) h.cpO,keep hb (World.block_lt_of_cell? _ _ h.cpS) h.cpS,keep hb (World.block_lt_of_cell? _ _ h.cpC) h.cpC,keep hb (World.block_lt_of_cell? _ _ h.cpG) h.cpG,h.npF,h.npO,h.npS,⟨c1,t1,(hb.block _ (Array.getElem?_eq_some_iff.1 h1).1).trans h1⟩,⟨c2,t2,(hb.block _ (Array.getElem?_eq_some_iff.1 h2).1).trans h2⟩,⟨c3,t3,(hb.block _ (Array.getElem?_eq_some_iff.1 h3).1).trans h3⟩,⟨c4,t4,(hb.block _ (Array.getElem?_eq_some_iff.1 h4).1).trans h4⟩⟩
theorem z8k {p q:Addr} {w:World} (hn:q≠p) (hp:∃ c t,w.heap[p.block]?=some (.cells c t (0,0))) (hq:∃ c t,w.heap[q.block]?=some (.cells c t (0,0))) :
  Calls Tryz.prog 98 #[.iface 326 (.pointer (some q)),.iface 326 (.pointer (some p))] w fun e w'=>e=.returned (.bool false)/\w'=w:=by
 obtain ⟨c,t,hp⟩:=hp;obtain ⟨c',t',hq⟩:=hq;obtain ⟨i,hi,hcmp⟩:=Option.map_eq_some_iff.1 zcc;obtain ⟨j,hj,hjs⟩:=Option.map_eq_some_iff.1 zc4;exact zjg q p w (run_eql_iface_ptr_other w Tryz.underlying82 Tryz.underlying326 hi hcmp hj (by omega) hn hq hp)
theorem zg1 (pF pO pS pC pG:Addr) (w:World) (h:Five w pF pO pS pC pG) :
  Calls Tryz.prog 54 #[.nilIface] w fun e w'=>e=.returned (.int .i64 0)/\w'=w:=by
 have c0:=h.cpF;have c1:=h.cpO;have c2:=h.cpS;have c3:=h.cpC;have c4:=h.cpG;have H0:=z3x 326 (.pointer (some pF)) w;have H1:=z3x 326 (.pointer (some pO)) w;have H2:=z3x 326 (.pointer (some pS)) w;have H3:=z3x 326 (.pointer (some pC)) w;have H4:=z3x 326 (.pointer (some pG)) w;clear h
 go_enter Tryz.func54,Tryz.ntmps54
 go_wp2_with fail
 refine H0.mono ?_;clear H0;rintro e w1 ⟨rfl,rfl⟩;go_wp2_with fail
 refine H1.mono ?_;clear H1;rintro e w1 ⟨rfl,rfl⟩;go_wp2_with fail
 refine H2.mono ?_;clear H2;rintro e w1 ⟨rfl,rfl⟩;go_wp2_with fail
 refine H3.mono ?_;clear H3;rintro e w1 ⟨rfl,rfl⟩;go_wp2_with fail
 refine H4.mono ?_;clear H4;rintro e w1 ⟨rfl,rfl⟩;go_wp2;go_ret;exact ⟨rfl,rfl⟩
theorem z8q (pF pO pS pC pG:Addr) (w:World) (h:Five w pF pO pS pC pG) :
  Calls Tryz.prog 54 #[.iface 326 (.pointer (some pC))] w fun e w'=>e=.returned (.int .i64 4)/\w'=w:=by
 have c0:=h.cpF;have c1:=h.cpO;have c2:=h.cpS;have c3:=h.cpC;have c4:=h.cpG;have H0:=z8k h.npF h.hpF h.hpC;have H1:=z8k h.npO h.hpO h.hpC;have H2:=z8k h.npS h.hpS h.hpC;have H3:=zfl pC w;clear h
 go_enter Tryz.func54,Tryz.ntmps54
 go_wp2_with fail
 refine H0.mono ?_;clear H0;rintro e w1 ⟨rfl,rfl⟩;go_wp2_with fail
 refine H1.mono ?_;clear H1;rintro e w1 ⟨rfl,rfl⟩;go_wp2_with fail
 refine H2.mono ?_;clear H2;rintro e w1 ⟨rfl,rfl⟩;go_wp2_with fail
 refine H3.mono ?_;clear H3;rintro e w1 ⟨rfl,rfl⟩;go_wp2;go_ret;exact ⟨rfl,rfl⟩
theorem zgb :(Tryz.prog.info? 122).map (·.zero)=some (some (.agg #[.int .i64 0,.slice none 0 0])):=by kernel_rfl
theorem zig (v:Value) (xT:TypeId) (w:World):(Instr.typeAssert (.iface 122 v) xT 122 true).run Tryz.prog w=.ok (.tuple #[v,.bool true]) w:=by
 simp [Instr.typeAssert,run_underlying Tryz.underlying122]
theorem z6m (T:TypeId) (h:T≠122) (v:Value) (xT:TypeId) (w:World):(Instr.typeAssert (.iface T v) xT 122 true).run Tryz.prog w=.ok (.tuple #[.agg #[.int .i64 0,.slice none 0 0],.bool false]) w:=by
 obtain ⟨j,hj,hz⟩:=Option.map_eq_some_iff.1 zgb
 simp [Instr.typeAssert,run_underlying Tryz.underlying122,h,zeroValue,typeInfo,hj,hz]
def BkA (f:List Int->Option (List Int)) (pC:Addr) (o:Option (List Int)) (w:World) (r:Ending) (w':World):Prop:=
 ((o=none/\r=.returned (.tuple #[.slice none 0 0,.iface 326 (.pointer (some pC))]))\/(∃ v bs,((o=some []/\bs=List.replicate 64 0)\/(∃ ls,o=some ls/\ls≠[]/\f ls=some bs/\bs.length=64))/\r=.returned (.tuple #[v,.nilIface])/\OVB w' w.heap.size v bs))/\Below w.heap.size w w'
theorem zdz (f:List Int->Option (List Int)) (hf:zx f) (pF pO pS pC pG:Addr) (o:Option (List Int)) (T:TypeId) (u:Value) (w:World) (h:CnV o w (.iface T u)) (hsm:∀ ls,o=some ls->ls=[]\/(f ls).isSome=true) (hsh:(o.getD []).length<=256) (h5:Five w pF pO pS pC pG) (hS:SentB w) :
  Calls Tryz.prog 52 #[.iface T u] w (BkA f pC o w):=by
 have HAN:Hid (∀ (v:Value) (bs:List Int) (W:World),((o=some []/\bs=List.replicate 64 0)\/(∃ ls,o=some ls/\ls≠[]/\f ls=some bs/\bs.length=64))->OVB W w.heap.size v bs->Bw w W->BkA f pC o w (.returned (.tuple #[v,.nilIface])) W):=fun v bs W h1 h2 h3=>⟨.inr ⟨v,bs,h1,rfl,h2⟩,h3⟩
 have HNO:Hid (∀ (W:World),o=none->Bw w W->BkA f pC o w (.returned (.tuple #[.slice none 0 0,.iface 326 (.pointer (some pC))])) W):=fun W h1 h3=>⟨.inl ⟨h1,rfl⟩,h3⟩
 generalize BkA f pC o w=RP at *;have cC:=h5.cpC;have HB:Hid (zx f/\SentB w):=⟨hf,hS⟩;clear h5 hf hS;rcases h with ⟨ls,a,c,n,rfl,hne,hv,hby,hlc⟩ | ⟨rfl,hv | hv⟩ | ⟨rfl,hv⟩
 ·injection hv with h1 h2
  subst h1 h2;obtain ⟨bs,hbs⟩:=Option.isSome_iff_exists.1 ((hsm ls rfl).resolve_left hne)
  simp only [Option.getD_some] at hsh
  have h64:=((HB.out.1 ls (by omega) hby.1).1 bs hbs).1
  have HK:Hid (((some ls=some ([]:List Int)/\bs=List.replicate 64 0)\/(∃ l,some ls=some l/\l≠[]/\f l=some bs/\bs.length=64))/\f ls=some bs):=⟨.inr ⟨ls,rfl,hne,hbs,h64⟩,hbs⟩;have hA:=zig;have H3:=z8i n a ls.length c w;have HBY:Hid (Byt w a ls/\ls.length<=c/\ls.length<=256):=⟨hby,hlc,hsh⟩;clear hsm hbs hne hby hlc hsh HNO h64
  go_enter Tryz.func52,Tryz.ntmps52
  go_wp2_with fail
  refine H3.mono ?_;clear H3;rintro e w1 ⟨rfl,hb1⟩;have HW1:Hid (Bw w w1):=hb1;have H2:=(HB.out.1 ls (by have:=HBY.out.2.2;omega) HBY.out.1.1).2.2 a c w1 HBY.out.2.1 (HBY.out.1.below hb1 nl) (HB.out.2.below hb1)
  clear hb1;go_wp2_with fail
  refine H2.mono ?_;clear H2;rintro e w2 ⟨hb2,⟨bs',v,h1,h2,rfl⟩ | ⟨h1,-⟩⟩
  ·obtain rfl:bs'=bs:=by
    have:=HK.out.2;rw [h1] at this;exact Option.some.inj this
   obtain ⟨va,vc,rfl⟩:=h2.form;have HF:Hid (RP (.returned (.tuple #[.slice va bs'.length vc,.nilIface])) w2):=HAN.out _ bs' w2 HK.out.1 (h2.weak HW1.out.size) (HW1.out.trans (hb2.mono HW1.out.size));clear HAN h1 h2 hb2 HK HBY HB;go_wp2;exact HF.out
  ·have:=HK.out.2
   rw [h1] at this
   cases this
 ·injection hv with h1 h2
  subst h1 h2;have hA:=z6m 173 (by decide)
  have hA2:=zby 173 (by decide)
  obtain ⟨w2,hmk,ho2,hb2⟩:=z32 w 64 (by omega) (List.replicate 64 0) rfl
  have hmk2:Sem.run Tryz.prog (Instr.makeSlice 36 (.int .i64 64) (.int .i64 64)) w=.ok (.slice (some ⟨w.heap.size,0,none⟩) 64 64) w2:=hmk;have hov:OVB w2 w.heap.size (.slice (some ⟨w.heap.size,0,none⟩) (List.replicate 64 (0:Int)).length 64) (List.replicate 64 0):=ho2;rw [List.length_replicate] at hov;have HF:Hid (RP (.returned (.tuple #[.slice (some ⟨w.heap.size,0,none⟩) 64 64,.nilIface])) w2):=HAN.out _ _ w2 (.inl ⟨rfl,rfl⟩) hov hb2
  clear HAN HNO HB hsm hsh ho2 hb2 hov hmk
  go_enter Tryz.func52,Tryz.ntmps52
  go_wp2
  exact HF.out
 ·injection hv with h1 h2
  subst h1 h2;have hA:=z6m 130 (by decide)
  have hA2:=zby 130 (by decide)
  obtain ⟨w2,hmk,ho2,hb2⟩:=z32 w 64 (by omega) (List.replicate 64 0) rfl
  have hmk2:Sem.run Tryz.prog (Instr.makeSlice 36 (.int .i64 64) (.int .i64 64)) w=.ok (.slice (some ⟨w.heap.size,0,none⟩) 64 64) w2:=hmk;have hov:OVB w2 w.heap.size (.slice (some ⟨w.heap.size,0,none⟩) (List.replicate 64 (0:Int)).length 64) (List.replicate 64 0):=ho2;rw [List.length_replicate] at hov;have HF:Hid (RP (.returned (.tuple #[.slice (some ⟨w.heap.size,0,none⟩) 64 64,.nilIface])) w2):=HAN.out _ _ w2 (.inl ⟨rfl,rfl⟩) hov hb2
  clear HAN HNO HB hsm hsh ho2 hb2 hov hmk
  go_enter Tryz.func52,Tryz.ntmps52
  go_wp2
  exact HF.out
 ·injection hv with h1 h2
  subst h1 h2;have hA:=z6m 124 (by decide)
  have hA2:=zia;have HF:Hid (∀ W,Bw w W->RP (.returned (.tuple #[.slice none 0 0,.iface 326 (.pointer (some pC))])) W):=fun W hW=>HNO.out W rfl hW
  have HRF:Hid (Bw w w.drew):=(Below.refl _ _).drew;clear HAN HNO HB hsm hsh
  go_enter Tryz.func52,Tryz.ntmps52
  go_wp2
  go_region
  all_goals first
   | exact HF.out _ HRF.out
   | (go_wp2
      exact HF.out _ HRF.out)
theorem zeb (d:DkV) (x:Int) (w:World) (hn:d.ms.length<=1048576) :
  Calls Tryz.prog 51 #[.agg #[.slice d.sa d.ss.length d.sc,.slice d.pa d.ps.length d.pc,.int .i64 d.E,.int .i64 d.O,.slice d.ma d.ms.length d.mc,.slice d.va d.vs.length d.vc,.slice d.ca d.cs.length d.cc,.int .i64 d.F,.int .i64 d.G,.slice d.oa d.os.length d.oc],.int .i64 x] w fun e w'=>e=.returned (.bool (decide (0<=x/\x<d.ms.length)))/\Below w.heap.size w w':=by
 have HW0:Hid (Bw w (w.alloc (Obj.cells #[.slice d.sa d.ss.length d.sc,.slice d.pa d.ps.length d.pc,.int .i64 d.E,.int .i64 d.O,.slice d.ma d.ms.length d.mc,.slice d.va d.vs.length d.vc,.slice d.ca d.cs.length d.cc,.int .i64 d.F,.int .i64 d.G,.slice d.oa d.os.length d.oc] 49))):=ba;have H1:=z6j d.ma d.ms.length d.mc x (w.alloc (Obj.cells #[.slice d.sa d.ss.length d.sc,.slice d.pa d.ps.length d.pc,.int .i64 d.E,.int .i64 d.O,.slice d.ma d.ms.length d.mc,.slice d.va d.vs.length d.vc,.slice d.ca d.cs.length d.cc,.int .i64 d.F,.int .i64 d.G,.slice d.oa d.os.length d.oc] 49)) hn
 generalize decide (0<=x/\x<(d.ms.length:Int))=r at H1 ⊢
 go_enter Tryz.func51,Tryz.ntmps51
 go_wp2_with fail
 refine H1.mono ?_;clear H1;rintro e w1 ⟨rfl,rfl⟩;go_wp2;go_ret;exact ⟨rfl,HW0.out⟩
theorem zco (f:List Int->Option (List Int)) (hf:zx f) (d:DkV) (x:Int) (w:World) (hb:DkI w d) (hi:ItI w d.oa d.os) (hd:DkF d) (pF pO pS pC pG:Addr) (hS:SentR w) (h5:Five w pF pO pS pC pG) :
  Calls Tryz.prog 13 #[.agg #[.slice d.sa d.ss.length d.sc,.slice d.pa d.ps.length d.pc,.int .i64 d.E,.int .i64 d.O,.slice d.ma d.ms.length d.mc,.slice d.va d.vs.length d.vc,.slice d.ca d.cs.length d.cc,.int .i64 d.F,.int .i64 d.G,.slice d.oa d.os.length d.oc],.int .i64 x] w (RgA (RgR f d x) w):=by
 have HW0:Hid (Bw w (w.alloc (Obj.cells #[.slice d.sa d.ss.length d.sc,.slice d.pa d.ps.length d.pc,.int .i64 d.E,.int .i64 d.O,.slice d.ma d.ms.length d.mc,.slice d.va d.vs.length d.vc,.slice d.ca d.cs.length d.cc,.int .i64 d.F,.int .i64 d.G,.slice d.oa d.os.length d.oc] 49))):=ba;have hx0:=Dk10.new w d 49;have H1:=z8v f hf d _ (hb.below HW0.out nl) (hi.below HW0.out nl) hd (hS.b.below HW0.out);have HB:Hid (DkI w d/\ItI w d.oa d.os/\DkF d/\zx f/\SentR w/\Five w pF pO pS pC pG):=⟨hb,hi,hd,hf,hS,h5⟩
 have HAN:Hid (∀ (v:Value) (bs:List Int) (c:Int) (W:World),OVB W w.heap.size v bs->RgR f d x bs c->Bw w W->RgA (RgR f d x) w (.returned (.tuple #[v,.int .i64 c])) W):=fun v bs c W h1 h2 h3=>⟨⟨v,bs,c,rfl,h1,h2⟩,h3⟩
 clear hb hi hd hf hS h5;generalize RgA (RgR f d x) w=RP at *
 go_enter Tryz.func13,Tryz.ntmps13
 go_wp2_with fail
 generalize (w.alloc (Obj.cells #[.slice d.sa d.ss.length d.sc,.slice d.pa d.ps.length d.pc,.int .i64 d.E,.int .i64 d.O,.slice d.ma d.ms.length d.mc,.slice d.va d.vs.length d.vc,.slice d.ca d.cs.length d.cc,.int .i64 d.F,.int .i64 d.G,.slice d.oa d.os.length d.oc] 49))=W0 at *;refine H1.mono ?_;clear H1;rintro e w1 ⟨h1,hb1⟩;have hx1:=hx0.step hb1;have HW1:Hid (Bw w w1):=HW0.out.trans (hb1.mono HW0.out.size)
 clear hb1 hx0 HW0;rcases h1 with ⟨hG,rfl⟩ | ⟨hG,rfl⟩
 rotate_left
 ·have HF:Hid (RP (.returned (.tuple #[.slice none 0 0,.int .i64 1])) w1):=HAN.out _ [] 1 _ (OVB.nil _ _) (.inr ⟨hG,rfl,rfl⟩) HW1.out
  clear hG HB HAN;go_wp2;exact HF.out
 have HG:Hid (DkG f d):=hG;have hL:=(z2v d.ms hG.map).2;clear hG;obtain ⟨x0,x1,x2,x3,x4,x5,x6,x7,x8,x9,xl⟩:=id hx1;have H2:=zeb d x w1 (by omega)
 by_cases hin:0<=x/\x<(d.ms.length:Int)
 rotate_left
 ·rw [decide_eq_false hin] at H2
  have HOUT:Hid (RgR f d x [] 2):=.inl ⟨HG.out,.inr ⟨hin,rfl,rfl⟩⟩;clear hin HG HB;go_wp2_with fail
  refine H2.mono ?_;clear H2;rintro e w2 ⟨rfl,hb2⟩;have HF:Hid (RP (.returned (.tuple #[.slice none 0 0,.int .i64 2])) w2):=HAN.out _ [] 2 _ (OVB.nil _ _) HOUT.out (HW1.out.trans (hb2.mono HW1.out.size));clear HAN HOUT hb2;go_wp2;exact HF.out
 rw [decide_eq_true hin] at H2;obtain ⟨k,rfl⟩:=Int.eq_ofNat_of_zero_le hin.1;have HK:Hid (k<d.ms.length):=(by omega:k<d.ms.length)
 clear hin;go_wp2_with fail
 clear x0 x1 x2 x3 x4 x5 x6 x7 x8 x9 xl;refine H2.mono ?_;clear H2;rintro e w2 ⟨rfl,hb2⟩;have hx2:=hx1.step hb2;have HW2:Hid (Bw w w2):=HW1.out.trans (hb2.mono HW1.out.size);clear hb2 hx1 HW1;have H3:=zap f HB.out.2.2.2.1 d k w2 (HB.out.1.below HW2.out nl) (HB.out.2.1.below HW2.out nl) HG.out HB.out.2.2.1 (HB.out.2.2.2.2.1.below HW2.out) HK.out;obtain ⟨x0,x1,x2,x3,x4,x5,x6,x7,x8,x9,xl⟩:=hx2;go_wp2_with fail
 clear x0 x1 x2 x3 x4 x5 x6 x7 x8 x9 xl;refine H3.mono ?_;clear H3;rintro e w3 ⟨⟨o,T,u,hct,rfl,hcn⟩,hb3⟩;have HW3:Hid (Bw w w3):=HW2.out.trans (hb3.mono HW2.out.size);have H4:=zdz f HB.out.2.2.2.1 pF pO pS pC pG o T u w3 hcn (fun ls e=>by subst e;exact hct.blob HG.out) (hct.short HG.out) (HB.out.2.2.2.2.2.below HW3.out) (HB.out.2.2.2.2.1.b.below HW3.out)
 have HCT:Hid (CtR f d k o):=hct;clear hb3 hct hcn HW2;go_wp2_with fail
 refine H4.mono ?_;clear H4;rintro e w4 ⟨h4,hb4⟩;have HW4:Hid (Bw w w4):=HW3.out.trans (hb4.mono HW3.out.size);have H5:Hid (Five w4 pF pO pS pC pG):=HB.out.2.2.2.2.2.below HW4.out;rcases h4 with ⟨ho,rfl⟩ | ⟨v,bs,ho,rfl,hov⟩
 ·have HF:Hid (RP (.returned (.tuple #[.slice none 0 0,.int .i64 4])) w4):=HAN.out _ [] 4 _ (OVB.nil _ _) (.inl ⟨HG.out,.inl ⟨k,rfl,HK.out,o,HCT.out,.inl ⟨ho,rfl,rfl⟩⟩⟩) HW4.out
  have H6:=z8q pF pO pS pC pG w4 H5.out;clear HAN HB hb4 ho HCT HG HK HW3 HW4 H5;go_wp2_with fail
  refine H6.mono ?_;clear H6;rintro e w5 ⟨rfl,rfl⟩;go_wp2;exact HF.out
 ·obtain ⟨va,vc,rfl⟩:=hov.form
  have HF:Hid (RP (.returned (.tuple #[.slice va bs.length vc,.int .i64 0])) w4):=HAN.out _ bs 0 w4 (hov.weak HW3.out.size) (.inl ⟨HG.out,.inl ⟨k,rfl,HK.out,o,HCT.out,ho.elim (fun h=>.inr (.inl ⟨h.1,h.2,rfl⟩)) (fun ⟨ls,h1,h2,h3,h4⟩=>.inr (.inr ⟨ls,h1,h2,h3,h4,rfl⟩))⟩⟩) HW4.out
  have H6:=zg1 pF pO pS pC pG w4 H5.out;clear HAN HB hb4 ho hov HCT HG HK HW3 HW4 H5;go_wp2_with fail
  refine H6.mono ?_;clear H6;rintro e w5 ⟨rfl,rfl⟩;go_wp2;exact HF.out
end Go.Proofs.YtaibkchbkedjnaaGreatDoor
