import Derived.Test.YtkomjdjfknpinaaGreatDoorCtA
set_option maxRecDepth 20000
set_option maxHeartbeats 16000000
namespace Go.Proofs.YtkomjdjfknpinaaGreatDoor
open Go.RowKit
set_option linter.unusedVariables false
set_option linter.unusedSimpArgs false
structure RwC (d:DkV):Prop where
 s:∀ e ∈ d.ss,e.ls.length<=e.c/\e.c<=9223372036854775807
 p:∀ e ∈ d.ps,e.ls.length<=e.c/\e.c<=9223372036854775807
theorem RwC.rd {d:DkV} (h:RwC d) {q:Nat} (hq:q<d.ss.length):(rdE d.ss d.ps q).ls.length<=(rdE d.ss d.ps q).c/\(rdE d.ss d.ps q).c<=9223372036854775807:=by
 unfold rdE
 cases ha:zq d.ps q d.ps.length with
 | none=>simp only [Option.getD_none,Int.toNat_natCast];exact h.s _ (zf hq)
 | some e=>exact h.p e (z5q ha nl)
def CtJ (f:List Int->Option (List Int)) (d:DkV) (x:Nat) (w:World) (r:Ending) (w':World):Prop:=
 ((CtG f d x/\∃ a c,r=.returned (.tuple #[.slice a (ctE d x).ls.length c,.bool true])/\Byt w' a (ctE d x).ls/\(ctE d x).ls.length<=c)\/(¬CtG f d x/\r=.returned (.tuple #[.slice none 0 0,.bool false])))/\Below w.heap.size w w'
def CtB (f:List Int->Option (List Int)) (d:DkV) (x:Nat) (w:World) (r:Ending) (w':World):Prop:=
 (∃ o,CtR f d x o/\((∃ ls a c,o=some ls/\r=.returned (.tuple #[.slice a ls.length c,.bool true])/\Byt w' a ls/\ls.length<=c)\/(o=none/\r=.returned (.tuple #[.slice none 0 0,.bool false]))))/\Below w.heap.size w w'
theorem zef (f:List Int->Option (List Int)) (hf:zz f) (d:DkV) (x:Nat) (w:World) (hb:DkI w d) (hG:DkG f d) (hd:DkF d) (hc:RwC d) (hx:x<d.ms.length) :
  Calls Tryz.prog 50 #[.agg #[.slice d.sa d.ss.length d.sc,.slice d.pa d.ps.length d.pc,.int .i64 d.E,.int .i64 d.O,.slice d.ma d.ms.length d.mc,.slice d.va d.vs.length d.vc,.slice d.ca d.cs.length d.cc,.int .i64 d.F,.int .i64 d.G,.slice d.oa d.os.length d.oc],.int .i64 x] w (CtJ f d x w):=by
 obtain ⟨b,off,hma,hbl,hcc⟩:=hb.map.len_pos x hx;obtain ⟨c0,c1⟩:=hcc x hx;obtain ⟨p1,p2,p3,p4⟩:=zfe hG.map x hx;have hq1:=hG.pm x hx;obtain ⟨q,hq⟩:=Int.eq_ofNat_of_zero_le p1;obtain ⟨i,hi⟩:=Int.eq_ofNat_of_zero_le p3;have hxn:=(z19 d.ms hG.map).2;have HZ:Hid (ctZ d x=(rdE d.ss d.ps q).ls/\ctI d x=i):=by
  unfold ctZ ctI;rw [hq,hi];exact ⟨rfl,rfl⟩
 rw [hq] at hq1 c0 p2;rw [hi] at c1 p4;have HB:Hid (RawI w d.sa d.pa d.ss d.ps/\zz f):=⟨hb.raw,hf⟩;have hqn:q<d.ss.length:=by omega
 have HRD:=hc.rd hqn;have HLN:=z9s (z88 hG.raw) hqn;have HFS:Hid (d.ss.length<=1000000/\d.ps.length<=1000000):=by
  obtain ⟨r1,r2,r3,-⟩:=z88 hG.raw;exact ⟨by omega,by omega⟩
 have HBY:Hid (Byt w (rdE d.ss d.ps q).a (rdE d.ss d.ps q).ls):=zfy hb.raw hqn;clear hcc hq hi p1 p3 hb hG hd hc hf;have HYES:Hid (∀ (a:Option Addr) (c:Nat) (W:World) (l:List Int),PrG f (rdE d.ss d.ps q).ls->i<rpM (rdE d.ss d.ps q).ls->(itE (rdE d.ss d.ps q).ls (rpM (rdE d.ss d.ps q).ls) i).n=(x:Int)->(itE (rdE d.ss d.ps q).ls (rpM (rdE d.ss d.ps q).ls) i).ls=l->l≠[]->Byt W a l->l.length<=c->Bw w W->CtJ f d x w (.returned (.tuple #[.slice a l.length c,.bool true])) W):=by
  rintro a c W l g1 g2 g3 rfl g4 g5 g6 g7;have hz:=HZ.out;have e1:ctE d x=itE (rdE d.ss d.ps q).ls (rpM (rdE d.ss d.ps q).ls) i:=by unfold ctE;rw [hz.1,hz.2]
  rw [<-e1] at g3 g4 g5 g6 ⊢;exact ⟨.inl ⟨⟨by rw [hz.1];exact g1,by rw [hz.1,hz.2];exact g2,g3,g4⟩,a,c,rfl,g5,g6⟩,g7⟩
 have HNO:Hid (∀ (W:World),¬(PrG f (rdE d.ss d.ps q).ls/\i<rpM (rdE d.ss d.ps q).ls/\(itE (rdE d.ss d.ps q).ls (rpM (rdE d.ss d.ps q).ls) i).n=(x:Int)/\(itE (rdE d.ss d.ps q).ls (rpM (rdE d.ss d.ps q).ls) i).ls≠[])->Bw w W->CtJ f d x w (.returned (.tuple #[.slice none 0 0,.bool false])) W):=by
  intro W g1 g2
  have hz:=HZ.out;refine ⟨.inr ⟨fun h=>g1 ?_,rfl⟩,g2⟩
  obtain ⟨k1,k2,k3,k4⟩:=h;unfold ctE at k3 k4;rw [hz.1] at k1 k2 k3 k4;rw [hz.2] at k2 k3 k4;exact ⟨k1,k2,k3,k4⟩
 clear HZ;generalize CtJ f d x w=RP at *;obtain ⟨sa,sc,ss,pa,pc,ps,E,O,ma,mc,ms,va,vc,vs,ca,cc,cs,F,G,oa,oc,os⟩:=d
 dsimp only at *
 subst hma;have HW0:Hid (Bw w (w.alloc (Obj.cells #[.slice sa ss.length sc,.slice pa ps.length pc,.int .i64 E,.int .i64 O,.slice (some ⟨b,off,none⟩) ms.length mc,.slice va vs.length vc,.slice ca cs.length cc,.int .i64 F,.int .i64 G,.slice oa os.length oc] 48))):=ba;have hY:=Dk10.new w ⟨sa,sc,ss,pa,pc,ps,E,O,(some ⟨b,off,none⟩),mc,ms,va,vc,vs,ca,cc,cs,F,G,oa,oc,os⟩ 48
 dsimp only at hY
 have hYa:=hY.alloc (Obj.cells #[.int .i64 (q:Int),.int .i64 (i:Int)] 93);have HW1:Hid (Bw w ((w.alloc (Obj.cells #[.slice sa ss.length sc,.slice pa ps.length pc,.int .i64 E,.int .i64 O,.slice (some ⟨b,off,none⟩) ms.length mc,.slice va vs.length vc,.slice ca cs.length cc,.int .i64 F,.int .i64 G,.slice oa os.length oc] 48)).alloc (Obj.cells #[.int .i64 (q:Int),.int .i64 (i:Int)] 93))):=HW0.out.alloc (by simp) _
 have hP2:=Box2.new (w.alloc (Obj.cells #[.slice sa ss.length sc,.slice pa ps.length pc,.int .i64 E,.int .i64 O,.slice (some ⟨b,off,none⟩) ms.length mc,.slice va vs.length vc,.slice ca cs.length cc,.int .i64 F,.int .i64 G,.slice oa os.length oc] 48)) (.int .i64 (q:Int)) (.int .i64 (i:Int)) 93;have H1:=zhm sa pa sc pc ss ps q ((w.alloc (Obj.cells #[.slice sa ss.length sc,.slice pa ps.length pc,.int .i64 E,.int .i64 O,.slice (some ⟨b,off,none⟩) ms.length mc,.slice va vs.length vc,.slice ca cs.length cc,.int .i64 F,.int .i64 G,.slice oa os.length oc] 48)).alloc (Obj.cells #[.int .i64 (q:Int),.int .i64 (i:Int)] 93)) (HB.out.1.below HW1.out nl) hqn HFS.out.1 HFS.out.2
 have d0:=ze (Obj.cells #[.slice sa ss.length sc,.slice pa ps.length pc,.int .i64 E,.int .i64 O,.slice (some ⟨b,off,none⟩) ms.length mc,.slice va vs.length vc,.slice ca cs.length cc,.int .i64 F,.int .i64 G,.slice oa os.length oc] 48) hbl c0;have d1:=ze (Obj.cells #[.slice sa ss.length sc,.slice pa ps.length pc,.int .i64 E,.int .i64 O,.slice (some ⟨b,off,none⟩) ms.length mc,.slice va vs.length vc,.slice ca cs.length cc,.int .i64 F,.int .i64 G,.slice oa os.length oc] 48) hbl c1
 clear c0 c1
 go_enter Tryz.func50,Tryz.ntmps50
 go_wp2_with fail
 generalize (w.alloc (Obj.cells #[.slice sa ss.length sc,.slice pa ps.length pc,.int .i64 E,.int .i64 O,.slice (some ⟨b,off,none⟩) ms.length mc,.slice va vs.length vc,.slice ca cs.length cc,.int .i64 F,.int .i64 G,.slice oa os.length oc] 48)).alloc (Obj.cells #[.int .i64 (q:Int),.int .i64 (i:Int)] 93)=W1 at *;have HPB:Hid (Box2 W1 (w.heap.size+1) (.int .i64 (q:Int)) (.int .i64 (i:Int))):=(by simpa using hP2:Box2 W1 (w.heap.size+1) (.int .i64 (q:Int)) (.int .i64 (i:Int)))
 refine H1.mono ?_;clear H1 hP2 hY hYa d0 d1 HW0 HFS;generalize rdE ss ps (q:Int)=ee at *;obtain ⟨en,ea,ec,zs⟩:=ee
 dsimp only at *
 rintro e w1 ⟨rfl,hb1⟩;have HW2:Hid (Bw w w1):=HW1.out.trans (hb1.mono HW1.out.size);have HP1:Hid (Box2 w1 (w.heap.size+1) (.int .i64 (q:Int)) (.int .i64 (i:Int))):=HPB.out.keep hb1 HPB.out.lt;have H2:=z79 f HB.out.2 ea ec zs w1 (HBY.out.below HW2.out nl) (by omega) HRD.1 HRD.2
 clear hb1 HPB HW1 HBY HB HRD HLN;go_wp2_with fail
 refine H2.mono ?_;clear H2;rintro e w2 ⟨h2,hb2⟩;have HW3:Hid (Bw w w2):=HW2.out.trans (hb2.mono HW2.out.size);obtain ⟨y0,y1,-,-,yl⟩:=HP1.out.keep hb2 HP1.out.lt;rcases h2 with ⟨hg,v,fs,rfl,hcp⟩ | ⟨hg,rfl⟩
 rotate_left
 ·have HN:Hid (∀ W,Bw w W->RP (.returned (.tuple #[.slice none 0 0,.bool false])) W):=fun W=>HNO.out W (fun h=>hg h.1)
  have HB3:Hid (∀ o,Bw w (w2.alloc o)):=fun o=>HW3.out.alloc HW3.out.size o
  clear hg HNO HYES HW2 HP1 hb2;go_wp2;exact HN.out _ (HB3.out _)
 obtain ⟨va',vc',hv⟩:=hcp.row.form;subst hv;have hfl:fs.length=rpM zs:=by rw [z00 hcp.ct,z0p]
 have HCP:Hid (ItI w2 va' fs/\fs.map El.ct=(itL zs (rpM zs) (rpM zs)).map El.ct/\fs.length=rpM zs):=⟨hcp.its,hcp.ct,hfl⟩;have HB3:Hid (∀ o,Bw w (w2.alloc o)):=fun o=>HW3.out.alloc HW3.out.size o
 have hfn:fs.length<=16:=by
  have:=hg.ok.n;rw [z0p] at this
  omega
 have HG:Hid (PrG f zs):=hg;clear hcp hfl hg HW2 HP1 hb2
 by_cases hlt:i<fs.length
 rotate_left
 ·have HN:Hid (∀ W,Bw w W->RP (.returned (.tuple #[.slice none 0 0,.bool false])) W):=fun W=>HNO.out W (fun h=>hlt (by rw [HCP.out.2.2];exact h.2.1))
  have hge:((i:Int)≥(fs.length:Int)):=by omega
  clear HNO HYES HCP HG;go_wp2;exact HN.out _ (HB3.out _)
 obtain ⟨b2,off2,hva,hbb,e0,e1,hby,hrg⟩:=HCP.out.1.els.pen i hlt;subst hva;have HIT:Hid ((fs.getD i de).n=(itE zs (rpM zs) i).n/\(fs.getD i de).ls=(itE zs (rpM zs) i).ls/\i<rpM zs/\(fs.getD i de).ls.length<=(fs.getD i de).c):=by
  have h1:=z0k HCP.out.2.1 i;rw [z72 _ _ (by rw [<-HCP.out.2.2];exact hlt)] at h1
  exact ⟨congrArg Prod.fst h1,congrArg Prod.snd h1,by rw [<-HCP.out.2.2];exact hlt,HCP.out.1.cap _ (zf hlt)⟩
 generalize fs.getD i de=it at *;obtain ⟨sn,sa',sc',sl⟩:=it
 dsimp only at *
 have HBY:Hid (∀ o,Byt (w2.alloc o) sa' sl):=fun o=>hby.below ((Below.refl w2.heap.size w2).alloc nl o) nl
 have hge:¬((i:Int)≥(fs.length:Int)):=by omega
 have hlti:(i:Int)<(fs.length:Int):=by omega
 clear hby hrg HCP HW3;generalize fs.length=n at *
 by_cases hsn:sn=(x:Int)
 rotate_left
 ·have HN:Hid (∀ W,Bw w W->RP (.returned (.tuple #[.slice none 0 0,.bool false])) W):=fun W=>HNO.out W (fun h=>hsn (by rw [HIT.out.1];exact h.2.2.1))
  have hne:(sn != (x:Int))=true:=by rw [bne_iff_ne];exact hsn
  clear HNO HYES HG HIT HBY hsn;go_wp2;exact HN.out _ (HB3.out _)
 have hne:(sn != (x:Int))=false:=by rw [hsn];simp
 have HSN:Hid (sn=(x:Int)/\True):=⟨hsn,trivial⟩;clear hsn
 by_cases hsl:sl=[]
 ·have HN:Hid (∀ W,Bw w W->RP (.returned (.tuple #[.slice none 0 0,.bool false])) W):=fun W=>HNO.out W (fun h=>h.2.2.2 (by rw [<-HIT.out.2.1];exact hsl))
  subst hsl;clear HNO HYES HG HIT HBY;go_wp2;exact HN.out _ (HB3.out _)
 have hl0:((sl.length:Int) == 0)=false:=by
  have:sl.length≠0:=fun h=>hsl (List.length_eq_zero_iff.1 h)
  rw [beq_eq_false_iff_ne]
  omega
 have HY:Hid (∀ W,Byt W sa' sl->Bw w W->RP (.returned (.tuple #[.slice sa' sl.length sc',.bool true])) W):=fun W k1 k2=>HYES.out sa' sc' W sl HG.out HIT.out.2.2.1 (by rw [<-HIT.out.1];exact HSN.out.1) HIT.out.2.1.symm hsl k1 HIT.out.2.2.2 k2
 clear HNO HYES HG HIT HSN hsl;go_wp2;exact HY.out _ (HBY.out _) (HB3.out _)
theorem zf7 (f:List Int->Option (List Int)) (hf:zz f) (d:DkV) (x:Nat) (w:World) (hb:DkI w d) (hi:ItI w d.oa d.os) (hG:DkG f d) (hd:DkF d) (hc:RwC d) (hx:x<d.ms.length) :
  Calls Tryz.prog 20 #[.agg #[.slice d.sa d.ss.length d.sc,.slice d.pa d.ps.length d.pc,.int .i64 d.E,.int .i64 d.O,.slice d.ma d.ms.length d.mc,.slice d.va d.vs.length d.vc,.slice d.ca d.cs.length d.cc,.int .i64 d.F,.int .i64 d.G,.slice d.oa d.os.length d.oc],.int .i64 x] w (CtB f d x w):=by
 have HW0:Hid (Bw w (w.alloc (Obj.cells #[.slice d.sa d.ss.length d.sc,.slice d.pa d.ps.length d.pc,.int .i64 d.E,.int .i64 d.O,.slice d.ma d.ms.length d.mc,.slice d.va d.vs.length d.vc,.slice d.ca d.cs.length d.cc,.int .i64 d.F,.int .i64 d.G,.slice d.oa d.os.length d.oc] 48))):=ba;have hx0:=Dk10.new w d 48;have H1:=z86 d.F d.G x d.oa d.oc d.os (w.alloc (Obj.cells #[.slice d.sa d.ss.length d.sc,.slice d.pa d.ps.length d.pc,.int .i64 d.E,.int .i64 d.O,.slice d.ma d.ms.length d.mc,.slice d.va d.vs.length d.vc,.slice d.ca d.cs.length d.cc,.int .i64 d.F,.int .i64 d.G,.slice d.oa d.os.length d.oc] 48)) (hb.opn.below HW0.out nl) hd.opn.n
 have HB:Hid (DkI w d/\ItI w d.oa d.os/\DkG f d/\DkF d/\RwC d/\zz f):=⟨hb,hi,hG,hd,hc,hf⟩;have hxn:=(z19 d.ms hG.map).2;have hkn:=hG.op.n;clear hb hi hG hd hc hf;have HYES:Hid (∀ (ls:List Int) (a:Option Addr) (c:Nat) (W:World),CtR f d x (some ls)->Byt W a ls->ls.length<=c->Bw w W->CtB f d x w (.returned (.tuple #[.slice a ls.length c,.bool true])) W):=fun ls a c W h1 h2 h3 h4=>⟨⟨_,h1,.inl ⟨ls,a,c,rfl,rfl,h2,h3⟩⟩,h4⟩
 have HJ:Hid ((∀ j,j<d.os.length->(d.os.getD j de).n≠(x:Int))->(d.ms.getD x dp).1≠0->∀ (r:Ending) (W W':World),Bw w W->CtJ f d x W r W'->(∃ u v,r=.returned (.tuple #[u,v]))/\CtB f d x w r W'):=by
  rintro g1 g2 r W W' hW ⟨⟨h1,a,c,rfl,h2,h3⟩ | ⟨h1,rfl⟩,h4⟩
  ·exact ⟨⟨_,_,rfl⟩,⟨_,.inr ⟨g1,.inr ⟨g2,.inl ⟨h1,rfl⟩⟩⟩,.inl ⟨_,a,c,rfl,rfl,h2,h3⟩⟩,hW.trans (h4.mono hW.size)⟩
  ·exact ⟨⟨_,_,rfl⟩,⟨_,.inr ⟨g1,.inr ⟨g2,.inr ⟨h1,rfl⟩⟩⟩,.inr ⟨rfl,rfl⟩⟩,hW.trans (h4.mono hW.size)⟩
 generalize CtB f d x w=RP at *
 go_enter Tryz.func20,Tryz.ntmps20
 go_wp2_with fail
 generalize (w.alloc (Obj.cells #[.slice d.sa d.ss.length d.sc,.slice d.pa d.ps.length d.pc,.int .i64 d.E,.int .i64 d.O,.slice d.ma d.ms.length d.mc,.slice d.va d.vs.length d.vc,.slice d.ca d.cs.length d.cc,.int .i64 d.F,.int .i64 d.G,.slice d.oa d.os.length d.oc] 48))=W0 at *;refine H1.mono ?_;clear H1;rintro e w1 ⟨⟨z,rfl,hz⟩,hb1⟩;have HW1:Hid (Bw w w1):=HW0.out.trans (hb1.mono HW0.out.size);have hx1:=hx0.step hb1
 clear hb1 hx0 HW0;rcases hz with ⟨k,h1,rfl,h3,h4⟩ | ⟨rfl,h4⟩
 ·obtain ⟨b,off,hoa,hbl,c0,c1,hby,hrg⟩:=(HB.out.1.opn.below HW1.out nl).pen k h1
  obtain ⟨x0,x1,x2,x3,x4,x5,x6,x7,x8,x9,xl⟩:=hx1;rw [hoa] at x9;have HF:Hid (RP (.returned (.tuple #[.slice (d.os.getD k de).a (d.os.getD k de).ls.length (d.os.getD k de).c,.bool true])) w1):=HYES.out _ _ _ w1 (.inl ⟨k,h1,h3,h4,rfl⟩) hby (HB.out.2.1.cap _ (zf h1)) HW1.out;clear HYES HJ hby hrg h3 h4 HB hoa;have hk0:(0:Int)<=(k:Int)/\(k:Int)<(d.os.length:Int):=by omega
  generalize d.os.getD k de=it at *;generalize d.os.length=n at *;go_wp2;exact HF.out
 ·obtain ⟨b,off,hma,hbl,hcc⟩:=(HB.out.1.map.below HW1.out nl).len_pos x hx
  obtain ⟨c0,c1⟩:=hcc x hx;have hx1':=hx1;obtain ⟨x0,x1,x2,x3,x4,x5,x6,x7,x8,x9,xl⟩:=hx1;rw [hma] at x4;have H4:Hid (∀ j,j<d.os.length->(d.os.getD j de).n≠(x:Int)):=h4;clear h4 hcc
  by_cases hz:(d.ms.getD x dp).1=0
  ·have HF:Hid (RP (.returned (.tuple #[.slice none 0 0,.bool true])) w1):=HYES.out [] none 0 w1 (.inr ⟨H4.out,.inl ⟨hz,rfl⟩⟩) ⟨fun z hz=>by simp at hz,fun h=>by simp at h⟩ nl HW1.out
   rw [hz] at c0;clear HYES HJ HB hma hz H4 hx1';generalize d.ms.length=n at *;have hxi:(0:Int)<=(x:Int)/\(x:Int)<(n:Int):=by omega
   go_wp2
   exact HF.out
  ·have hzb:((d.ms.getD x dp).1 == 0)=false:=by rw [beq_eq_false_iff_ne];exact hz
   have HJ2:Hid (∀ (r:Ending) (W':World),CtJ f d x w1 r W'->(∃ u v,r=.returned (.tuple #[u,v]))/\RP r W'):=fun r W' h=>HJ.out H4.out hz r w1 W' HW1.out h
   have H2:=zef f HB.out.2.2.2.2.2 d x w1 (HB.out.1.below HW1.out nl) HB.out.2.2.1 HB.out.2.2.2.1 HB.out.2.2.2.2.1 hx;have hxi:(0:Int)<=(x:Int)/\(x:Int)<(d.ms.length:Int):=by omega
   have y4:=hx1'.c4;clear HYES HJ HB hz H4 hx1';rw [hma] at H2;clear hma y4;generalize (d.ms.getD x dp).1=mq at *;generalize d.ms.length=n at *;go_wp2_with fail
   refine H2.mono ?_;clear H2
   intro e w2 hj
   obtain ⟨⟨u,v,rfl⟩,HF0⟩:=HJ2.out e w2 hj;have HF:Hid (RP (.returned (.tuple #[u,v])) w2):=HF0;clear hj HF0 HJ2;go_wp2;exact HF.out
theorem Mine.capX {w:World} {B U:Nat} {a:Option Addr} {c:Nat} {zs:List Int} (h:Mine w B U a c zs):zs.length<=c/\c<=9223372036854775807:=by
 rcases h with ⟨-,rfl,rfl⟩ | ⟨g,-,-,-,h⟩
 ·simp
 ·rcases h.1.2 with ⟨e,_⟩ | ⟨g',cap',cur,e,-,-,r,r2,-⟩
  ·simp at e
  ·simp at e
   unfold maxLen at r2
   omega
theorem DkO.rwc {W:World} {B B1 B2 B3 B4 Z:Nat} {d:DkV} (h:DkO W B B1 B2 B3 B4 Z d):RwC d:=
 ⟨fun e he=>(h.raw.o.deep.mine e (List.mem_append_left _ he)).capX,fun e he=>(h.raw.o.deep.mine e (List.mem_append_right _ he)).capX⟩
end Go.Proofs.YtkomjdjfknpinaaGreatDoor
