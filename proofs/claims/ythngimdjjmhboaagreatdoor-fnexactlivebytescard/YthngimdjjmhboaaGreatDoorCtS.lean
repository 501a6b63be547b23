/-
  What an address has, by the model.
-/
import Derived.Test.YthngimdjjmhboaaGreatDoorCtM
import Derived.Test.YthngimdjjmhboaaGreatDoorRwRdL
import Derived.Test.YthngimdjjmhboaaGreatDoorRp6
import Derived.Test.YthngimdjjmhboaaGreatDoorDkI1
namespace Go.Proofs.YthngimdjjmhboaaGreatDoor
open Go.RowKit
set_option linter.unusedVariables false
set_option linter.unusedSimpArgs false

structure RwC (d:DkV):Prop where
 s:∀ e ∈ d.ss,e.ls.length≤e.c∧e.c≤9223372036854775807
 p:∀ e ∈ d.ps,e.ls.length≤e.c∧e.c≤9223372036854775807
theorem RwC.rd {d:DkV} (h:RwC d) {q:Nat} (hq:q<d.ss.length):(rdE d.ss d.ps q).ls.length≤(rdE d.ss d.ps q).c∧(rdE d.ss d.ps q).c≤9223372036854775807:=by
 unfold rdE
 cases ha:lastU d.ps q d.ps.length with
 | none=>simp only [Option.getD_none,Int.toNat_natCast];exact h.s _ (getD_memE hq)
 | some e=>exact h.p e (lastU_mem ha (Nat.le_refl _))
def CtJ (f:List Int→Option (List Int)) (d:DkV) (x:Nat) (w:World) (r:Ending) (w':World):Prop:=
 ((CtG f d x∧∃ a c,r=.returned (.tuple #[.slice a (ctE d x).ls.length c,.bool true])∧Byt w' a (ctE d x).ls∧(ctE d x).ls.length≤c)∨(¬CtG f d x∧r=.returned (.tuple #[.slice none 0 0,.bool false])))∧Below w.heap.size w w'
def CtB (f:List Int→Option (List Int)) (d:DkV) (x:Nat) (w:World) (r:Ending) (w':World):Prop:=
 (∃ o,CtR f d x o∧((∃ ls a c,o=some ls∧r=.returned (.tuple #[.slice a ls.length c,.bool true])∧Byt w' a ls∧ls.length≤c)∨(o=none∧r=.returned (.tuple #[.slice none 0 0,.bool false]))))∧Below w.heap.size w w'

set_option maxRecDepth 20000 in
set_option maxHeartbeats 8000000 in
theorem l10item_any (f:List Int→Option (List Int)) (hf:DecF f) (d:DkV) (x:Nat) (w:World) (hb:DkI w d) (hG:DkG f d) (hd:DkF d) (hc:RwC d) (hx:x<d.ms.length) :
  Calls Tryz.prog 110 #[.agg #[Value.slice d.sa d.ss.length d.sc,Value.slice d.pa d.ps.length d.pc,Value.int IntKind.i64 d.E,Value.int IntKind.i64 d.O,Value.slice d.ma d.ms.length d.mc,Value.slice d.va d.vs.length d.vc,Value.slice d.ca d.cs.length d.cc,Value.int IntKind.i64 d.F,Value.int IntKind.i64 d.G,Value.slice d.oa d.os.length d.oc],.int .i64 x] w (CtJ f d x w):=by
 obtain ⟨b,off,hma,hbl,hcc⟩:=hb.map.len_pos x hx
 obtain ⟨c0,c1⟩:=hcc x hx
 obtain ⟨p1,p2,p3,p4⟩:=plc_all hG.map x hx
 have hq1:=hG.pm x hx
 obtain ⟨q,hq⟩:=Int.eq_ofNat_of_zero_le p1
 obtain ⟨i,hi⟩:=Int.eq_ofNat_of_zero_le p3
 have hxn:=(mapB_len d.ms hG.map).2
 have HZ:Hid (ctZ d x=(rdE d.ss d.ps q).ls∧ctI d x=i):=by
  unfold ctZ ctI
  rw [hq,hi]
  exact ⟨rfl,rfl⟩
 rw [hq] at hq1 c0 p2
 rw [hi] at c1 p4
 have HB:Hid (RawI w d.sa d.pa d.ss d.ps∧DecF f):=⟨hb.raw,hf⟩
 have hqn:q<d.ss.length:=by omega
 have HRD:=hc.rd hqn
 have HLN:=rdE_len (rok_ok hG.raw) hqn
 have HFS:Hid (d.ss.length≤1000000∧d.ps.length≤1000000):=by
  obtain ⟨r1,r2,r3,-⟩:=rok_ok hG.raw
  exact ⟨by omega,by omega⟩
 have HBY:Hid (Byt w (rdE d.ss d.ps q).a (rdE d.ss d.ps q).ls):=rdE_byt hb.raw hqn
 clear hcc hq hi p1 p3 hb hG hd hc hf
 have HYES:Hid (∀ (a:Option Addr) (c:Nat) (W:World) (l:List Int),PrG f (rdE d.ss d.ps q).ls→i<rpM (rdE d.ss d.ps q).ls→(itE (rdE d.ss d.ps q).ls (rpM (rdE d.ss d.ps q).ls) i).n=(x:Int)→(itE (rdE d.ss d.ps q).ls (rpM (rdE d.ss d.ps q).ls) i).ls=l→l≠[]→Byt W a l→l.length≤c→Below w.heap.size w W→CtJ f d x w (.returned (.tuple #[.slice a l.length c,.bool true])) W):=by
  rintro a c W l g1 g2 g3 rfl g4 g5 g6 g7
  have hz:=HZ.out
  have e1:ctE d x=itE (rdE d.ss d.ps q).ls (rpM (rdE d.ss d.ps q).ls) i:=by unfold ctE;rw [hz.1,hz.2]
  rw [←e1] at g3 g4 g5 g6 ⊢
  exact ⟨.inl ⟨⟨by rw [hz.1];exact g1,by rw [hz.1,hz.2];exact g2,g3,g4⟩,a,c,rfl,g5,g6⟩,g7⟩
 have HNO:Hid (∀ (W:World),¬(PrG f (rdE d.ss d.ps q).ls∧i<rpM (rdE d.ss d.ps q).ls∧(itE (rdE d.ss d.ps q).ls (rpM (rdE d.ss d.ps q).ls) i).n=(x:Int)∧(itE (rdE d.ss d.ps q).ls (rpM (rdE d.ss d.ps q).ls) i).ls≠[])→Below w.heap.size w W→CtJ f d x w (.returned (.tuple #[.slice none 0 0,.bool false])) W):=by
  intro W g1 g2
  have hz:=HZ.out
  refine ⟨.inr ⟨fun h=>g1 ?_,rfl⟩,g2⟩
  obtain ⟨k1,k2,k3,k4⟩:=h
  unfold ctE at k3 k4
  rw [hz.1] at k1 k2 k3 k4
  rw [hz.2] at k2 k3 k4
  exact ⟨k1,k2,k3,k4⟩
 clear HZ
 generalize CtJ f d x w=RP at *
 obtain ⟨sa,sc,ss,pa,pc,ps,E,O,ma,mc,ms,va,vc,vs,ca,cc,cs,F,G,oa,oc,os⟩:=d
 dsimp only at *
 subst hma
 have HW0:Hid (Below w.heap.size w (w.alloc (Obj.cells #[Value.slice sa ss.length sc,Value.slice pa ps.length pc,Value.int IntKind.i64 E,Value.int IntKind.i64 O,Value.slice (some ⟨b,off,none⟩) ms.length mc,Value.slice va vs.length vc,Value.slice ca cs.length cc,Value.int IntKind.i64 F,Value.int IntKind.i64 G,Value.slice oa os.length oc] 49))):=(Below.refl _ _).alloc (Nat.le_refl _) _
 have hY:=Dk10.new w ⟨sa,sc,ss,pa,pc,ps,E,O,(some ⟨b,off,none⟩),mc,ms,va,vc,vs,ca,cc,cs,F,G,oa,oc,os⟩ 49
 dsimp only at hY
 have hYa:=hY.alloc (Obj.cells #[Value.int IntKind.i64 (q:Int),Value.int IntKind.i64 (i:Int)] 127)
 have HW1:Hid (Below w.heap.size w ((w.alloc (Obj.cells #[Value.slice sa ss.length sc,Value.slice pa ps.length pc,Value.int IntKind.i64 E,Value.int IntKind.i64 O,Value.slice (some ⟨b,off,none⟩) ms.length mc,Value.slice va vs.length vc,Value.slice ca cs.length cc,Value.int IntKind.i64 F,Value.int IntKind.i64 G,Value.slice oa os.length oc] 49)).alloc (Obj.cells #[Value.int IntKind.i64 (q:Int),Value.int IntKind.i64 (i:Int)] 127))):=HW0.out.alloc (by simp) _
 have hP2:=Box2.new (w.alloc (Obj.cells #[Value.slice sa ss.length sc,Value.slice pa ps.length pc,Value.int IntKind.i64 E,Value.int IntKind.i64 O,Value.slice (some ⟨b,off,none⟩) ms.length mc,Value.slice va vs.length vc,Value.slice ca cs.length cc,Value.int IntKind.i64 F,Value.int IntKind.i64 G,Value.slice oa os.length oc] 49)) (.int .i64 (q:Int)) (.int .i64 (i:Int)) 127
 have H1:=l6read_any sa pa sc pc ss ps q ((w.alloc (Obj.cells #[Value.slice sa ss.length sc,Value.slice pa ps.length pc,Value.int IntKind.i64 E,Value.int IntKind.i64 O,Value.slice (some ⟨b,off,none⟩) ms.length mc,Value.slice va vs.length vc,Value.slice ca cs.length cc,Value.int IntKind.i64 F,Value.int IntKind.i64 G,Value.slice oa os.length oc] 49)).alloc (Obj.cells #[Value.int IntKind.i64 (q:Int),Value.int IntKind.i64 (i:Int)] 127)) (HB.out.1.below HW1.out (Nat.le_refl _)) hqn HFS.out.1 HFS.out.2
 have d0:=keepA (Obj.cells #[Value.slice sa ss.length sc,Value.slice pa ps.length pc,Value.int IntKind.i64 E,Value.int IntKind.i64 O,Value.slice (some ⟨b,off,none⟩) ms.length mc,Value.slice va vs.length vc,Value.slice ca cs.length cc,Value.int IntKind.i64 F,Value.int IntKind.i64 G,Value.slice oa os.length oc] 49) hbl c0
 have d1:=keepA (Obj.cells #[Value.slice sa ss.length sc,Value.slice pa ps.length pc,Value.int IntKind.i64 E,Value.int IntKind.i64 O,Value.slice (some ⟨b,off,none⟩) ms.length mc,Value.slice va vs.length vc,Value.slice ca cs.length cc,Value.int IntKind.i64 F,Value.int IntKind.i64 G,Value.slice oa os.length oc] 49) hbl c1
 clear c0 c1
 go_enter Tryz.func110,Tryz.ntmps110
 go_wp2_with fail
 generalize (w.alloc (Obj.cells #[Value.slice sa ss.length sc,Value.slice pa ps.length pc,Value.int IntKind.i64 E,Value.int IntKind.i64 O,Value.slice (some ⟨b,off,none⟩) ms.length mc,Value.slice va vs.length vc,Value.slice ca cs.length cc,Value.int IntKind.i64 F,Value.int IntKind.i64 G,Value.slice oa os.length oc] 49)).alloc (Obj.cells #[Value.int IntKind.i64 (q:Int),Value.int IntKind.i64 (i:Int)] 127)=W1 at *
 have HPB:Hid (Box2 W1 (w.heap.size+1) (.int .i64 (q:Int)) (.int .i64 (i:Int))):=(by simpa using hP2:Box2 W1 (w.heap.size+1) (.int .i64 (q:Int)) (.int .i64 (i:Int)))
 refine H1.mono ?_
 clear H1 hP2 hY hYa d0 d1 HW0 HFS
 generalize rdE ss ps (q:Int)=ee at *
 obtain ⟨en,ea,ec,zs⟩:=ee
 dsimp only at *
 rintro e w1 ⟨rfl,hb1⟩
 have HW2:Hid (Below w.heap.size w w1):=HW1.out.trans (hb1.mono HW1.out.size)
 have HP1:Hid (Box2 w1 (w.heap.size+1) (.int .i64 (q:Int)) (.int .i64 (i:Int))):=HPB.out.keep hb1 HPB.out.lt
 have H2:=specPackRead_any f HB.out.2 ea ec zs w1 (HBY.out.below HW2.out (Nat.le_refl _)) (by omega) HRD.1 HRD.2
 clear hb1 HPB HW1 HBY HB HRD HLN
 go_wp2_with fail
 refine H2.mono ?_
 clear H2
 rintro e w2 ⟨h2,hb2⟩
 have HW3:Hid (Below w.heap.size w w2):=HW2.out.trans (hb2.mono HW2.out.size)
 obtain ⟨y0,y1,-,-,yl⟩:=HP1.out.keep hb2 HP1.out.lt
 rcases h2 with ⟨hg,v,fs,rfl,hcp⟩ | ⟨hg,rfl⟩
 rotate_left 1
 ·have HN:Hid (∀ W,Below w.heap.size w W→RP (.returned (.tuple #[.slice none 0 0,.bool false])) W):=fun W=>HNO.out W (fun h=>hg h.1)
  have HB3:Hid (∀ o,Below w.heap.size w (w2.alloc o)):=fun o=>HW3.out.alloc HW3.out.size o
  clear hg HNO HYES HW2 HP1 hb2
  go_wp2
  exact HN.out _ (HB3.out _)
 obtain ⟨va',vc',hv⟩:=hcp.row.form
 subst hv
 have hfl:fs.length=rpM zs:=by rw [len_ctE hcp.ct,itL_len]
 have HCP:Hid (ItI w2 va' fs∧fs.map El.ct=(itL zs (rpM zs) (rpM zs)).map El.ct∧fs.length=rpM zs):=⟨hcp.its,hcp.ct,hfl⟩
 have HB3:Hid (∀ o,Below w.heap.size w (w2.alloc o)):=fun o=>HW3.out.alloc HW3.out.size o
 have hfn:fs.length≤16:=by
  have:=hg.ok.n
  rw [itL_len] at this
  omega
 have HG:Hid (PrG f zs):=hg
 clear hcp hfl hg HW2 HP1 hb2
 by_cases hlt:i<fs.length
 rotate_left 1
 ·have HN:Hid (∀ W,Below w.heap.size w W→RP (.returned (.tuple #[.slice none 0 0,.bool false])) W):=fun W=>HNO.out W (fun h=>hlt (by rw [HCP.out.2.2];exact h.2.1))
  have hge:((i:Int) ≥ (fs.length:Int)):=by omega
  clear HNO HYES HCP HG
  go_wp2
  exact HN.out _ (HB3.out _)
 obtain ⟨b2,off2,hva,hbb,e0,e1,hby,hrg⟩:=HCP.out.1.els.pen i hlt
 subst hva
 have HIT:Hid ((fs.getD i de).n=(itE zs (rpM zs) i).n∧(fs.getD i de).ls=(itE zs (rpM zs) i).ls∧i<rpM zs∧(fs.getD i de).ls.length≤(fs.getD i de).c):=by
  have h1:=ctE_get HCP.out.2.1 i
  rw [itL_getC _ _ (by rw [←HCP.out.2.2];exact hlt)] at h1
  exact ⟨congrArg Prod.fst h1,congrArg Prod.snd h1,by rw [←HCP.out.2.2];exact hlt,HCP.out.1.cap _ (getD_memE hlt)⟩
 generalize fs.getD i de=it at *
 obtain ⟨sn,sa',sc',sl⟩:=it
 dsimp only at *
 have HBY:Hid (∀ o,Byt (w2.alloc o) sa' sl):=fun o=>hby.below ((Below.refl w2.heap.size w2).alloc (Nat.le_refl _) o) (Nat.le_refl _)
 have hge:¬((i:Int) ≥ (fs.length:Int)):=by omega
 have hlti:(i:Int)<(fs.length:Int):=by omega
 clear hby hrg HCP HW3
 generalize fs.length=n at *
 by_cases hsn:sn=(x:Int)
 rotate_left 1
 ·have HN:Hid (∀ W,Below w.heap.size w W→RP (.returned (.tuple #[.slice none 0 0,.bool false])) W):=fun W=>HNO.out W (fun h=>hsn (by rw [HIT.out.1];exact h.2.2.1))
  have hne:(sn != (x:Int))=true:=by rw [bne_iff_ne];exact hsn
  clear HNO HYES HG HIT HBY hsn
  go_wp2
  exact HN.out _ (HB3.out _)
 have hne:(sn != (x:Int))=false:=by rw [hsn];simp
 have HSN:Hid (sn=(x:Int)∧True):=⟨hsn,trivial⟩
 clear hsn
 by_cases hsl:sl=[]
 ·have HN:Hid (∀ W,Below w.heap.size w W→RP (.returned (.tuple #[.slice none 0 0,.bool false])) W):=fun W=>HNO.out W (fun h=>h.2.2.2 (by rw [←HIT.out.2.1];exact hsl))
  subst hsl
  clear HNO HYES HG HIT HBY
  go_wp2
  exact HN.out _ (HB3.out _)
 have hl0:((sl.length:Int) == 0)=false:=by
  have:sl.length≠0:=fun h=>hsl (List.length_eq_zero_iff.1 h)
  rw [beq_eq_false_iff_ne]
  omega
 have HY:Hid (∀ W,Byt W sa' sl→Below w.heap.size w W→RP (.returned (.tuple #[.slice sa' sl.length sc',.bool true])) W):=fun W k1 k2=>HYES.out sa' sc' W sl HG.out HIT.out.2.2.1 (by rw [←HIT.out.1];exact HSN.out.1) HIT.out.2.1.symm hsl k1 HIT.out.2.2.2 k2
 clear HNO HYES HG HIT HSN hsl
 go_wp2
 exact HY.out _ (HBY.out _) (HB3.out _)
end Go.Proofs.YthngimdjjmhboaaGreatDoor
