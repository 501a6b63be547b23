/-
  What an address has, by the model: l10blob. (Typed by wip/mkct2.py.)
-/
import Derived.Test.YthngimdjjmhboaaGreatDoorCtS
namespace Go.Proofs.YthngimdjjmhboaaGreatDoor
open Go.RowKit
set_option linter.unusedVariables false
set_option linter.unusedSimpArgs false

set_option maxRecDepth 20000 in
set_option maxHeartbeats 8000000 in
theorem l10blob_any (f:List Int→Option (List Int)) (hf:DecF f) (d:DkV) (x:Nat) (w:World) (hb:DkI w d) (hi:ItI w d.oa d.os) (hG:DkG f d) (hd:DkF d) (hc:RwC d) (hx:x<d.ms.length) :
  Calls Tryz.prog 68 #[.agg #[Value.slice d.sa d.ss.length d.sc,Value.slice d.pa d.ps.length d.pc,Value.int IntKind.i64 d.E,Value.int IntKind.i64 d.O,Value.slice d.ma d.ms.length d.mc,Value.slice d.va d.vs.length d.vc,Value.slice d.ca d.cs.length d.cc,Value.int IntKind.i64 d.F,Value.int IntKind.i64 d.G,Value.slice d.oa d.os.length d.oc],.int .i64 x] w (CtB f d x w):=by
 have HW0:Hid (Below w.heap.size w (w.alloc (Obj.cells #[Value.slice d.sa d.ss.length d.sc,Value.slice d.pa d.ps.length d.pc,Value.int IntKind.i64 d.E,Value.int IntKind.i64 d.O,Value.slice d.ma d.ms.length d.mc,Value.slice d.va d.vs.length d.vc,Value.slice d.ca d.cs.length d.cc,Value.int IntKind.i64 d.F,Value.int IntKind.i64 d.G,Value.slice d.oa d.os.length d.oc] 49))):=(Below.refl _ _).alloc (Nat.le_refl _) _
 have hx0:=Dk10.new w d 49
 have H1:=l7find_any d.F d.G x d.oa d.oc d.os (w.alloc (Obj.cells #[Value.slice d.sa d.ss.length d.sc,Value.slice d.pa d.ps.length d.pc,Value.int IntKind.i64 d.E,Value.int IntKind.i64 d.O,Value.slice d.ma d.ms.length d.mc,Value.slice d.va d.vs.length d.vc,Value.slice d.ca d.cs.length d.cc,Value.int IntKind.i64 d.F,Value.int IntKind.i64 d.G,Value.slice d.oa d.os.length d.oc] 49)) (hb.opn.below HW0.out (Nat.le_refl _)) hd.opn.n
 have HB:Hid (DkI w d∧ItI w d.oa d.os∧DkG f d∧DkF d∧RwC d∧DecF f):=⟨hb,hi,hG,hd,hc,hf⟩
 have hxn:=(mapB_len d.ms hG.map).2
 have hkn:=hG.op.n
 clear hb hi hG hd hc hf
 have HYES:Hid (∀ (ls:List Int) (a:Option Addr) (c:Nat) (W:World),CtR f d x (some ls)→Byt W a ls→ls.length≤c→Below w.heap.size w W→CtB f d x w (.returned (.tuple #[.slice a ls.length c,.bool true])) W):=fun ls a c W h1 h2 h3 h4=>⟨⟨_,h1,.inl ⟨ls,a,c,rfl,rfl,h2,h3⟩⟩,h4⟩
 have HJ:Hid ((∀ j,j<d.os.length→(d.os.getD j de).n≠(x:Int))→(d.ms.getD x dp).1≠0→∀ (r:Ending) (W W':World),Below w.heap.size w W→CtJ f d x W r W'→(∃ u v,r=.returned (.tuple #[u,v]))∧CtB f d x w r W'):=by
  rintro g1 g2 r W W' hW ⟨⟨h1,a,c,rfl,h2,h3⟩ | ⟨h1,rfl⟩,h4⟩
  ·exact ⟨⟨_,_,rfl⟩,⟨_,.inr ⟨g1,.inr ⟨g2,.inl ⟨h1,rfl⟩⟩⟩,.inl ⟨_,a,c,rfl,rfl,h2,h3⟩⟩,hW.trans (h4.mono hW.size)⟩
  ·exact ⟨⟨_,_,rfl⟩,⟨_,.inr ⟨g1,.inr ⟨g2,.inr ⟨h1,rfl⟩⟩⟩,.inr ⟨rfl,rfl⟩⟩,hW.trans (h4.mono hW.size)⟩
 generalize CtB f d x w=RP at *
 go_enter Tryz.func68,Tryz.ntmps68
 go_wp2_with fail
 generalize (w.alloc (Obj.cells #[Value.slice d.sa d.ss.length d.sc,Value.slice d.pa d.ps.length d.pc,Value.int IntKind.i64 d.E,Value.int IntKind.i64 d.O,Value.slice d.ma d.ms.length d.mc,Value.slice d.va d.vs.length d.vc,Value.slice d.ca d.cs.length d.cc,Value.int IntKind.i64 d.F,Value.int IntKind.i64 d.G,Value.slice d.oa d.os.length d.oc] 49))=W0 at *
 refine H1.mono ?_
 clear H1
 rintro e w1 ⟨⟨z,rfl,hz⟩,hb1⟩
 have HW1:Hid (Below w.heap.size w w1):=HW0.out.trans (hb1.mono HW0.out.size)
 have hx1:=hx0.step hb1
 clear hb1 hx0 HW0
 rcases hz with ⟨k,h1,rfl,h3,h4⟩ | ⟨rfl,h4⟩
 ·obtain ⟨b,off,hoa,hbl,c0,c1,hby,hrg⟩:=(HB.out.1.opn.below HW1.out (Nat.le_refl _)).pen k h1
  obtain ⟨x0,x1,x2,x3,x4,x5,x6,x7,x8,x9,xl⟩:=hx1
  rw [hoa] at x9
  have HF:Hid (RP (.returned (.tuple #[.slice (d.os.getD k de).a (d.os.getD k de).ls.length (d.os.getD k de).c,.bool true])) w1):=HYES.out _ _ _ w1 (.inl ⟨k,h1,h3,h4,rfl⟩) hby (HB.out.2.1.cap _ (getD_memE h1)) HW1.out
  clear HYES HJ hby hrg h3 h4 HB hoa
  have hk0:(0:Int)≤(k:Int)∧(k:Int)<(d.os.length:Int):=by omega
  generalize d.os.getD k de=it at *
  generalize d.os.length=n at *
  go_wp2
  exact HF.out
 ·obtain ⟨b,off,hma,hbl,hcc⟩:=(HB.out.1.map.below HW1.out (Nat.le_refl _)).len_pos x hx
  obtain ⟨c0,c1⟩:=hcc x hx
  have hx1':=hx1
  obtain ⟨x0,x1,x2,x3,x4,x5,x6,x7,x8,x9,xl⟩:=hx1
  rw [hma] at x4
  have H4:Hid (∀ j,j<d.os.length→(d.os.getD j de).n≠(x:Int)):=h4
  clear h4 hcc
  by_cases hz:(d.ms.getD x dp).1=0
  ·have HF:Hid (RP (.returned (.tuple #[.slice none 0 0,.bool true])) w1):=HYES.out [] none 0 w1 (.inr ⟨H4.out,.inl ⟨hz,rfl⟩⟩) ⟨fun z hz=>by simp at hz,fun h=>by simp at h⟩ (Nat.le_refl _) HW1.out
   rw [hz] at c0
   clear HYES HJ HB hma hz H4 hx1'
   generalize d.ms.length=n at *
   have hxi:(0:Int)≤(x:Int)∧(x:Int)<(n:Int):=by omega
   go_wp2
   exact HF.out
  ·have hzb:((d.ms.getD x dp).1 == 0)=false:=by rw [beq_eq_false_iff_ne];exact hz
   have HJ2:Hid (∀ (r:Ending) (W':World),CtJ f d x w1 r W'→(∃ u v,r=.returned (.tuple #[u,v]))∧RP r W'):=fun r W' h=>HJ.out H4.out hz r w1 W' HW1.out h
   have H2:=l10item_any f HB.out.2.2.2.2.2 d x w1 (HB.out.1.below HW1.out (Nat.le_refl _)) HB.out.2.2.1 HB.out.2.2.2.1 HB.out.2.2.2.2.1 hx
   have hxi:(0:Int)≤(x:Int)∧(x:Int)<(d.ms.length:Int):=by omega
   have y4:=hx1'.c4
   clear HYES HJ HB hz H4 hx1'
   rw [hma] at H2
   clear hma y4
   generalize (d.ms.getD x dp).1=mq at *
   generalize d.ms.length=n at *
   go_wp2_with fail
   refine H2.mono ?_
   clear H2
   intro e w2 hj
   obtain ⟨⟨u,v,rfl⟩,HF0⟩:=HJ2.out e w2 hj
   have HF:Hid (RP (.returned (.tuple #[u,v])) w2):=HF0
   clear hj HF0 HJ2
   go_wp2
   exact HF.out
end Go.Proofs.YthngimdjjmhboaaGreatDoor
