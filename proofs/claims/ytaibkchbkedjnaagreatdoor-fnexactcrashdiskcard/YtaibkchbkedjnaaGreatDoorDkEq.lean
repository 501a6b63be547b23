import Derived.Test.YtaibkchbkedjnaaGreatDoorICopy
set_option maxRecDepth 20000
set_option maxHeartbeats 16000000
namespace Go.Proofs.YtaibkchbkedjnaaGreatDoor
open Go.RowKit
set_option linter.unusedVariables false
set_option linter.unusedSimpArgs false
structure TdS (w W:World) (d:DkV) (v:List Value) (Z:Nat) (PC:World->Prop):Prop where
 bel:Below w.heap.size w W
 x0:Dk10 W w.heap.size d
 x1:W.heap[w.heap.size+1]?=some (.cells #[.slice none 0 0,.slice none 0 0,.int .i64 0,.int .i64 0,.slice none 0 0,.slice none 0 0,.slice none 0 0,.int .i64 0,.int .i64 0,.slice none 0 0] 49 (0,0))
 x2:W.heap[w.heap.size+1+1]?=some (.cells v.toArray 49 (0,0))
 ord:w.heap.size+1+1+1<=Z/\Z<=W.heap.size
 st:Stab (w.heap.size+1+1+1) Z PC
 pc:PC W
theorem TdS.put {w W:World} {d:DkV} {v:List Value} {Z:Nat} {PC:World->Prop} (h:TdS w W d v Z PC) (i:Nat) (u:Value):TdS w (W.setCell ⟨w.heap.size+1+1,i,none⟩ u) d (v.set i u) Z PC:=by
 have ho:Only (fun b=>b=w.heap.size+1+1) W (W.setCell ⟨w.heap.size+1+1,i,none⟩ u):=(Only.refl (fun b=>b=w.heap.size+1+1) W).setCell (p:=⟨w.heap.size+1+1,i,none⟩) (.inl rfl) u
 have o:=h.ord;have hb:Below (w.heap.size+1+1) W (W.setCell ⟨w.heap.size+1+1,i,none⟩ u):=ho.below (by omega) (fun k hk=>by omega)
 refine ⟨h.bel.trans (hb.mono (by omega)),h.x0.keep hb (by omega),(ho.block _ (by omega) (by omega)).trans h.x1,?_,⟨o.1,Nat.le_trans o.2 ho.size⟩,h.st,h.st _ _ _ h.pc ho (fun k h1 h2 e=>by omega) o.2⟩
 rw [heap_setCell_same _ _ i _ _ u h.x2]
 simp
theorem TdS.more {w W W':World} {d:DkV} {v:List Value} {Z:Nat} {PC Q:World->Prop} (h:TdS w W d v Z PC) (hb:Below W.heap.size W W') (hq:Q W') (sq:Stab W.heap.size W'.heap.size Q):TdS w W' d v W'.heap.size (fun W=>PC W/\Q W):=by
 have o:=h.ord;have hs:=hb.size;exact ⟨h.bel.trans (hb.mono (by omega)),h.x0.step hb,(hb.block _ (by omega)).trans h.x1,(hb.block _ (by omega)).trans h.x2,⟨by omega,Nat.le_refl _⟩,(h.st.mono nl (by omega)).and (sq.mono (by omega) nl),h.st.below h.pc hb o.2,hq⟩
theorem TdS.last {w W:World} {d:DkV} {v:List Value} {Z:Nat} {PC:World->Prop} (h:TdS w W d v Z PC) {u0 u1 u2 u3 u4 u5 u6 u7 u8 u9:Value}:PC ((((((((((W.setCell ⟨w.heap.size+1,0,none⟩ u0).setCell ⟨w.heap.size+1,1,none⟩ u1).setCell ⟨w.heap.size+1,2,none⟩ u2).setCell ⟨w.heap.size+1,3,none⟩ u3).setCell ⟨w.heap.size+1,4,none⟩ u4).setCell ⟨w.heap.size+1,5,none⟩ u5).setCell ⟨w.heap.size+1,6,none⟩ u6).setCell ⟨w.heap.size+1,7,none⟩ u7).setCell ⟨w.heap.size+1,8,none⟩ u8).setCell ⟨w.heap.size+1,9,none⟩ u9)/\Below w.heap.size w ((((((((((W.setCell ⟨w.heap.size+1,0,none⟩ u0).setCell ⟨w.heap.size+1,1,none⟩ u1).setCell ⟨w.heap.size+1,2,none⟩ u2).setCell ⟨w.heap.size+1,3,none⟩ u3).setCell ⟨w.heap.size+1,4,none⟩ u4).setCell ⟨w.heap.size+1,5,none⟩ u5).setCell ⟨w.heap.size+1,6,none⟩ u6).setCell ⟨w.heap.size+1,7,none⟩ u7).setCell ⟨w.heap.size+1,8,none⟩ u8).setCell ⟨w.heap.size+1,9,none⟩ u9):=by
 have ho:Only (fun b=>b=w.heap.size+1) W ((((((((((W.setCell ⟨w.heap.size+1,0,none⟩ u0).setCell ⟨w.heap.size+1,1,none⟩ u1).setCell ⟨w.heap.size+1,2,none⟩ u2).setCell ⟨w.heap.size+1,3,none⟩ u3).setCell ⟨w.heap.size+1,4,none⟩ u4).setCell ⟨w.heap.size+1,5,none⟩ u5).setCell ⟨w.heap.size+1,6,none⟩ u6).setCell ⟨w.heap.size+1,7,none⟩ u7).setCell ⟨w.heap.size+1,8,none⟩ u8).setCell ⟨w.heap.size+1,9,none⟩ u9):=((((((((((Only.refl (fun b=>b=w.heap.size+1) W).setCell (p:=⟨w.heap.size+1,0,none⟩) (.inl rfl) u0).setCell (p:=⟨w.heap.size+1,1,none⟩) (.inl rfl) u1).setCell (p:=⟨w.heap.size+1,2,none⟩) (.inl rfl) u2).setCell (p:=⟨w.heap.size+1,3,none⟩) (.inl rfl) u3).setCell (p:=⟨w.heap.size+1,4,none⟩) (.inl rfl) u4).setCell (p:=⟨w.heap.size+1,5,none⟩) (.inl rfl) u5).setCell (p:=⟨w.heap.size+1,6,none⟩) (.inl rfl) u6).setCell (p:=⟨w.heap.size+1,7,none⟩) (.inl rfl) u7).setCell (p:=⟨w.heap.size+1,8,none⟩) (.inl rfl) u8).setCell (p:=⟨w.heap.size+1,9,none⟩) (.inl rfl) u9
 have o:=h.ord;exact ⟨h.st _ _ _ h.pc ho (fun k h1 h2 e=>by omega) o.2,h.bel.trans (ho.below h.bel.size (fun k hk=>by omega))⟩
theorem z2e (d:DkV) (w:World) (hb:DkI w d) (hf:DkF d) :
  Calls Tryz.prog 12 #[.agg #[.slice d.sa d.ss.length d.sc,.slice d.pa d.ps.length d.pc,.int .i64 d.E,.int .i64 d.O,.slice d.ma d.ms.length d.mc,.slice d.va d.vs.length d.vc,.slice d.ca d.cs.length d.cc,.int .i64 d.F,.int .i64 d.G,.slice d.oa d.os.length d.oc]] w fun e w'=>(∃ (e2:DkV) (B1 B2 B3 B4 Z:Nat),e=.returned (.agg #[.slice e2.sa e2.ss.length e2.sc,.slice e2.pa e2.ps.length e2.pc,.int .i64 e2.E,.int .i64 e2.O,.slice e2.ma e2.ms.length e2.mc,.slice e2.va e2.vs.length e2.vc,.slice e2.ca e2.cs.length e2.cc,.int .i64 e2.F,.int .i64 e2.G,.slice e2.oa e2.os.length e2.oc])/\DkS e2 d/\DkO w' w.heap.size B1 B2 B3 B4 Z e2/\Z<=w'.heap.size)/\Below w.heap.size w w':=by
 have hw:Below w.heap.size w (((w.alloc (Obj.cells #[.slice d.sa d.ss.length d.sc,.slice d.pa d.ps.length d.pc,.int .i64 d.E,.int .i64 d.O,.slice d.ma d.ms.length d.mc,.slice d.va d.vs.length d.vc,.slice d.ca d.cs.length d.cc,.int .i64 d.F,.int .i64 d.G,.slice d.oa d.os.length d.oc] 34)).alloc (Obj.cells #[.slice none 0 0,.slice none 0 0,.int .i64 0,.int .i64 0,.slice none 0 0,.slice none 0 0,.slice none 0 0,.int .i64 0,.int .i64 0,.slice none 0 0] 49)).alloc (Obj.cells #[.slice none 0 0,.slice none 0 0,.int .i64 0,.int .i64 0,.slice none 0 0,.slice none 0 0,.slice none 0 0,.int .i64 0,.int .i64 0,.slice none 0 0] 49)):=(((Below.refl _ _).alloc nl _).alloc (by simp) _).alloc (by simp;omega) _
 have H0:TdS w (((w.alloc (Obj.cells #[.slice d.sa d.ss.length d.sc,.slice d.pa d.ps.length d.pc,.int .i64 d.E,.int .i64 d.O,.slice d.ma d.ms.length d.mc,.slice d.va d.vs.length d.vc,.slice d.ca d.cs.length d.cc,.int .i64 d.F,.int .i64 d.G,.slice d.oa d.os.length d.oc] 34)).alloc (Obj.cells #[.slice none 0 0,.slice none 0 0,.int .i64 0,.int .i64 0,.slice none 0 0,.slice none 0 0,.slice none 0 0,.int .i64 0,.int .i64 0,.slice none 0 0] 49)).alloc (Obj.cells #[.slice none 0 0,.slice none 0 0,.int .i64 0,.int .i64 0,.slice none 0 0,.slice none 0 0,.slice none 0 0,.int .i64 0,.int .i64 0,.slice none 0 0] 49)) d [Value.slice none 0 0,.slice none 0 0,.int .i64 0,.int .i64 0,.slice none 0 0,.slice none 0 0,.slice none 0 0,.int .i64 0,.int .i64 0,.slice none 0 0] (w.heap.size+1+1+1) (fun _=>True):=by
  refine ⟨hw,((Dk10.new w d 34).alloc _).alloc _,?_,?_,⟨Nat.le_refl _,by simp⟩,Stab.true _ _,trivial⟩
  ·have h1:=heap_alloc_new (w.alloc (Obj.cells #[.slice d.sa d.ss.length d.sc,.slice d.pa d.ps.length d.pc,.int .i64 d.E,.int .i64 d.O,.slice d.ma d.ms.length d.mc,.slice d.va d.vs.length d.vc,.slice d.ca d.cs.length d.cc,.int .i64 d.F,.int .i64 d.G,.slice d.oa d.os.length d.oc] 34)) (Obj.cells #[.slice none 0 0,.slice none 0 0,.int .i64 0,.int .i64 0,.slice none 0 0,.slice none 0 0,.slice none 0 0,.int .i64 0,.int .i64 0,.slice none 0 0] 49)
   have h2:=((Below.refl ((w.alloc (Obj.cells #[.slice d.sa d.ss.length d.sc,.slice d.pa d.ps.length d.pc,.int .i64 d.E,.int .i64 d.O,.slice d.ma d.ms.length d.mc,.slice d.va d.vs.length d.vc,.slice d.ca d.cs.length d.cc,.int .i64 d.F,.int .i64 d.G,.slice d.oa d.os.length d.oc] 34)).alloc (Obj.cells #[.slice none 0 0,.slice none 0 0,.int .i64 0,.int .i64 0,.slice none 0 0,.slice none 0 0,.slice none 0 0,.int .i64 0,.int .i64 0,.slice none 0 0] 49)).heap.size _).alloc nl (Obj.cells #[.slice none 0 0,.slice none 0 0,.int .i64 0,.int .i64 0,.slice none 0 0,.slice none 0 0,.slice none 0 0,.int .i64 0,.int .i64 0,.slice none 0 0] 49)).block (w.heap.size+1) (by simp)
   rw [h2]
   simpa using h1
  ·have h1:=heap_alloc_new ((w.alloc (Obj.cells #[.slice d.sa d.ss.length d.sc,.slice d.pa d.ps.length d.pc,.int .i64 d.E,.int .i64 d.O,.slice d.ma d.ms.length d.mc,.slice d.va d.vs.length d.vc,.slice d.ca d.cs.length d.cc,.int .i64 d.F,.int .i64 d.G,.slice d.oa d.os.length d.oc] 34)).alloc (Obj.cells #[.slice none 0 0,.slice none 0 0,.int .i64 0,.int .i64 0,.slice none 0 0,.slice none 0 0,.slice none 0 0,.int .i64 0,.int .i64 0,.slice none 0 0] 49)) (Obj.cells #[.slice none 0 0,.slice none 0 0,.int .i64 0,.int .i64 0,.slice none 0 0,.slice none 0 0,.slice none 0 0,.int .i64 0,.int .i64 0,.slice none 0 0] 49)
   simpa using h1
 have HB:Hid (DkI w d/\DkF d):=⟨hb,hf⟩;have H1:=zg5 d.sa d.pa d.sc d.pc d.ss d.ps _ (hb.raw.below hw nl) hf.raw.n hf.raw.m hf.raw.l hf.raw.p;have hsz:(((w.alloc (Obj.cells #[.slice d.sa d.ss.length d.sc,.slice d.pa d.ps.length d.pc,.int .i64 d.E,.int .i64 d.O,.slice d.ma d.ms.length d.mc,.slice d.va d.vs.length d.vc,.slice d.ca d.cs.length d.cc,.int .i64 d.F,.int .i64 d.G,.slice d.oa d.os.length d.oc] 34)).alloc (Obj.cells #[.slice none 0 0,.slice none 0 0,.int .i64 0,.int .i64 0,.slice none 0 0,.slice none 0 0,.slice none 0 0,.int .i64 0,.int .i64 0,.slice none 0 0] 49)).alloc (Obj.cells #[.slice none 0 0,.slice none 0 0,.int .i64 0,.int .i64 0,.slice none 0 0,.slice none 0 0,.slice none 0 0,.int .i64 0,.int .i64 0,.slice none 0 0] 49)).heap.size=w.heap.size+1+1+1:=by simp
 clear hb hf hw
 go_enter Tryz.func12,Tryz.ntmps12
 go_wp2_with fail
 generalize ((w.alloc (Obj.cells #[.slice d.sa d.ss.length d.sc,.slice d.pa d.ps.length d.pc,.int .i64 d.E,.int .i64 d.O,.slice d.ma d.ms.length d.mc,.slice d.va d.vs.length d.vc,.slice d.ca d.cs.length d.cc,.int .i64 d.F,.int .i64 d.G,.slice d.oa d.os.length d.oc] 34)).alloc (Obj.cells #[.slice none 0 0,.slice none 0 0,.int .i64 0,.int .i64 0,.slice none 0 0,.slice none 0 0,.slice none 0 0,.int .i64 0,.int .i64 0,.slice none 0 0] 49)).alloc (Obj.cells #[.slice none 0 0,.slice none 0 0,.int .i64 0,.int .i64 0,.slice none 0 0,.slice none 0 0,.slice none 0 0,.int .i64 0,.int .i64 0,.slice none 0 0] 49)=W0 at *
 refine H1.mono ?_;clear H1;rintro e w1 ⟨⟨vs,vp,ss',ps',rfl,hc1,hc2,hr⟩,hb1⟩;obtain ⟨sa',sc',pa',pc',rfl,rfl⟩:=hr.form;have HCT:Hid (ss'.map El.ct=d.ss.map El.ct/\ps'.map El.ct=d.ps.map El.ct):=⟨hc1,hc2⟩;have T1:=H0.more hb1 hr.v (RawV.stab nl nl);have HO1:Hid (w.heap.size+1+1+1=W0.heap.size/\W0.heap.size<=w1.heap.size):=⟨hsz.symm,hb1.size⟩;clear hc1 hc2 hr hb1 H0 hsz;have T1a:=((((T1).put 0 (Value.slice sa' ss'.length sc')).put 1 (Value.slice pa' ps'.length pc')).put 2 (Value.int .i64 d.E)).put 3 (Value.int .i64 d.O)
 obtain ⟨x0,x1,x2,x3,x4,x5,x6,x7,x8,x9,xl⟩:=T1.x0;have y0:=zd (j:=0) T1.x2 rfl;have z0:=frozen_of_row _ _ 0 _ _ T1.x2;have y1:=zd (j:=1) T1.x2 rfl;have z1:=frozen_of_row _ _ 1 _ _ T1.x2;have y2:=zd (j:=2) T1.x2 rfl;have z2:=frozen_of_row _ _ 2 _ _ T1.x2;have y3:=zd (j:=3) T1.x2 rfl;have z3:=frozen_of_row _ _ 3 _ _ T1.x2;have H2:=z9c d.ma d.mc d.ms _ (HB.out.1.map.below T1a.bel nl) HB.out.2.ms;clear T1
 go_wp2_with fail
 clear x0 x1 x2 x3 x4 x5 x6 x7 x8 x9 xl y0 z0 y1 z1 y2 z2 y3 z3;generalize ((((w1).setCell ⟨w.heap.size+1+1,0,none⟩ (Value.slice sa' ss'.length sc')).setCell ⟨w.heap.size+1+1,1,none⟩ (Value.slice pa' ps'.length pc')).setCell ⟨w.heap.size+1+1,2,none⟩ (Value.int .i64 d.E)).setCell ⟨w.heap.size+1+1,3,none⟩ (Value.int .i64 d.O)=W1 at *;refine H2.mono ?_;clear H2;rintro e w2 ⟨g2,rfl,hr,hb2⟩;have T2:=T1a.more hb2 (Or.inr ⟨g2,rfl,hr.lt.1,hr.lt.2,hr⟩:MinP w2 W1.heap.size w2.heap.size (some ⟨g2,0,none⟩) d.ms.length d.ms) (z0z nl nl)
 have HO2:Hid (w1.heap.size<=W1.heap.size/\W1.heap.size<=w2.heap.size):=⟨T1a.ord.2,hb2.size⟩;clear hr hb2 T1a;have T2a:=(T2).put 4 (Value.slice (some ⟨g2,0,none⟩) d.ms.length d.ms.length);obtain ⟨x0,x1,x2,x3,x4,x5,x6,x7,x8,x9,xl⟩:=T2.x0;have y4:=zd (j:=4) T2.x2 rfl;have z4:=frozen_of_row _ _ 4 _ _ T2.x2;have H3:=z9c d.va d.vc d.vs _ (HB.out.1.sav.below T2a.bel nl) HB.out.2.vs;clear T2;go_wp2_with fail
 clear x0 x1 x2 x3 x4 x5 x6 x7 x8 x9 xl y4 z4;generalize (w2).setCell ⟨w.heap.size+1+1,4,none⟩ (Value.slice (some ⟨g2,0,none⟩) d.ms.length d.ms.length)=W2 at *;refine H3.mono ?_;clear H3;rintro e w3 ⟨g3,rfl,hr,hb3⟩;have T3:=T2a.more hb3 (Or.inr ⟨g3,rfl,hr.lt.1,hr.lt.2,hr⟩:MinP w3 W2.heap.size w3.heap.size (some ⟨g3,0,none⟩) d.vs.length d.vs) (z0z nl nl);have HO3:Hid (w2.heap.size<=W2.heap.size/\W2.heap.size<=w3.heap.size):=⟨T2a.ord.2,hb3.size⟩
 clear hr hb3 T2a;have T3a:=(T3).put 5 (Value.slice (some ⟨g3,0,none⟩) d.vs.length d.vs.length);obtain ⟨x0,x1,x2,x3,x4,x5,x6,x7,x8,x9,xl⟩:=T3.x0;have y5:=zd (j:=5) T3.x2 rfl;have z5:=frozen_of_row _ _ 5 _ _ T3.x2;have H4:=zeg d.ca d.cc d.cs _ (HB.out.1.chn.below T3a.bel nl) HB.out.2.cs;clear T3;go_wp2_with fail
 clear x0 x1 x2 x3 x4 x5 x6 x7 x8 x9 xl y5 z5;generalize (w3).setCell ⟨w.heap.size+1+1,5,none⟩ (Value.slice (some ⟨g3,0,none⟩) d.vs.length d.vs.length)=W3 at *;refine H4.mono ?_;clear H4;rintro e w4 ⟨rfl,hr,hb4⟩;have T4:=T3a.more hb4 hr.mine (Stab.minI nl nl);have HO4:Hid (w3.heap.size<=W3.heap.size/\W3.heap.size<=w4.heap.size):=⟨T3a.ord.2,hb4.size⟩;clear hr hb4 T3a;have T4a:=(T4).put 6 (Value.slice (some ⟨W3.heap.size,0,none⟩) d.cs.length d.cs.length)
 obtain ⟨x0,x1,x2,x3,x4,x5,x6,x7,x8,x9,xl⟩:=T4.x0;have y6:=zd (j:=6) T4.x2 rfl;have z6:=frozen_of_row _ _ 6 _ _ T4.x2;have H5:=ze8 d.F d.G d.oa d.oc d.os _ (HB.out.1.opn.below T4a.bel nl) HB.out.2.opn.n HB.out.2.opn.l;clear T4;go_wp2_with fail
 clear x0 x1 x2 x3 x4 x5 x6 x7 x8 x9 xl y6 z6;generalize (w4).setCell ⟨w.heap.size+1+1,6,none⟩ (Value.slice (some ⟨W3.heap.size,0,none⟩) d.cs.length d.cs.length)=W4 at *;refine H5.mono ?_;clear H5;rintro e w5 ⟨⟨g5,os',rfl,hr⟩,hb5⟩;have hl5:d.os.length=os'.length:=(zm hr.ct).symm;have HC5:Hid (os'.map El.ct=d.os.map El.ct):=hr.ct;rw [hl5] at hr ⊢;have T5:=T4a.more hb5 (⟨⟨rfl,hr.row,hr.deep,hr.rng⟩,hr.v.r,hr.v.d⟩:CopV w5 W4.heap.size w5.heap.size (.slice (some ⟨g5,0,none⟩) os'.length os'.length) os' os') (CopV.stab nl nl)
 have HO5:Hid (w4.heap.size<=W4.heap.size/\W4.heap.size<=w5.heap.size):=⟨T4a.ord.2,hb5.size⟩;clear hr hb5 T4a hl5;have T6:=((T5.put 7 (Value.int .i64 d.F)).put 8 (Value.int .i64 d.G)).put 9 (Value.slice (some ⟨g5,0,none⟩) os'.length os'.length);obtain ⟨x0,x1,x2,x3,x4,x5,x6,x7,x8,x9,xl⟩:=T5.x0;have y7:=zd (j:=7) T5.x2 rfl;have z7:=frozen_of_row _ _ 7 _ _ T5.x2;have y8:=zd (j:=8) T5.x2 rfl;have z8:=frozen_of_row _ _ 8 _ _ T5.x2
 have y9:=zd (j:=9) T5.x2 rfl;have z9:=frozen_of_row _ _ 9 _ _ T5.x2;have y0:=zd (j:=0) T5.x2 rfl;have y1:=zd (j:=1) T5.x2 rfl;have y2:=zd (j:=2) T5.x2 rfl;have y3:=zd (j:=3) T5.x2 rfl;have y4:=zd (j:=4) T5.x2 rfl;have y5:=zd (j:=5) T5.x2 rfl;have y6:=zd (j:=6) T5.x2 rfl;have p0:=zd (j:=0) T5.x1 rfl;have q0:=frozen_of_row _ _ 0 _ _ T5.x1;have p1:=zd (j:=1) T5.x1 rfl;have q1:=frozen_of_row _ _ 1 _ _ T5.x1
 have p2:=zd (j:=2) T5.x1 rfl;have q2:=frozen_of_row _ _ 2 _ _ T5.x1;have p3:=zd (j:=3) T5.x1 rfl;have q3:=frozen_of_row _ _ 3 _ _ T5.x1;have p4:=zd (j:=4) T5.x1 rfl;have q4:=frozen_of_row _ _ 4 _ _ T5.x1;have p5:=zd (j:=5) T5.x1 rfl;have q5:=frozen_of_row _ _ 5 _ _ T5.x1;have p6:=zd (j:=6) T5.x1 rfl;have q6:=frozen_of_row _ _ 6 _ _ T5.x1;have p7:=zd (j:=7) T5.x1 rfl;have q7:=frozen_of_row _ _ 7 _ _ T5.x1
 have p8:=zd (j:=8) T5.x1 rfl;have q8:=frozen_of_row _ _ 8 _ _ T5.x1;have p9:=zd (j:=9) T5.x1 rfl;have q9:=frozen_of_row _ _ 9 _ _ T5.x1;have t0:=zd (j:=0) T6.x1 rfl;have t1:=zd (j:=1) T6.x1 rfl;have t2:=zd (j:=2) T6.x1 rfl;have t3:=zd (j:=3) T6.x1 rfl;have t4:=zd (j:=4) T6.x1 rfl;have t5:=zd (j:=5) T6.x1 rfl;have t6:=zd (j:=6) T6.x1 rfl;have t7:=zd (j:=7) T6.x1 rfl;have t8:=zd (j:=8) T6.x1 rfl;have t9:=zd (j:=9) T6.x1 rfl
 obtain ⟨HPC,HBL⟩:=TdS.last T6 (u0:=Value.slice sa' ss'.length sc') (u1:=Value.slice pa' ps'.length pc') (u2:=Value.int .i64 d.E) (u3:=Value.int .i64 d.O) (u4:=Value.slice (some ⟨g2,0,none⟩) d.ms.length d.ms.length) (u5:=Value.slice (some ⟨g3,0,none⟩) d.vs.length d.vs.length) (u6:=Value.slice (some ⟨W3.heap.size,0,none⟩) d.cs.length d.cs.length) (u7:=Value.int .i64 d.F) (u8:=Value.int .i64 d.G) (u9:=Value.slice (some ⟨g5,0,none⟩) os'.length os'.length)
 have HF:Hid ((∃ (e2:DkV) (B1 B2 B3 B4 Z:Nat),Ending.returned (.agg #[.slice sa' ss'.length sc',.slice pa' ps'.length pc',.int .i64 d.E,.int .i64 d.O,.slice (some ⟨g2,0,none⟩) d.ms.length d.ms.length,.slice (some ⟨g3,0,none⟩) d.vs.length d.vs.length,.slice (some ⟨W3.heap.size,0,none⟩) d.cs.length d.cs.length,.int .i64 d.F,.int .i64 d.G,.slice (some ⟨g5,0,none⟩) os'.length os'.length])=.returned (.agg #[.slice e2.sa e2.ss.length e2.sc,.slice e2.pa e2.ps.length e2.pc,.int .i64 e2.E,.int .i64 e2.O,.slice e2.ma e2.ms.length e2.mc,.slice e2.va e2.vs.length e2.vc,.slice e2.ca e2.cs.length e2.cc,.int .i64 e2.F,.int .i64 e2.G,.slice e2.oa e2.os.length e2.oc])/\DkS e2 d/\DkO (((((((((((((w5.setCell ⟨w.heap.size+1+1,7,none⟩ (Value.int .i64 d.F)).setCell ⟨w.heap.size+1+1,8,none⟩ (Value.int .i64 d.G)).setCell ⟨w.heap.size+1+1,9,none⟩ (Value.slice (some ⟨g5,0,none⟩) os'.length os'.length)).setCell ⟨w.heap.size+1,0,none⟩ (Value.slice sa' ss'.length sc')).setCell ⟨w.heap.size+1,1,none⟩ (Value.slice pa' ps'.length pc')).setCell ⟨w.heap.size+1,2,none⟩ (Value.int .i64 d.E)).setCell ⟨w.heap.size+1,3,none⟩ (Value.int .i64 d.O)).setCell ⟨w.heap.size+1,4,none⟩ (Value.slice (some ⟨g2,0,none⟩) d.ms.length d.ms.length)).setCell ⟨w.heap.size+1,5,none⟩ (Value.slice (some ⟨g3,0,none⟩) d.vs.length d.vs.length)).setCell ⟨w.heap.size+1,6,none⟩ (Value.slice (some ⟨W3.heap.size,0,none⟩) d.cs.length d.cs.length)).setCell ⟨w.heap.size+1,7,none⟩ (Value.int .i64 d.F)).setCell ⟨w.heap.size+1,8,none⟩ (Value.int .i64 d.G)).setCell ⟨w.heap.size+1,9,none⟩ (Value.slice (some ⟨g5,0,none⟩) os'.length os'.length)) w.heap.size B1 B2 B3 B4 Z e2/\Z<=(((((((((((((w5.setCell ⟨w.heap.size+1+1,7,none⟩ (Value.int .i64 d.F)).setCell ⟨w.heap.size+1+1,8,none⟩ (Value.int .i64 d.G)).setCell ⟨w.heap.size+1+1,9,none⟩ (Value.slice (some ⟨g5,0,none⟩) os'.length os'.length)).setCell ⟨w.heap.size+1,0,none⟩ (Value.slice sa' ss'.length sc')).setCell ⟨w.heap.size+1,1,none⟩ (Value.slice pa' ps'.length pc')).setCell ⟨w.heap.size+1,2,none⟩ (Value.int .i64 d.E)).setCell ⟨w.heap.size+1,3,none⟩ (Value.int .i64 d.O)).setCell ⟨w.heap.size+1,4,none⟩ (Value.slice (some ⟨g2,0,none⟩) d.ms.length d.ms.length)).setCell ⟨w.heap.size+1,5,none⟩ (Value.slice (some ⟨g3,0,none⟩) d.vs.length d.vs.length)).setCell ⟨w.heap.size+1,6,none⟩ (Value.slice (some ⟨W3.heap.size,0,none⟩) d.cs.length d.cs.length)).setCell ⟨w.heap.size+1,7,none⟩ (Value.int .i64 d.F)).setCell ⟨w.heap.size+1,8,none⟩ (Value.int .i64 d.G)).setCell ⟨w.heap.size+1,9,none⟩ (Value.slice (some ⟨g5,0,none⟩) os'.length os'.length)).heap.size)/\Below w.heap.size w (((((((((((((w5.setCell ⟨w.heap.size+1+1,7,none⟩ (Value.int .i64 d.F)).setCell ⟨w.heap.size+1+1,8,none⟩ (Value.int .i64 d.G)).setCell ⟨w.heap.size+1+1,9,none⟩ (Value.slice (some ⟨g5,0,none⟩) os'.length os'.length)).setCell ⟨w.heap.size+1,0,none⟩ (Value.slice sa' ss'.length sc')).setCell ⟨w.heap.size+1,1,none⟩ (Value.slice pa' ps'.length pc')).setCell ⟨w.heap.size+1,2,none⟩ (Value.int .i64 d.E)).setCell ⟨w.heap.size+1,3,none⟩ (Value.int .i64 d.O)).setCell ⟨w.heap.size+1,4,none⟩ (Value.slice (some ⟨g2,0,none⟩) d.ms.length d.ms.length)).setCell ⟨w.heap.size+1,5,none⟩ (Value.slice (some ⟨g3,0,none⟩) d.vs.length d.vs.length)).setCell ⟨w.heap.size+1,6,none⟩ (Value.slice (some ⟨W3.heap.size,0,none⟩) d.cs.length d.cs.length)).setCell ⟨w.heap.size+1,7,none⟩ (Value.int .i64 d.F)).setCell ⟨w.heap.size+1,8,none⟩ (Value.int .i64 d.G)).setCell ⟨w.heap.size+1,9,none⟩ (Value.slice (some ⟨g5,0,none⟩) os'.length os'.length))):=by
  obtain ⟨⟨⟨⟨⟨-,c1⟩,c2⟩,c3⟩,c4⟩,c5⟩:=HPC;have h1:=HO1.out;have h2:=HO2.out;have h3:=HO3.out;have h4:=HO4.out;have h5:=HO5.out;refine ⟨⟨⟨sa',sc',ss',pa',pc',ps',d.E,d.O,some ⟨g2,0,none⟩,d.ms.length,d.ms,some ⟨g3,0,none⟩,d.vs.length,d.vs,some ⟨W3.heap.size,0,none⟩,d.cs.length,d.cs,d.F,d.G,some ⟨g5,0,none⟩,os'.length,os'⟩,w1.heap.size,w2.heap.size,w3.heap.size,w4.heap.size,w5.heap.size,rfl,⟨HCT.out.1,HCT.out.2,rfl,rfl,rfl,rfl,rfl,rfl,rfl,HC5.out⟩,⟨⟨c1.o.weak (by omega),c1.r⟩,c2.mono h2.1 nl,c3.mono h3.1 nl,c4.mono h4.1 nl,⟨c5.cop.weak h5.1,c5.r,c5.d⟩,by omega⟩,?_⟩,HBL⟩
  simp
 clear HPC HBL T5 T6 HO1 HO2 HO3 HO4 HO5 HCT HC5 HB;go_wp2;refine bodyPost_ret (v:=.agg #[.slice sa' ss'.length sc',.slice pa' ps'.length pc',.int .i64 d.E,.int .i64 d.O,.slice (some ⟨g2,0,none⟩) d.ms.length d.ms.length,.slice (some ⟨g3,0,none⟩) d.vs.length d.vs.length,.slice (some ⟨W3.heap.size,0,none⟩) d.cs.length d.cs.length,.int .i64 d.F,.int .i64 d.G,.slice (some ⟨g5,0,none⟩) os'.length os'.length]) (by simp [results,Tryz.results12,go_sem,t0,t1,t2,t3,t4,t5,t6,t7,t8,t9]) rfl ?_
 exact HF.out
theorem z61 {w W:World} {B:Nat} (h:Below B w W) (n:Nat):Below B w (W.drewN n):=⟨h.os,h.tape,h.output,h.size,h.block⟩
theorem zbt (a b:Option Addr) (ca cb:Nat) (ss ts:List El) (w:World) (ha:Els false w a ss) (hb:Els false w b ts) (hct:ss.map El.ct=ts.map El.ct) (hx:ss.length<=281474976710656) (hxl:∀ s ∈ ss,s.ls.length<=281474976710656) :
  Calls Tryz.prog 29 #[.slice a ss.length ca,.slice b ss.length cb] w fun e w'=>e=.returned (.bool true)/\Below w.heap.size w w':=by
 have htl:ts.length=ss.length:=by have:=congrArg List.length hct;simpa using this.symm
 have HA:Hid (Els false w a ss):=ha;have HB:Hid (Els false w b ts):=hb;have HCT:Hid (ss.map El.ct=ts.map El.ct/\ts.length=ss.length):=⟨hct,htl⟩;have HXL:Hid (∀ s ∈ ss,s.ls.length<=281474976710656):=hxl;clear ha hb hct htl hxl;generalize hlen:ss.length=n at *;have HL:Hid (ss.length=n/\True):=⟨hlen,trivial⟩;clear hlen;have hnn:((n:Int) != (n:Int))=false:=by simp
 go_enter Tryz.func29,Tryz.ntmps29
 go_wp2
 go_loopw [5] (fun i wr=>∃ k:Nat,k<=n/\i=.int .i64 k/\Below w.heap.size w wr) (fun i _=>n-(intOf i).toNat)
 case atStart=>exact ⟨0,Nat.zero_le _,rfl,Below.refl _ _⟩
 case round=>
  obtain ⟨k,hk,rfl,hbel⟩:=hrel
  by_cases hlt:k<n
  ·obtain ⟨b1,o1,rfl,hb1,c0,hy1,-⟩:=(HA.out.below hbel nl).sec k (by rw [HL.out.1];exact hlt)
   obtain ⟨b2,o2,rfl,hb2,d0,hy2,-⟩:=(HB.out.below hbel nl).sec k (by rw [HCT.out.2];exact hlt)
   have hml:=HXL.out _ (zf (k:=k) (by rw [HL.out.1];exact hlt))
   have hce:=z0o HCT.out.1 k;generalize ss.getD k de=s at *;generalize ts.getD k de=t at *;obtain ⟨sn,sa,sc,sl⟩:=s;obtain ⟨tn,ta,tc,tl⟩:=t
   simp only [El.ct,Prod.mk.injEq] at hce
   obtain ⟨rfl,rfl⟩:=hce
   simp only at c0 d0 hy1 hy2 hml
   have HY1:Hid (Byt wr sa sl):=hy1;have HY2:Hid (Byt wr ta sl):=hy2;have HML:Hid (sl.length<=281474976710656):=hml;have HC:Hid (wr.cell? ⟨b1,o1+k,none⟩=some (.slice sa sl.length sc)/\wr.cell? ⟨b2,o2+k,none⟩=some (.slice ta sl.length tc)):=⟨c0,d0⟩;clear hy1 hy2 hml c0 d0;go_wp2_with fail
   go_region_held3 (fun W=>W.cell? ⟨b1,o1+k,none⟩=some (.slice sa sl.length sc)/\W.cell? ⟨b2,o2+k,none⟩=some (.slice ta sl.length tc))
    (first | exact HC.out | exact HC8.out)
    (first
     | (go_at_call 14;refine (z32 sa ta sc tc sl _ (by exact HY1.out) (by exact HY2.out) HML.out).mono ?_;rintro e w8 ⟨rfl,n8,hw8⟩;have HB8:Hid (Below w.heap.size w w8):=(by rw [hw8];exact z61 (z61 hbel 1) n8);have HC8:Hid (w8.cell? ⟨b1,o1+k,none⟩=some (.slice sa sl.length sc)/\w8.cell? ⟨b2,o2+k,none⟩=some (.slice ta sl.length tc)):=(by rw [hw8];exact HC.out);clear hw8))
   clear HC HC8;go_wp2;go_roundw
   case rel=>exact ⟨k+1,by omega,by go_num,HB8.out⟩
   case measure=>simp [intOf];omega
  ·have hkn:k=n:=by omega
   subst hkn;go_wp2;go_ret;exact ⟨rfl,hbel⟩
theorem ze9 (a b:Option Addr) (ca cb:Nat) (xs:List Int) (n:Int) (w:World) (ha:Byt w a xs) (hb:Byt w b xs) (hx:xs.length<=281474976710656) :
  Calls Tryz.prog 106 #[.agg #[.int .i64 n,.slice a xs.length ca],.agg #[.int .i64 n,.slice b xs.length cb]] w fun e w'=>e=.returned (.bool true)/\Below w.heap.size w w':=by
 have hw:Below w.heap.size w ((w.alloc (Obj.cells #[.int .i64 n,.slice a xs.length ca] 141)).alloc (Obj.cells #[.int .i64 n,.slice b xs.length cb] 141)):=((Below.refl _ _).alloc nl _).alloc (by simp) _
 have hnn:(n != n)=false:=by simp
 go_enter Tryz.func106,Tryz.ntmps106
 go_wp2_with fail
 refine (z32 a b ca cb xs _ (ha.below hw nl) (hb.below hw nl) hx).mono ?_;rintro e w1 ⟨rfl,nq,rfl⟩;go_wp2;go_ret;exact ⟨rfl,z61 hw _⟩
theorem zd4 (a b:Option Addr) (ca cb:Nat) (ss ts:List El) (w:World) (ha:Els true w a ss) (hb:Els true w b ts) (hct:ss.map El.ct=ts.map El.ct) (hx:ss.length<=281474976710656) (hxl:∀ s ∈ ss,s.ls.length<=281474976710656) :
  Calls Tryz.prog 63 #[.slice a ss.length ca,.slice b ss.length cb] w fun e w'=>e=.returned (.bool true)/\Below w.heap.size w w':=by
 have htl:ts.length=ss.length:=by have:=congrArg List.length hct;simpa using this.symm
 have HA:Hid (Els true w a ss):=ha;have HB:Hid (Els true w b ts):=hb;have HCT:Hid (ss.map El.ct=ts.map El.ct/\ts.length=ss.length):=⟨hct,htl⟩;have HXL:Hid (∀ s ∈ ss,s.ls.length<=281474976710656):=hxl;clear ha hb hct htl hxl;generalize hlen:ss.length=n at *;have HL:Hid (ss.length=n/\True):=⟨hlen,trivial⟩;clear hlen;have hnn:((n:Int) != (n:Int))=false:=by simp
 go_enter Tryz.func63,Tryz.ntmps63
 go_wp2
 go_loopw [5] (fun i wr=>∃ k:Nat,k<=n/\i=.int .i64 k/\Below w.heap.size w wr) (fun i _=>n-(intOf i).toNat)
 case atStart=>exact ⟨0,Nat.zero_le _,rfl,Below.refl _ _⟩
 case round=>
  obtain ⟨k,hk,rfl,hbel⟩:=hrel
  by_cases hlt:k<n
  ·obtain ⟨b1,o1,rfl,hb1,c0,c1,hy1,-⟩:=(HA.out.below hbel nl).pen k (by rw [HL.out.1];exact hlt)
   obtain ⟨b2,o2,rfl,hb2,d0,d1,hy2,-⟩:=(HB.out.below hbel nl).pen k (by rw [HCT.out.2];exact hlt)
   have hml:=HXL.out _ (zf (k:=k) (by rw [HL.out.1];exact hlt))
   have hce:=z0o HCT.out.1 k;generalize ss.getD k de=s at *;generalize ts.getD k de=t at *;obtain ⟨sn,sa,sc,sl⟩:=s;obtain ⟨tn,ta,tc,tl⟩:=t
   simp only [El.ct,Prod.mk.injEq] at hce
   obtain ⟨rfl,rfl⟩:=hce
   simp only at c0 c1 d0 d1 hy1 hy2 hml
   have HY1:Hid (Byt wr sa sl):=hy1;have HY2:Hid (Byt wr ta sl):=hy2;have HML:Hid (sl.length<=281474976710656):=hml;have HC:Hid (wr.cell? ⟨b1,o1+k*2,none⟩=some (.int .i64 sn)/\wr.cell? ⟨b1,o1+k*2+1,none⟩=some (.slice sa sl.length sc)/\wr.cell? ⟨b2,o2+k*2,none⟩=some (.int .i64 sn)/\wr.cell? ⟨b2,o2+k*2+1,none⟩=some (.slice ta sl.length tc)):=⟨c0,c1,d0,d1⟩;clear hy1 hy2 hml c0 c1 d0 d1;go_wp2_with fail
   go_region_held3 (fun W=>W.cell? ⟨b1,o1+k*2,none⟩=some (.int .i64 sn)/\W.cell? ⟨b1,o1+k*2+1,none⟩=some (.slice sa sl.length sc)/\W.cell? ⟨b2,o2+k*2,none⟩=some (.int .i64 sn)/\W.cell? ⟨b2,o2+k*2+1,none⟩=some (.slice ta sl.length tc))
    (first | exact HC.out | exact HC8.out)
    (first
     | (go_at_call 106;refine (ze9 sa ta sc tc sl sn _ (by exact HY1.out) (by exact HY2.out) HML.out).mono ?_;rintro e w8 ⟨rfl,hb8'⟩;have HB8:Hid (Below w.heap.size w w8):=hbel.trans ((Below.drewS hb8').mono hbel.size);have HC8:Hid (w8.cell? ⟨b1,o1+k*2,none⟩=some (.int .i64 sn)/\w8.cell? ⟨b1,o1+k*2+1,none⟩=some (.slice sa sl.length sc)/\w8.cell? ⟨b2,o2+k*2,none⟩=some (.int .i64 sn)/\w8.cell? ⟨b2,o2+k*2+1,none⟩=some (.slice ta sl.length tc)):=⟨keep (Below.drewS hb8') hb1 HC.out.1,keep (Below.drewS hb8') hb1 HC.out.2.1,keep (Below.drewS hb8') hb2 HC.out.2.2.1,keep (Below.drewS hb8') hb2 HC.out.2.2.2⟩;clear hb8'))
   clear HC HC8;go_wp2;go_roundw
   case rel=>exact ⟨k+1,by omega,by go_num,HB8.out⟩
   case measure=>simp [intOf];omega
  ·have hkn:k=n:=by omega
   subst hkn;go_wp2;go_ret;exact ⟨rfl,hbel⟩
theorem z9a (sa pa ta qa:Option Addr) (sc pc tc qc:Nat) (ss ps ts qs:List El) (w:World) (ha:RawI w sa pa ss ps) (hb:RawI w ta qa ts qs) (h1:ss.map El.ct=ts.map El.ct) (h2:ps.map El.ct=qs.map El.ct) (hx:Few ss ps) :
  Calls Tryz.prog 22 #[.agg #[.slice sa ss.length sc,.slice pa ps.length pc],.agg #[.slice ta ss.length tc,.slice qa ps.length qc]] w fun e w'=>e=.returned (.bool true)/\Below w.heap.size w w':=by
 have HA:Hid (RawI w sa pa ss ps/\RawI w ta qa ts qs):=⟨ha,hb⟩;have HC:Hid (ss.map El.ct=ts.map El.ct/\ps.map El.ct=qs.map El.ct):=⟨h1,h2⟩;have HX:Hid (Few ss ps):=hx;clear ha hb h1 h2 hx
 go_enter Tryz.func22,Tryz.ntmps22
 have hw:Below w.heap.size w ((w.alloc (Obj.cells #[.slice sa ss.length sc,.slice pa ps.length pc] 41)).alloc (Obj.cells #[.slice ta ss.length tc,.slice qa ps.length qc] 41)):=((Below.refl _ _).alloc nl _).alloc (by simp) _
 have hx0:Box2 ((w.alloc (Obj.cells #[.slice sa ss.length sc,.slice pa ps.length pc] 41)).alloc (Obj.cells #[.slice ta ss.length tc,.slice qa ps.length qc] 41)) w.heap.size (.slice sa ss.length sc) (.slice pa ps.length pc):=(Box2.new w _ _ 41).alloc _;have hx1:Box2 ((w.alloc (Obj.cells #[.slice sa ss.length sc,.slice pa ps.length pc] 41)).alloc (Obj.cells #[.slice ta ss.length tc,.slice qa ps.length qc] 41)) (w.heap.size+1) (.slice ta ss.length tc) (.slice qa ps.length qc):=by
  have h9:=Box2.new (w.alloc (Obj.cells #[.slice sa ss.length sc,.slice pa ps.length pc] 41)) (.slice ta ss.length tc) (.slice qa ps.length qc) 41
  simpa using h9
 go_wp2_with fail
 have hsz:w.heap.size+1+1=((w.alloc (Obj.cells #[.slice sa ss.length sc,.slice pa ps.length pc] 41)).alloc (Obj.cells #[.slice ta ss.length tc,.slice qa ps.length qc] 41)).heap.size:=by simp
 generalize (w.alloc (Obj.cells #[.slice sa ss.length sc,.slice pa ps.length pc] 41)).alloc (Obj.cells #[.slice ta ss.length tc,.slice qa ps.length qc] 41)=W at *;refine (zbt sa ta sc tc ss ts W (HA.out.1.1.below hw nl) (HA.out.2.1.below hw nl) HC.out.1 (by have:=HX.out.n;omega) (fun s hs=>by have:=HX.out.l s hs;omega)).mono ?_
 rintro e w1 ⟨rfl,hb1⟩;have hy0:=hx0.keep hb1 hx0.lt;have hy1:=hx1.keep hb1 hx1.lt;have HB1:Hid (Below w.heap.size w w1):=hw.trans (hb1.mono hw.size);clear hb1 hw hx0 hx1 hsz;obtain ⟨r0,r1,-,-,rl⟩:=hy0;obtain ⟨s0,s1,-,-,sl⟩:=hy1;go_wp2_with fail
 refine (zd4 pa qa pc qc ps qs w1 (HA.out.1.2.below HB1.out nl) (HA.out.2.2.below HB1.out nl) HC.out.2 (by have:=HX.out.m;omega) (fun s hs=>by have:=HX.out.p s hs;omega)).mono ?_
 rintro e w2 ⟨rfl,hb2⟩;have HB2:Hid (Below w.heap.size w w2):=HB1.out.trans (hb2.mono HB1.out.size);clear hb2;go_wp2;go_ret;exact ⟨rfl,HB2.out⟩
theorem zcn (x y:Int) (w:World) :
  Calls Tryz.prog 143 #[.agg #[.int .i64 x,.int .i64 y],.agg #[.int .i64 x,.int .i64 y]] w fun e w'=>e=.returned (.bool true)/\Below w.heap.size w w':=by
 have hw:Below w.heap.size w ((w.alloc (Obj.cells #[.int .i64 x,.int .i64 y] 127)).alloc (Obj.cells #[.int .i64 x,.int .i64 y] 127)):=
  ((Below.refl _ _).alloc nl _).alloc (by simp) _
 have h1:(x != x)=false:=by simp
 have h2:(y != y)=false:=by simp
 go_enter Tryz.func143,Tryz.ntmps143
 go_wp2
 go_ret;exact ⟨rfl,hw⟩
theorem zbr (a b:Option Addr) (ca cb:Nat) (ps:List (Int × Int)) (w:World) (ha:Pls w a ps) (hb:Pls w b ps) (hx:ps.length<=1048576) :
  Calls Tryz.prog 99 #[.slice a ps.length ca,.slice b ps.length cb] w fun e w'=>e=.returned (.bool true)/\Below w.heap.size w w':=by
 have HA:Hid (Pls w a ps):=ha;have HB:Hid (Pls w b ps):=hb;clear ha hb;generalize hlen:ps.length=n at *;have HL:Hid (ps.length=n/\True):=⟨hlen,trivial⟩;clear hlen;have hnn:((n:Int) != (n:Int))=false:=by simp
 go_enter Tryz.func99,Tryz.ntmps99
 go_wp2
 go_loopw [5] (fun i wr=>∃ k:Nat,k<=n/\i=.int .i64 k/\Below w.heap.size w wr) (fun i _=>n-(intOf i).toNat)
 case atStart=>exact ⟨0,Nat.zero_le _,rfl,Below.refl _ _⟩
 case round=>
  obtain ⟨k,hk,rfl,hbel⟩:=hrel
  by_cases hlt:k<n
  ·obtain ⟨b1,o1,rfl,hb1,hc1⟩:=(HA.out.below hbel nl).len_pos k (by rw [HL.out.1];exact hlt)
   obtain ⟨b2,o2,rfl,hb2,hc2⟩:=(HB.out.below hbel nl).len_pos k (by rw [HL.out.1];exact hlt)
   obtain ⟨c0,c1⟩:=hc1 k (by rw [HL.out.1];exact hlt)
   obtain ⟨d0,d1⟩:=hc2 k (by rw [HL.out.1];exact hlt)
   clear hc1 hc2;generalize ps.getD k dp=p at *;obtain ⟨x,y⟩:=p
   simp only at c0 c1 d0 d1
   have HC:Hid (wr.cell? ⟨b1,o1+k*2,none⟩=some (.int .i64 x)/\wr.cell? ⟨b1,o1+k*2+1,none⟩=some (.int .i64 y)/\wr.cell? ⟨b2,o2+k*2,none⟩=some (.int .i64 x)/\wr.cell? ⟨b2,o2+k*2+1,none⟩=some (.int .i64 y)):=⟨c0,c1,d0,d1⟩;clear c0 c1 d0 d1;go_wp2_with fail
   go_region_held3 (fun W=>W.cell? ⟨b1,o1+k*2,none⟩=some (.int .i64 x)/\W.cell? ⟨b1,o1+k*2+1,none⟩=some (.int .i64 y)/\W.cell? ⟨b2,o2+k*2,none⟩=some (.int .i64 x)/\W.cell? ⟨b2,o2+k*2+1,none⟩=some (.int .i64 y))
    (first | exact HC.out | exact HC8.out)
    (first
     | (go_at_call 143;refine (zcn x y _).mono ?_;rintro e w8 ⟨rfl,hb8'⟩;have HB8:Hid (Below w.heap.size w w8):=hbel.trans ((Below.drewS hb8').mono hbel.size);have HC8:Hid (w8.cell? ⟨b1,o1+k*2,none⟩=some (.int .i64 x)/\w8.cell? ⟨b1,o1+k*2+1,none⟩=some (.int .i64 y)/\w8.cell? ⟨b2,o2+k*2,none⟩=some (.int .i64 x)/\w8.cell? ⟨b2,o2+k*2+1,none⟩=some (.int .i64 y)):=⟨keep (Below.drewS hb8') hb1 HC.out.1,keep (Below.drewS hb8') hb1 HC.out.2.1,keep (Below.drewS hb8') hb2 HC.out.2.2.1,keep (Below.drewS hb8') hb2 HC.out.2.2.2⟩))
   clear HC HC8;go_wp2;go_roundw
   case rel=>exact ⟨k+1,by omega,by go_num,HB8.out⟩
   case measure=>simp [intOf];omega
  ·have hkn:k=n:=by omega
   subst hkn;go_wp2;go_ret;exact ⟨rfl,hbel⟩
theorem zgp (a b:Option Addr) (ca cb:Nat) (ps:List (Int × Int)) (w:World) (ha:Pls w a ps) (hb:Pls w b ps) (hx:ps.length<=1048576) :
  Calls Tryz.prog 55 #[.agg #[.slice a ps.length ca],.agg #[.slice b ps.length cb]] w fun e w'=>e=.returned (.bool true)/\Below w.heap.size w w':=by
 have hw:Below w.heap.size w ((w.alloc (Obj.cells #[.slice a ps.length ca] 44)).alloc (Obj.cells #[.slice b ps.length cb] 44)):=
  ((Below.refl _ _).alloc nl _).alloc (by simp) _
 go_enter Tryz.func55,Tryz.ntmps55
 go_wp2_with fail
 refine (zbr a b ca cb ps _ (ha.below hw nl) (hb.below hw nl) hx).mono ?_;rintro e w1 ⟨rfl,hb1⟩;go_wp2;go_ret;exact ⟨rfl,hw.trans (hb1.mono (by simp;omega))⟩
theorem zez (a b:Option Addr) (ca cb:Nat) (xs ys:List Int) (w:World) (ha:Ins w a xs) (hb:Ins w b ys) (hx:xs.length<=281474976710656) (hy:ys.length<=281474976710656) :
  Calls Tryz.prog 56 #[.slice a xs.length ca,.slice b ys.length cb] w fun e w'=>e=.returned (.bool (decide (xs=ys)))/\∃ n,w'=w.drewN n:=by
 by_cases hl:xs.length=ys.length
 ·generalize hlx:xs.length=n at *
  have HX:Hid (xs.length=n):=hlx;have HY:Hid (ys.length=n):=hl.symm;rw [<-hl];have hnn:((n:Int) != (n:Int))=false:=by simp
  clear hlx hl hy
  go_enter Tryz.func56,Tryz.ntmps56
  go_wp2
  go_loopw [5] (fun i wr=>∃ k m:Nat,k<=n/\i=.int .i64 k/\wr=w.drewN m/\xs.take k=ys.take k) (fun i _=>n-(intOf i).toNat)
  case atStart=>exact ⟨0,0,Nat.zero_le _,rfl,rfl,by simp⟩
  case round=>
   obtain ⟨k,m,hk,rfl,rfl,htk⟩:=hrel;have HT:Hid (xs.take k=ys.take k):=htk;clear htk
   by_cases hlt:k<n
   ·obtain ⟨b1,o1,rfl,hb1,hc1⟩:=ha.len_pos k (by rw [HX.out];exact hlt)
    obtain ⟨b2,o2,rfl,hb2,hc2⟩:=hb.len_pos k (by rw [HY.out];exact hlt)
    have hs1:=hc1 k (by rw [HX.out];exact hlt)
    have hs2:=hc2 k (by rw [HY.out];exact hlt)
    have g1:=z15 ha.1 k;have g2:=z15 hb.1 k;clear hc1 hc2 ha hb;generalize hx1:xs.getD k 0=x1 at *;generalize hy1:ys.getD k 0=y1 at *;have HX1:Hid (xs.getD k 0=x1):=hx1;have HY1:Hid (ys.getD k 0=y1):=hy1;clear hx1 hy1
    by_cases hxy:x1=y1
    ·subst hxy
     have hq:(x1 != x1)=false:=by simp
     have HT':Hid (xs.take (k+1)=ys.take (k+1)):=z4m HT.out (by rw [HX.out];exact hlt) (by rw [HY.out];exact hlt) (by rw [HX1.out,HY1.out])
     go_wp2
     go_quiet (fail)
     go_wp2
     go_roundw
     case rel=>exact ⟨k+1,_,by omega,by go_num,rfl,HT'.out⟩
     case measure=>simp [intOf];omega
    ·have hq:(x1 != y1)=true:=by rw [bne_iff_ne];exact hxy
     have HN:Hid (decide (xs=ys)=false):=by
      have:xs≠ys:=z79 (k:=k) (by rw [HX1.out,HY1.out];exact hxy)
      simpa [Hid] using this
     clear hxy;go_wp2
     go_quiet (fail)
     go_wp2
     go_ret;exact ⟨by rw [HN.out];rfl,_,World.drewN_drewN ..⟩
   ·have HE:Hid (decide (xs=ys)=true):=by
     have h1:=HT.out;rw [List.take_of_length_le (by rw [HX.out];omega),List.take_of_length_le (by rw [HY.out];omega)] at h1
     simpa [Hid] using h1
    go_wp2
    go_ret;exact ⟨by rw [HE.out];rfl,_,rfl⟩
 ·have hne:decide (xs=ys)=false:=by simp;intro h;exact hl (by rw [h])
  have hl':((xs.length:Int) != (ys.length:Int))=true:=by rw [bne_iff_ne];omega
  rw [hne]
  go_enter Tryz.func56,Tryz.ntmps56
  go_wp2
  go_ret;exact ⟨rfl,0,rfl⟩
theorem zfa (a b:Option Addr) (ca cb:Nat) (xs:List Int) (w:World) (ha:Ins w a xs) (hb:Ins w b xs) (hx:xs.length<=281474976710656) :
  Calls Tryz.prog 56 #[.slice a xs.length ca,.slice b xs.length cb] w fun e w'=>e=.returned (.bool true)/\∃ n,w'=w.drewN n:=by
 refine (zez a b ca cb xs xs w ha hb hx hx).mono ?_;rintro e w' ⟨rfl,h⟩;exact ⟨by simp,h⟩
theorem zi6 (sa pa ta qa:Option Addr) (sc pc tc qc:Nat) (ss ps ts qs:List El) (w:World) (ha:RawI w sa pa ss ps) (hb:RawI w ta qa ts qs) (h1:ss.map El.ct=ts.map El.ct) (h2:ps.map El.ct=qs.map El.ct) (hx:Few ss ps) :
  Calls Tryz.prog 22 #[.agg #[.slice sa ss.length sc,.slice pa ps.length pc],.agg #[.slice ta ts.length tc,.slice qa qs.length qc]] w fun e w'=>e=.returned (.bool true)/\Below w.heap.size w w':=by
 rw [<-zm h1,<-zm h2];exact z9a sa pa ta qa sc pc tc qc ss ps ts qs w ha hb h1 h2 hx
theorem zfx (E O E' O':Int) (a b:Option Addr) (ca cb:Nat) (ss ts:List El) (w:World) (ha:Els true w a ss) (hb:Els true w b ts) (hct:ss.map El.ct=ts.map El.ct) (hx:FewI ss) (hE:E=E') (hO:O=O') :
  Calls Tryz.prog 57 #[.agg #[.int .i64 E,.int .i64 O,.slice a ss.length ca],.agg #[.int .i64 E',.int .i64 O',.slice b ts.length cb]] w fun e w'=>e=.returned (.bool true)/\Below w.heap.size w w':=by
 subst hE hO;rw [<-zm hct];exact ze7 E O a b ca cb ss ts w ha hb hct hx
theorem zbe (a b:Option Addr) (ca cb:Nat) (ps qs:List (Int × Int)) (w:World) (ha:Pls w a ps) (hb:Pls w b qs) (h:ps=qs) (hx:ps.length<=1048576) :
  Calls Tryz.prog 55 #[.agg #[.slice a ps.length ca],.agg #[.slice b qs.length cb]] w fun e w'=>e=.returned (.bool true)/\Below w.heap.size w w':=by
 subst h;exact zgp a b ca cb ps w ha hb hx
theorem zgl (a b:Option Addr) (ca cb:Nat) (xs ys:List Int) (w:World) (ha:Ins w a xs) (hb:Ins w b ys) (h:xs=ys) (hx:xs.length<=1048576) :
  Calls Tryz.prog 56 #[.slice a xs.length ca,.slice b ys.length cb] w fun e w'=>e=.returned (.bool true)/\Below w.heap.size w w':=by
 subst h;refine (zfa a b ca cb xs w ha hb (by omega)).mono ?_
 rintro e w1 ⟨rfl,n,rfl⟩;exact ⟨rfl,⟨rfl,rfl,rfl,Nat.le_refl _,fun _ _=>rfl⟩⟩
theorem ze2 (d e:DkV) (w:World) (hd:DkI w d) (he:DkI w e) (hs:DkS d e) (hf:DkF d) :
  Calls Tryz.prog 15 #[.agg #[.slice d.sa d.ss.length d.sc,.slice d.pa d.ps.length d.pc,.int .i64 d.E,.int .i64 d.O,.slice d.ma d.ms.length d.mc,.slice d.va d.vs.length d.vc,.slice d.ca d.cs.length d.cc,.int .i64 d.F,.int .i64 d.G,.slice d.oa d.os.length d.oc],.agg #[.slice e.sa e.ss.length e.sc,.slice e.pa e.ps.length e.pc,.int .i64 e.E,.int .i64 e.O,.slice e.ma e.ms.length e.mc,.slice e.va e.vs.length e.vc,.slice e.ca e.cs.length e.cc,.int .i64 e.F,.int .i64 e.G,.slice e.oa e.os.length e.oc]] w fun r w'=>r=.returned (.bool true)/\Below w.heap.size w w':=by
 have hw0:Below w.heap.size w (w.alloc (Obj.cells #[.slice d.sa d.ss.length d.sc,.slice d.pa d.ps.length d.pc,.int .i64 d.E,.int .i64 d.O,.slice d.ma d.ms.length d.mc,.slice d.va d.vs.length d.vc,.slice d.ca d.cs.length d.cc,.int .i64 d.F,.int .i64 d.G,.slice d.oa d.os.length d.oc] 49)):=ba;have hw:Below w.heap.size w ((w.alloc (Obj.cells #[.slice d.sa d.ss.length d.sc,.slice d.pa d.ps.length d.pc,.int .i64 d.E,.int .i64 d.O,.slice d.ma d.ms.length d.mc,.slice d.va d.vs.length d.vc,.slice d.ca d.cs.length d.cc,.int .i64 d.F,.int .i64 d.G,.slice d.oa d.os.length d.oc] 49)).alloc (Obj.cells #[.slice e.sa e.ss.length e.sc,.slice e.pa e.ps.length e.pc,.int .i64 e.E,.int .i64 e.O,.slice e.ma e.ms.length e.mc,.slice e.va e.vs.length e.vc,.slice e.ca e.cs.length e.cc,.int .i64 e.F,.int .i64 e.G,.slice e.oa e.os.length e.oc] 49)):=hw0.alloc (by simp) _
 have hx:=(Dk10.new w d 49).alloc (Obj.cells #[.slice e.sa e.ss.length e.sc,.slice e.pa e.ps.length e.pc,.int .i64 e.E,.int .i64 e.O,.slice e.ma e.ms.length e.mc,.slice e.va e.vs.length e.vc,.slice e.ca e.cs.length e.cc,.int .i64 e.F,.int .i64 e.G,.slice e.oa e.os.length e.oc] 49);have hy:=Dk10.new (w.alloc (Obj.cells #[.slice d.sa d.ss.length d.sc,.slice d.pa d.ps.length d.pc,.int .i64 d.E,.int .i64 d.O,.slice d.ma d.ms.length d.mc,.slice d.va d.vs.length d.vc,.slice d.ca d.cs.length d.cc,.int .i64 d.F,.int .i64 d.G,.slice d.oa d.os.length d.oc] 49)) e 49
 simp only [World.size_alloc] at hy
 have HB:Hid (DkI w d/\DkI w e/\DkF d/\DkS d e):=⟨hd,he,hf,hs⟩;clear hd he hf hs hw0;have H1:=zi6 d.sa d.pa e.sa e.pa d.sc d.pc e.sc e.pc d.ss d.ps e.ss e.ps _ (HB.out.1.raw.below hw nl) (HB.out.2.1.raw.below hw nl) HB.out.2.2.2.ss HB.out.2.2.2.ps HB.out.2.2.1.raw
 go_enter Tryz.func15,Tryz.ntmps15
 go_wp2_with fail
 generalize (w.alloc (Obj.cells #[.slice d.sa d.ss.length d.sc,.slice d.pa d.ps.length d.pc,.int .i64 d.E,.int .i64 d.O,.slice d.ma d.ms.length d.mc,.slice d.va d.vs.length d.vc,.slice d.ca d.cs.length d.cc,.int .i64 d.F,.int .i64 d.G,.slice d.oa d.os.length d.oc] 49)).alloc (Obj.cells #[.slice e.sa e.ss.length e.sc,.slice e.pa e.ps.length e.pc,.int .i64 e.E,.int .i64 e.O,.slice e.ma e.ms.length e.mc,.slice e.va e.vs.length e.vc,.slice e.ca e.cs.length e.cc,.int .i64 e.F,.int .i64 e.G,.slice e.oa e.os.length e.oc] 49)=W0 at *
 have hE:(d.E != e.E)=false:=by simp [HB.out.2.2.2.E]
 have hO:(d.O != e.O)=false:=by simp [HB.out.2.2.2.O]
 refine H1.mono ?_;clear H1;rintro r w1 ⟨rfl,hb1⟩;have HW1:Hid (Below w.heap.size w w1):=hw.trans (hb1.mono hw.size);have hx1:=hx.step hb1;have hy1:=hy.step hb1;clear hb1 hw hx hy;obtain ⟨x0,x1,x2,x3,x4,x5,x6,x7,x8,x9,xl⟩:=id hx1;obtain ⟨y0,y1,y2,y3,y4,y5,y6,y7,y8,y9,yl⟩:=id hy1;have H2:=zbe d.ma e.ma d.mc e.mc d.ms e.ms w1 (HB.out.1.map.below HW1.out nl) (HB.out.2.1.map.below HW1.out nl) HB.out.2.2.2.ms HB.out.2.2.1.ms
 go_wp2_with fail
 refine H2.mono ?_;clear H2;rintro r w2 ⟨rfl,hb2⟩;have HW2:Hid (Below w.heap.size w w2):=HW1.out.trans (hb2.mono HW1.out.size);have hx2:=hx1.step hb2;have hy2:=hy1.step hb2;clear hb2 HW1 hx1 hy1;clear x0 x1 x2 x3 x4 x5 x6 x7 x8 x9 xl y0 y1 y2 y3 y4 y5 y6 y7 y8 y9 yl;obtain ⟨x0,x1,x2,x3,x4,x5,x6,x7,x8,x9,xl⟩:=id hx2;obtain ⟨y0,y1,y2,y3,y4,y5,y6,y7,y8,y9,yl⟩:=id hy2;have H3:=zbe d.va e.va d.vc e.vc d.vs e.vs w2 (HB.out.1.sav.below HW2.out nl) (HB.out.2.1.sav.below HW2.out nl) HB.out.2.2.2.vs HB.out.2.2.1.vs
 go_wp2_with fail
 refine H3.mono ?_;clear H3;rintro r w3 ⟨rfl,hb3⟩;have HW3:Hid (Below w.heap.size w w3):=HW2.out.trans (hb3.mono HW2.out.size);have hx3:=hx2.step hb3;have hy3:=hy2.step hb3;clear hb3 HW2 hx2 hy2;clear x0 x1 x2 x3 x4 x5 x6 x7 x8 x9 xl y0 y1 y2 y3 y4 y5 y6 y7 y8 y9 yl;obtain ⟨x0,x1,x2,x3,x4,x5,x6,x7,x8,x9,xl⟩:=id hx3;obtain ⟨y0,y1,y2,y3,y4,y5,y6,y7,y8,y9,yl⟩:=id hy3;have H4:=zgl d.ca e.ca d.cc e.cc d.cs e.cs w3 (HB.out.1.chn.below HW3.out nl) (HB.out.2.1.chn.below HW3.out nl) HB.out.2.2.2.cs HB.out.2.2.1.cs
 go_wp2_with fail
 refine H4.mono ?_;clear H4;rintro r w4 ⟨rfl,hb4⟩;have HW4:Hid (Below w.heap.size w w4):=HW3.out.trans (hb4.mono HW3.out.size);have hx4:=hx3.step hb4;have hy4:=hy3.step hb4;clear hb4 HW3 hx3 hy3;clear x0 x1 x2 x3 x4 x5 x6 x7 x8 x9 xl y0 y1 y2 y3 y4 y5 y6 y7 y8 y9 yl;obtain ⟨x0,x1,x2,x3,x4,x5,x6,x7,x8,x9,xl⟩:=id hx4;obtain ⟨y0,y1,y2,y3,y4,y5,y6,y7,y8,y9,yl⟩:=id hy4;have H5:=zfx d.F d.G e.F e.G d.oa e.oa d.oc e.oc d.os e.os w4 (HB.out.1.opn.below HW4.out nl) (HB.out.2.1.opn.below HW4.out nl) HB.out.2.2.2.os HB.out.2.2.1.opn HB.out.2.2.2.F HB.out.2.2.2.G
 go_wp2_with fail
 refine H5.mono ?_;clear H5;rintro r w5 ⟨rfl,hb5⟩;have HW5:Hid (Below w.heap.size w w5):=HW4.out.trans (hb5.mono HW4.out.size);have hx5:=hx4.step hb5;have hy5:=hy4.step hb5;clear hb5 HW4 hx4 hy4;clear x0 x1 x2 x3 x4 x5 x6 x7 x8 x9 xl y0 y1 y2 y3 y4 y5 y6 y7 y8 y9 yl;clear hx5 hy5;go_wp2;go_ret;exact ⟨rfl,HW5.out⟩
end Go.Proofs.YtaibkchbkedjnaaGreatDoor
