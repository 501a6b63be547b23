/-
  The law on Read returns true, whatever is handed in, and writes nothing that was there. (Typed by wip/mkrdl.py.)
-/
import Derived.Test.YtaibkchbkedjnaaGreatDoorDkStb
import Derived.Test.YtaibkchbkedjnaaGreatDoorRgI
import Derived.Test.YtaibkchbkedjnaaGreatDoorVarsC
import Derived.Test.YtaibkchbkedjnaaGreatDoorSnp0
import Derived.Test.YtaibkchbkedjnaaGreatDoorBox2
import Derived.Test.YtaibkchbkedjnaaGreatDoorMkB
import Derived.Test.YtaibkchbkedjnaaGreatDoorMarks
import Derived.Test.YtaibkchbkedjnaaGreatDoorDkMk
import Derived.Test.YtaibkchbkedjnaaGreatDoorDkSz
import Derived.Test.YtaibkchbkedjnaaGreatDoorDkTo
set_option maxRecDepth 20000
set_option maxHeartbeats 16000000
namespace Go.Proofs.YtaibkchbkedjnaaGreatDoor
open Go.RowKit
set_option linter.unusedVariables false
set_option linter.unusedSimpArgs false
theorem lawRead_any (d:DkV) (x:Int) (w:World) (hb:DkI w d) (hm:DkM d) (hS:SentR w) (pF pO pS pC pG:Addr) (h5:Five w pF pO pS pC pG) :
  Calls Tryz.prog 3 #[.agg #[.slice d.sa d.ss.length d.sc,.slice d.pa d.ps.length d.pc,.int .i64 d.E,.int .i64 d.O,.slice d.ma d.ms.length d.mc,.slice d.va d.vs.length d.vc,.slice d.ca d.cs.length d.cc,.int .i64 d.F,.int .i64 d.G,.slice d.oa d.os.length d.oc],.int .i64 x] w fun e w'=>e=.returned (.bool true)∧Below w.heap.size w w':=by
 obtain ⟨f,hf⟩:=decF_ex
 have A0:Hid (Below w.heap.size w (w.alloc (Obj.cells #[.slice d.sa d.ss.length d.sc,.slice d.pa d.ps.length d.pc,.int .i64 d.E,.int .i64 d.O,.slice d.ma d.ms.length d.mc,.slice d.va d.vs.length d.vc,.slice d.ca d.cs.length d.cc,.int .i64 d.F,.int .i64 d.G,.slice d.oa d.os.length d.oc] 34))∧Dk10 (w.alloc (Obj.cells #[.slice d.sa d.ss.length d.sc,.slice d.pa d.ps.length d.pc,.int .i64 d.E,.int .i64 d.O,.slice d.ma d.ms.length d.mc,.slice d.va d.vs.length d.vc,.slice d.ca d.cs.length d.cc,.int .i64 d.F,.int .i64 d.G,.slice d.oa d.os.length d.oc] 34)) w.heap.size d):=⟨(Below.refl _ _).alloc nl _,Dk10.new w d 34⟩
 have H1:=szDisk_any d _ (hb.below A0.out.1 nl) hm
 have HB:Hid (DkI w d∧(SentR w∧Five w pF pO pS pC pG)∧DecF f):=⟨hb,⟨hS,h5⟩,hf⟩
 clear hb hS hf hm h5
 go_enter Tryz.func3,Tryz.ntmps3
 go_wp2_with fail
 generalize (w.alloc (Obj.cells #[.slice d.sa d.ss.length d.sc,.slice d.pa d.ps.length d.pc,.int .i64 d.E,.int .i64 d.O,.slice d.ma d.ms.length d.mc,.slice d.va d.vs.length d.vc,.slice d.ca d.cs.length d.cc,.int .i64 d.F,.int .i64 d.G,.slice d.oa d.os.length d.oc] 34))=W0 at *
 refine H1.mono ?_
 clear H1
 rintro e w1 ⟨⟨z,rfl,hz⟩,hb1⟩
 have A1:Hid (Below w.heap.size w w1∧Dk10 w1 w.heap.size d):=⟨A0.out.1.trans (hb1.mono A0.out.1.size),A0.out.2.step hb1⟩
 clear hb1 A0
 rcases hz with rfl | ⟨hz0,hfew⟩
 ·go_wp2
  go_ret
  exact ⟨rfl,A1.out.1⟩
 have HF:Hid (DkF d):=hfew
 have hzn:¬z<0:=by omega
 clear hfew
 obtain ⟨x0,x1,x2,x3,x4,x5,x6,x7,x8,x9,xl⟩:=A1.out.2
 have H2:=toDisk_any d w1 (HB.out.1.below A1.out.1 nl) HF.out
 go_wp2_with fail
 refine H2.mono ?_
 clear H2
 rintro e w2 ⟨⟨e1,B1,B2,B3,B4,Z,rfl,hs1,ho1,-⟩,hb2⟩
 have A2:Hid (Below w.heap.size w w2∧Dk10 w2 w.heap.size d):=⟨A1.out.1.trans (hb2.mono A1.out.1.size),A1.out.2.step hb2⟩
 have H3:=specRead_any f HB.out.2.2 e1 x w2 ho1.inn ho1.its (HF.out.same hs1) (DkO.rwc ho1) ho1.chn.capI
 have HS1:Hid (DkS e1 d):=hs1
 clear hs1 ho1 hb2 A1 x0 x1 x2 x3 x4 x5 x6 x7 x8 x9 xl
 go_wp2_with fail
 refine H3.mono ?_
 clear H3
 rintro e w3 ⟨⟨v3,ls,cd,rfl,hov3,hR3⟩,hb3⟩
 have hR:=hR3.same HS1.out
 have hll:=hR.len
 have HIMPL:Hid (∀ (e:DkV) (B B1 B2 B3 B4 Z:Nat) (W:World),DkS e d→DkO W B B1 B2 B3 B4 Z e→Below w.heap.size w W→Calls Tryz.prog 13 #[.agg #[.slice e.sa e.ss.length e.sc,.slice e.pa e.ps.length e.pc,.int .i64 e.E,.int .i64 e.O,.slice e.ma e.ms.length e.mc,.slice e.va e.vs.length e.vc,.slice e.ca e.cs.length e.cc,.int .i64 e.F,.int .i64 e.G,.slice e.oa e.os.length e.oc],.int .i64 x] W fun r w'=>(∃ a c,r=.returned (.tuple #[.slice a ls.length c,.int .i64 cd])∧Mine w' W.heap.size w'.heap.size a c ls)∧Below W.heap.size W w'):=by
  intro e B B1 B2 B3 B4 Z W hs ho hw
  refine (implRead_any f HB.out.2.2 e x W ho.inn ho.its (HF.out.same hs) pF pO pS pC pG (HB.out.2.1.1.below hw) (HB.out.2.1.2.below hw)).mono ?_
  rintro r w' ⟨⟨v,bs,c,rfl,hov,hr⟩,hb'⟩
  obtain ⟨rfl,rfl⟩:=(hr.same hs).uniq hR
  obtain ⟨a,cp,rfl,hm⟩:=hov.mine
  exact ⟨⟨a,cp,rfl,hm⟩,hb'⟩
 obtain ⟨aw,cw,rfl,hmw⟩:=hov3.mine
 clear hR hR3 hov3 HS1
 have hcc:(cd != cd)=false:=by simp
 have A3:Hid ((Below w.heap.size w w3∧Dk10 w3 w.heap.size d)∧Mine w3 (w.heap.size+1) w3.heap.size aw cw ls):=⟨⟨A2.out.1.trans (hb3.mono A2.out.1.size),A2.out.2.step hb3⟩,hmw.mono A2.out.2.lt nl⟩
 clear hb3 hmw A2
 obtain ⟨x0,x1,x2,x3,x4,x5,x6,x7,x8,x9,xl⟩:=A3.out.1.2
 have H4:=toDisk_any d w3 (HB.out.1.below A3.out.1.1 nl) HF.out
 go_wp2_with fail
 refine H4.mono ?_
 clear H4
 rintro e w4 ⟨⟨e2,B1,B2,B3,B4,Zx,rfl,hs2,ho2,hZ⟩,hb4⟩
 have hba:Below w4.heap.size w4 (w4.alloc (Obj.cells #[.slice e2.sa e2.ss.length e2.sc,.slice e2.pa e2.ps.length e2.pc,.int .i64 e2.E,.int .i64 e2.O,.slice e2.ma e2.ms.length e2.mc,.slice e2.va e2.vs.length e2.vc,.slice e2.ca e2.cs.length e2.cc,.int .i64 e2.F,.int .i64 e2.G,.slice e2.oa e2.os.length e2.oc] 49)):=ba
 have hb5:=hb4.trans (hba.mono hb4.size)
 have A5:Hid (((Below w.heap.size w (w4.alloc (Obj.cells #[.slice e2.sa e2.ss.length e2.sc,.slice e2.pa e2.ps.length e2.pc,.int .i64 e2.E,.int .i64 e2.O,.slice e2.ma e2.ms.length e2.mc,.slice e2.va e2.vs.length e2.vc,.slice e2.ca e2.cs.length e2.cc,.int .i64 e2.F,.int .i64 e2.G,.slice e2.oa e2.os.length e2.oc] 49))∧Dk10 (w4.alloc (Obj.cells #[.slice e2.sa e2.ss.length e2.sc,.slice e2.pa e2.ps.length e2.pc,.int .i64 e2.E,.int .i64 e2.O,.slice e2.ma e2.ms.length e2.mc,.slice e2.va e2.vs.length e2.vc,.slice e2.ca e2.cs.length e2.cc,.int .i64 e2.F,.int .i64 e2.G,.slice e2.oa e2.os.length e2.oc] 49)) w.heap.size d)∧Mine (w4.alloc (Obj.cells #[.slice e2.sa e2.ss.length e2.sc,.slice e2.pa e2.ps.length e2.pc,.int .i64 e2.E,.int .i64 e2.O,.slice e2.ma e2.ms.length e2.mc,.slice e2.va e2.vs.length e2.vc,.slice e2.ca e2.cs.length e2.cc,.int .i64 e2.F,.int .i64 e2.G,.slice e2.oa e2.os.length e2.oc] 49)) (w.heap.size+1) w3.heap.size aw cw ls)∧(Dk10 (w4.alloc (Obj.cells #[.slice e2.sa e2.ss.length e2.sc,.slice e2.pa e2.ps.length e2.pc,.int .i64 e2.E,.int .i64 e2.O,.slice e2.ma e2.ms.length e2.mc,.slice e2.va e2.vs.length e2.vc,.slice e2.ca e2.cs.length e2.cc,.int .i64 e2.F,.int .i64 e2.G,.slice e2.oa e2.os.length e2.oc] 49)) w4.heap.size e2∧DkO (w4.alloc (Obj.cells #[.slice e2.sa e2.ss.length e2.sc,.slice e2.pa e2.ps.length e2.pc,.int .i64 e2.E,.int .i64 e2.O,.slice e2.ma e2.ms.length e2.mc,.slice e2.va e2.vs.length e2.vc,.slice e2.ca e2.cs.length e2.cc,.int .i64 e2.F,.int .i64 e2.G,.slice e2.oa e2.os.length e2.oc] 49)) w3.heap.size B1 B2 B3 B4 Zx e2)∧Zx≤w4.heap.size∧w4.heap.size<((w4.alloc (Obj.cells #[.slice e2.sa e2.ss.length e2.sc,.slice e2.pa e2.ps.length e2.pc,.int .i64 e2.E,.int .i64 e2.O,.slice e2.ma e2.ms.length e2.mc,.slice e2.va e2.vs.length e2.vc,.slice e2.ca e2.cs.length e2.cc,.int .i64 e2.F,.int .i64 e2.G,.slice e2.oa e2.os.length e2.oc] 49))).heap.size∧w.heap.size<w3.heap.size∧w3.heap.size≤w4.heap.size):=⟨⟨⟨A3.out.1.1.trans (hb5.mono A3.out.1.1.size),A3.out.1.2.step hb5⟩,A3.out.2.below hb5⟩,⟨Dk10.new w4 e2 49,(DkO.stab nl nl).below ho2 hba hZ⟩,hZ,by simp,A3.out.1.2.lt,hb4.size⟩
 have HS2:Hid (DkS e2 d):=hs2
 have H5:=HIMPL.out e2 _ _ _ _ _ _ _ hs2 A5.out.2.1.2 A5.out.1.1.1
 clear hs2 ho2 hZ hb4 hba hb5 A3 x0 x1 x2 x3 x4 x5 x6 x7 x8 x9 xl
 go_wp2_with fail
 generalize (w4.alloc (Obj.cells #[.slice e2.sa e2.ss.length e2.sc,.slice e2.pa e2.ps.length e2.pc,.int .i64 e2.E,.int .i64 e2.O,.slice e2.ma e2.ms.length e2.mc,.slice e2.va e2.vs.length e2.vc,.slice e2.ca e2.cs.length e2.cc,.int .i64 e2.F,.int .i64 e2.G,.slice e2.oa e2.os.length e2.oc] 49))=w5 at *
 generalize w4.heap.size=X at *
 generalize w3.heap.size=U at *
 refine H5.mono ?_
 clear H5
 rintro e w6 ⟨⟨ag,cg,rfl,hmg⟩,hb6⟩
 have HS6:Hid (Snp w w6 (w.heap.size+1) U (X+1) w6.heap.size (fun W=>Dk10 W w.heap.size d) (fun W=>Mine W (w.heap.size+1) U aw cw ls) (fun W=>DkO W U B1 B2 B3 B4 Zx e2∧Dk10 W X e2) (fun W=>Mine W (X+1) w6.heap.size ag cg ls)):=by
  obtain ⟨o1,o2,o3,o4⟩:=A5.out.2.2
  have h6:=hb6.size
  exact ⟨A5.out.1.1.1.trans (hb6.mono A5.out.1.1.1.size),by omega,Dk10.stab nl (by omega),A5.out.1.1.2.step hb6,Stab.mine nl nl,A5.out.1.2.below hb6,(DkO.stab nl (by omega)).and (Dk10.stab o4 (by omega)),⟨(DkO.stab nl nl).below A5.out.2.1.2 hb6 (by omega),A5.out.2.1.1.step hb6⟩,Stab.mine nl nl,hmg.mono (by omega) nl⟩
 have HZX:Hid (Zx≤X):=A5.out.2.2.1
 clear hmg hb6 A5
 generalize w6.heap.size=Z at *
 go_wp2_with fail
 refine (eqByteS_yes ag aw cg cw ls w6 HS6.out.hg.byt HS6.out.hw.byt (by omega)).mono ?_
 rintro e w7 ⟨rfl,n7,rfl⟩
 have HS7:Hid _:=HS6.out.drew n7
 clear HS6
 generalize w6.drewN n7=w7 at *
 go_wp2_with fail
 go_region_held3 (fun W=>W.cell? ⟨X,0,none⟩=some (.slice e2.sa e2.ss.length e2.sc)∧W.cell? ⟨X,1,none⟩=some (.slice e2.pa e2.ps.length e2.pc)∧W.cell? ⟨X,2,none⟩=some (.int .i64 e2.E)∧W.cell? ⟨X,3,none⟩=some (.int .i64 e2.O)∧W.cell? ⟨X,4,none⟩=some (.slice e2.ma e2.ms.length e2.mc)∧W.cell? ⟨X,5,none⟩=some (.slice e2.va e2.vs.length e2.vc)∧W.cell? ⟨X,6,none⟩=some (.slice e2.ca e2.cs.length e2.cc)∧W.cell? ⟨X,7,none⟩=some (.int .i64 e2.F)∧W.cell? ⟨X,8,none⟩=some (.int .i64 e2.G)∧W.cell? ⟨X,9,none⟩=some (.slice e2.oa e2.os.length e2.oc)∧W.cell? ⟨w.heap.size,0,none⟩=some (.slice d.sa d.ss.length d.sc)∧W.cell? ⟨w.heap.size,1,none⟩=some (.slice d.pa d.ps.length d.pc)∧W.cell? ⟨w.heap.size,2,none⟩=some (.int .i64 d.E)∧W.cell? ⟨w.heap.size,3,none⟩=some (.int .i64 d.O)∧W.cell? ⟨w.heap.size,4,none⟩=some (.slice d.ma d.ms.length d.mc)∧W.cell? ⟨w.heap.size,5,none⟩=some (.slice d.va d.vs.length d.vc)∧W.cell? ⟨w.heap.size,6,none⟩=some (.slice d.ca d.cs.length d.cc)∧W.cell? ⟨w.heap.size,7,none⟩=some (.int .i64 d.F)∧W.cell? ⟨w.heap.size,8,none⟩=some (.int .i64 d.G)∧W.cell? ⟨w.heap.size,9,none⟩=some (.slice d.oa d.os.length d.oc))
  (first | exact ⟨HS7.out.hx.2.c0,HS7.out.hx.2.c1,HS7.out.hx.2.c2,HS7.out.hx.2.c3,HS7.out.hx.2.c4,HS7.out.hx.2.c5,HS7.out.hx.2.c6,HS7.out.hx.2.c7,HS7.out.hx.2.c8,HS7.out.hx.2.c9,HS7.out.hb.c0,HS7.out.hb.c1,HS7.out.hb.c2,HS7.out.hb.c3,HS7.out.hb.c4,HS7.out.hb.c5,HS7.out.hb.c6,HS7.out.hb.c7,HS7.out.hb.c8,HS7.out.hb.c9⟩ | exact ⟨HS8.out.hx.2.c0,HS8.out.hx.2.c1,HS8.out.hx.2.c2,HS8.out.hx.2.c3,HS8.out.hx.2.c4,HS8.out.hx.2.c5,HS8.out.hx.2.c6,HS8.out.hx.2.c7,HS8.out.hx.2.c8,HS8.out.hx.2.c9,HS8.out.hb.c0,HS8.out.hb.c1,HS8.out.hb.c2,HS8.out.hb.c3,HS8.out.hb.c4,HS8.out.hb.c5,HS8.out.hb.c6,HS8.out.hb.c7,HS8.out.hb.c8,HS8.out.hb.c9⟩ | exact ⟨HS9.out.hx.2.c0,HS9.out.hx.2.c1,HS9.out.hx.2.c2,HS9.out.hx.2.c3,HS9.out.hx.2.c4,HS9.out.hx.2.c5,HS9.out.hx.2.c6,HS9.out.hx.2.c7,HS9.out.hx.2.c8,HS9.out.hx.2.c9,HS9.out.hb.c0,HS9.out.hb.c1,HS9.out.hb.c2,HS9.out.hb.c3,HS9.out.hb.c4,HS9.out.hb.c5,HS9.out.hb.c6,HS9.out.hb.c7,HS9.out.hb.c8,HS9.out.hb.c9⟩)
  (first
   | (go_at_call 12;refine (toDisk_any d _ (HB.out.1.below HS7.out.bel.drew nl) HF.out).mono ?_;rintro e w8 ⟨⟨e3,D1,D2,D3,D4,Y,rfl,hs3,ho3,hY⟩,hb8'⟩;have HS8:Hid _:=HS7.out.step (Below.drewS hb8');have HEQ:=eqDisk_yes e2 e3 w8 HS8.out.hx.1.inn ho3.inn (HS2.out.trans hs3.symm) (HF.out.same HS2.out);clear hs3 ho3 hY hb8')
   | (go_at_call 15;refine HEQ.mono ?_;clear HEQ;rintro e w9 ⟨rfl,hb9⟩;have HS9:Hid _:=HS8.out.step hb9;clear hb9))
 clear HS7 HS8
 obtain ⟨x0,x1,x2,x3,x4,x5,x6,x7,x8,x9,xl⟩:=HS9.out.hx.2
 have HMK:=markDisk_any e2 U B1 B2 B3 B4 Zx _ HS9.out.hx.1 (by have:=HS9.out.ord;have:=HZX.out;omega) (HF.out.same HS2.out)
 go_wp2_with fail
 refine HMK.mono ?_
 clear HMK x0 x1 x2 x3 x4 x5 x6 x7 x8 x9 xl
 rintro e w10 ⟨⟨zk,rfl,hzk⟩,ho10⟩
 have HS10:Hid _:=HS9.out.markX ho10 (fun k hk=>by have:=HZX.out;omega) (Stab.true _ _) trivial
 have hzk':¬zk<0:=by omega
 clear ho10 HS9
 go_wp2_with fail
 refine (eqByteS_yes ag aw cg cw ls w10 HS10.out.hg.byt HS10.out.hw.byt (by omega)).mono ?_
 rintro e w11 ⟨rfl,n11,rfl⟩
 have HS11:Hid _:=HS10.out.drew n11
 clear HS10
 generalize w10.drewN n11=w11 at *
 go_wp2_with fail
 refine (markByteS_any ag (X+1) Z cg ls 1 _ HS11.out.hg (by omega) (by omega) (by omega)).mono ?_
 rintro e w12 ⟨rfl,hm12,ho12⟩
 have HS12:Hid _:=HS11.out.markG ho12 (fun k hk=>hm12.rowT hk) (Stab.mine (B:=X+1) (U:=Z) (a:=ag) (c:=cg) (zs:=marks 1 ls.length) nl nl) hm12
 clear hm12 ho12 HS11
 go_wp2_with fail
 refine (heldByteS_any ag cg ls.length 1 _ HS12.out.hg.byt (by omega) (by omega) (by omega)).mono ?_
 rintro e w13 ⟨rfl,rfl⟩
 obtain ⟨x0,x1,x2,x3,x4,x5,x6,x7,x8,x9,xl⟩:=HS12.out.hb
 have H14:=toDisk_any d _ (HB.out.1.below HS12.out.bel nl) HF.out
 go_wp2_with fail
 refine H14.mono ?_
 clear H14 x0 x1 x2 x3 x4 x5 x6 x7 x8 x9 xl
 rintro e w14 ⟨⟨e4,B1',B2',B3',B4',Z',rfl,hs4,ho4,-⟩,hb14⟩
 have HS14:Hid _:=HS12.out.step hb14
 have HIM:=HIMPL.out e4 _ _ _ _ _ _ w14 hs4 ho4 HS14.out.bel
 clear hb14 ho4 hs4 HS12 HIMPL
 go_wp2_with fail
 refine HIM.mono ?_
 clear HIM
 rintro e w15 ⟨⟨ah,ch,rfl,hmh⟩,hb15⟩
 have HS15:Hid _:=HS14.out.step hb15
 have HMH:Hid (Byt w15 ah ls):=hmh.byt
 clear hmh hb15 HS14
 go_wp2_with fail
 refine (eqByteS_yes ah aw ch cw ls w15 HMH.out HS15.out.hw.byt (by omega)).mono ?_
 rintro e w16 ⟨rfl,n16,rfl⟩
 have HS16:Hid _:=HS15.out.drew n16
 clear HS15 HMH
 generalize w15.drewN n16=w16 at *
 go_wp2_with fail
 refine (heldByteS_any ag cg ls.length 1 _ HS16.out.hg.byt (by omega) (by omega) (by omega)).mono ?_
 rintro e w17 ⟨rfl,rfl⟩
 go_wp2
 go_ret
 exact ⟨rfl,HS16.out.bel⟩
end Go.Proofs.YtaibkchbkedjnaaGreatDoor
