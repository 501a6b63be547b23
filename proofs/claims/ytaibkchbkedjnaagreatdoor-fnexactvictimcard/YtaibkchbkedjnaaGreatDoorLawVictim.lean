/-
  The law on Victim returns true, whatever is handed in, and writes nothing that was there. (Typed by wip/mklawd.py.)
-/
import Derived.Test.YtaibkchbkedjnaaGreatDoorVcT
import Derived.Test.YtaibkchbkedjnaaGreatDoorVarsC
import Derived.Test.YtaibkchbkedjnaaGreatDoorElEq
set_option maxRecDepth 20000
set_option maxHeartbeats 16000000
namespace Go.Proofs.YtaibkchbkedjnaaGreatDoor
open Go.RowKit
set_option linter.unusedVariables false
set_option linter.unusedSimpArgs false
theorem lawVictim_any (d:DkV) (w:World) (hb:DkI w d) (hm:DkM d) (hS:SentB w) :
  Calls Tryz.prog 6 #[.agg #[.slice d.sa d.ss.length d.sc,.slice d.pa d.ps.length d.pc,.int .i64 d.E,.int .i64 d.O,.slice d.ma d.ms.length d.mc,.slice d.va d.vs.length d.vc,.slice d.ca d.cs.length d.cc,.int .i64 d.F,.int .i64 d.G,.slice d.oa d.os.length d.oc]] w fun e w'=>e=.returned (.bool true)∧Below w.heap.size w w':=by
 obtain ⟨f,hf⟩:=decF_ex
 have A0:Hid (ArgD w (w.alloc (Obj.cells #[.slice d.sa d.ss.length d.sc,.slice d.pa d.ps.length d.pc,.int .i64 d.E,.int .i64 d.O,.slice d.ma d.ms.length d.mc,.slice d.va d.vs.length d.vc,.slice d.ca d.cs.length d.cc,.int .i64 d.F,.int .i64 d.G,.slice d.oa d.os.length d.oc] 34)) d):=⟨(Below.refl _ _).alloc nl _,Dk10.new w d 34⟩
 have H1:=szDisk_any d _ (hb.below A0.out.bel nl) hm
 have HB:Hid (DkI w d∧SentB w∧DecF f):=⟨hb,hS,hf⟩
 clear hb hS hf hm
 go_enter Tryz.func6,Tryz.ntmps6
 go_wp2_with fail
 generalize (w.alloc (Obj.cells #[.slice d.sa d.ss.length d.sc,.slice d.pa d.ps.length d.pc,.int .i64 d.E,.int .i64 d.O,.slice d.ma d.ms.length d.mc,.slice d.va d.vs.length d.vc,.slice d.ca d.cs.length d.cc,.int .i64 d.F,.int .i64 d.G,.slice d.oa d.os.length d.oc] 34))=W0 at *
 refine H1.mono ?_
 clear H1
 rintro e w1 ⟨⟨z,rfl,hz⟩,hb1⟩
 have A1:Hid (ArgD w w1 d):=A0.out.step hb1
 clear hb1 A0
 rcases hz with rfl | ⟨hz0,hfew⟩
 ·go_wp2
  go_ret
  exact ⟨rfl,A1.out.bel⟩
 have HF:Hid (DkF d):=hfew
 have hzn:¬z<0:=by omega
 clear hfew
 obtain ⟨x0,x1,x2,x3,x4,x5,x6,x7,x8,x9,xl⟩:=A1.out.box
 have H2:=toDisk_any d w1 (HB.out.1.below A1.out.bel nl) HF.out
 go_wp2_with fail
 refine H2.mono ?_
 clear H2
 rintro e w2 ⟨⟨e1,B1,B2,B3,B4,Z,rfl,hs1,ho1,-⟩,hb2⟩
 have A2:Hid (ArgD w w2 d):=A1.out.step hb2
 have H3:=specVictim_any f HB.out.2.2 e1 w2 ho1.inn ho1.its (HF.out.same hs1) ho1.chn.capI
 have HS1:Hid (DkS e1 d):=hs1
 clear hs1 ho1 hb2 A1 x0 x1 x2 x3 x4 x5 x6 x7 x8 x9 xl
 go_wp2_with fail
 refine H3.mono ?_
 clear H3
 rintro e w3 ⟨⟨R,rfl,hR⟩,hb3⟩
 have A3:Hid (ArgD w w3 d):=A2.out.step hb3
 have HR:Hid (VcR f d R):=VcR.same HS1.out hR
 clear hR hb3 A2 HS1
 obtain ⟨x0,x1,x2,x3,x4,x5,x6,x7,x8,x9,xl⟩:=A3.out.box
 have H4:=toDisk_any d w3 (HB.out.1.below A3.out.bel nl) HF.out
 go_wp2_with fail
 refine H4.mono ?_
 clear H4
 rintro e w4 ⟨⟨e2,B1,B2,B3,B4,Z,rfl,hs2,ho2,hZ⟩,hb4⟩
 have A4:Hid (ArgD w w4 d):=A3.out.step hb4
 have hba:Below w4.heap.size w4 (w4.alloc (Obj.cells #[.slice e2.sa e2.ss.length e2.sc,.slice e2.pa e2.ps.length e2.pc,.int .i64 e2.E,.int .i64 e2.O,.slice e2.ma e2.ms.length e2.mc,.slice e2.va e2.vs.length e2.vc,.slice e2.ca e2.cs.length e2.cc,.int .i64 e2.F,.int .i64 e2.G,.slice e2.oa e2.os.length e2.oc] 49)):=bAw
 have A5:Hid (ArgD w (w4.alloc (Obj.cells #[.slice e2.sa e2.ss.length e2.sc,.slice e2.pa e2.ps.length e2.pc,.int .i64 e2.E,.int .i64 e2.O,.slice e2.ma e2.ms.length e2.mc,.slice e2.va e2.vs.length e2.vc,.slice e2.ca e2.cs.length e2.cc,.int .i64 e2.F,.int .i64 e2.G,.slice e2.oa e2.os.length e2.oc] 49)) d):=A4.out.step hba
 have X5:Hid (Dk10 (w4.alloc (Obj.cells #[.slice e2.sa e2.ss.length e2.sc,.slice e2.pa e2.ps.length e2.pc,.int .i64 e2.E,.int .i64 e2.O,.slice e2.ma e2.ms.length e2.mc,.slice e2.va e2.vs.length e2.vc,.slice e2.ca e2.cs.length e2.cc,.int .i64 e2.F,.int .i64 e2.G,.slice e2.oa e2.os.length e2.oc] 49)) w4.heap.size e2):=Dk10.new w4 e2 49
 have HO5:Hid (DkO (w4.alloc (Obj.cells #[.slice e2.sa e2.ss.length e2.sc,.slice e2.pa e2.ps.length e2.pc,.int .i64 e2.E,.int .i64 e2.O,.slice e2.ma e2.ms.length e2.mc,.slice e2.va e2.vs.length e2.vc,.slice e2.ca e2.cs.length e2.cc,.int .i64 e2.F,.int .i64 e2.G,.slice e2.oa e2.os.length e2.oc] 49)) w3.heap.size B1 B2 B3 B4 Z e2∧Z≤((w4.alloc (Obj.cells #[.slice e2.sa e2.ss.length e2.sc,.slice e2.pa e2.ps.length e2.pc,.int .i64 e2.E,.int .i64 e2.O,.slice e2.ma e2.ms.length e2.mc,.slice e2.va e2.vs.length e2.vc,.slice e2.ca e2.cs.length e2.cc,.int .i64 e2.F,.int .i64 e2.G,.slice e2.oa e2.os.length e2.oc] 49))).heap.size):=⟨(DkO.stab nl nl).below ho2 hba hZ,Nat.le_trans hZ hba.size⟩
 have HS2:Hid (DkS e2 d):=hs2
 have H5:=implVictim_any f HB.out.2.2 e2 _ HO5.out.1.inn HO5.out.1.its (HF.out.same hs2) (HB.out.2.1.below A5.out.bel)
 clear hs2 ho2 hZ hb4 hba A3 A4 x0 x1 x2 x3 x4 x5 x6 x7 x8 x9 xl
 go_wp2_with fail
 generalize (w4.alloc (Obj.cells #[.slice e2.sa e2.ss.length e2.sc,.slice e2.pa e2.ps.length e2.pc,.int .i64 e2.E,.int .i64 e2.O,.slice e2.ma e2.ms.length e2.mc,.slice e2.va e2.vs.length e2.vc,.slice e2.ca e2.cs.length e2.cc,.int .i64 e2.F,.int .i64 e2.G,.slice e2.oa e2.os.length e2.oc] 49))=W5 at *
 generalize w4.heap.size=X at *
 refine H5.mono ?_
 clear H5
 rintro e w6 ⟨⟨R',rfl,hR'⟩,hb6⟩
 have A6:Hid (ArgD w w6 d):=A5.out.step hb6
 have X6:Hid (Dk10 w6 X e2):=X5.out.step hb6
 have HO6:Hid (DkO w6 w3.heap.size B1 B2 B3 B4 Z e2∧Z≤w6.heap.size):=⟨(DkO.stab nl nl).below HO5.out.1 hb6 HO5.out.2,Nat.le_trans HO5.out.2 hb6.size⟩
 obtain rfl:R'=R:=VcR.uniq (VcR.same HS2.out hR') HR.out
 have hRR:(R' != R')=false:=by simp
 clear hR' hb6 A5 X5 HO5 HR
 go_wp2_with fail
 go_region_held3 (fun W=>W.cell? ⟨X,0,none⟩=some (.slice e2.sa e2.ss.length e2.sc)∧W.cell? ⟨X,1,none⟩=some (.slice e2.pa e2.ps.length e2.pc)∧W.cell? ⟨X,2,none⟩=some (.int .i64 e2.E)∧W.cell? ⟨X,3,none⟩=some (.int .i64 e2.O)∧W.cell? ⟨X,4,none⟩=some (.slice e2.ma e2.ms.length e2.mc)∧W.cell? ⟨X,5,none⟩=some (.slice e2.va e2.vs.length e2.vc)∧W.cell? ⟨X,6,none⟩=some (.slice e2.ca e2.cs.length e2.cc)∧W.cell? ⟨X,7,none⟩=some (.int .i64 e2.F)∧W.cell? ⟨X,8,none⟩=some (.int .i64 e2.G)∧W.cell? ⟨X,9,none⟩=some (.slice e2.oa e2.os.length e2.oc)∧W.cell? ⟨w.heap.size,0,none⟩=some (.slice d.sa d.ss.length d.sc)∧W.cell? ⟨w.heap.size,1,none⟩=some (.slice d.pa d.ps.length d.pc)∧W.cell? ⟨w.heap.size,2,none⟩=some (.int .i64 d.E)∧W.cell? ⟨w.heap.size,3,none⟩=some (.int .i64 d.O)∧W.cell? ⟨w.heap.size,4,none⟩=some (.slice d.ma d.ms.length d.mc)∧W.cell? ⟨w.heap.size,5,none⟩=some (.slice d.va d.vs.length d.vc)∧W.cell? ⟨w.heap.size,6,none⟩=some (.slice d.ca d.cs.length d.cc)∧W.cell? ⟨w.heap.size,7,none⟩=some (.int .i64 d.F)∧W.cell? ⟨w.heap.size,8,none⟩=some (.int .i64 d.G)∧W.cell? ⟨w.heap.size,9,none⟩=some (.slice d.oa d.os.length d.oc))
  (first | exact ⟨X6.out.c0,X6.out.c1,X6.out.c2,X6.out.c3,X6.out.c4,X6.out.c5,X6.out.c6,X6.out.c7,X6.out.c8,X6.out.c9,A6.out.box.c0,A6.out.box.c1,A6.out.box.c2,A6.out.box.c3,A6.out.box.c4,A6.out.box.c5,A6.out.box.c6,A6.out.box.c7,A6.out.box.c8,A6.out.box.c9⟩ | exact ⟨X7.out.c0,X7.out.c1,X7.out.c2,X7.out.c3,X7.out.c4,X7.out.c5,X7.out.c6,X7.out.c7,X7.out.c8,X7.out.c9,A7.out.box.c0,A7.out.box.c1,A7.out.box.c2,A7.out.box.c3,A7.out.box.c4,A7.out.box.c5,A7.out.box.c6,A7.out.box.c7,A7.out.box.c8,A7.out.box.c9⟩ | exact ⟨X8.out.c0,X8.out.c1,X8.out.c2,X8.out.c3,X8.out.c4,X8.out.c5,X8.out.c6,X8.out.c7,X8.out.c8,X8.out.c9,A8.out.box.c0,A8.out.box.c1,A8.out.box.c2,A8.out.box.c3,A8.out.box.c4,A8.out.box.c5,A8.out.box.c6,A8.out.box.c7,A8.out.box.c8,A8.out.box.c9⟩)
  (first
   | (go_at_call 12;refine (toDisk_any d _ (HB.out.1.below A6.out.bel.drew nl) HF.out).mono ?_;rintro e w7 ⟨⟨e3,D1,D2,D3,D4,Y,rfl,hs3,ho3,hY⟩,hb7'⟩;have hb7:Below w6.heap.size w6 w7:=Below.drewS hb7';have A7:Hid (ArgD w w7 d):=A6.out.step hb7;have X7:Hid (Dk10 w7 X e2):=X6.out.step hb7;have HO7:Hid (DkI w7 e2):=((DkO.stab nl nl).below HO6.out.1 hb7 HO6.out.2).inn;have HEQ:=eqDisk_yes e2 e3 w7 HO7.out ho3.inn (HS2.out.trans hs3.symm) (HF.out.same HS2.out);clear hs3 ho3 hY hb7 hb7')
   | (go_at_call 15;refine HEQ.mono ?_;clear HEQ;rintro e w8 ⟨rfl,hb8⟩;have A8:Hid (ArgD w w8 d):=A7.out.step hb8;have X8:Hid (Dk10 w8 X e2):=X7.out.step hb8;clear hb8))
 clear A6 X6 A7 X7 HO6 HO7
 go_wp2
 go_ret
 exact ⟨rfl,A8.out.bel⟩
end Go.Proofs.YtaibkchbkedjnaaGreatDoor
