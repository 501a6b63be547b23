/- Lemmas on the way. -/
import Derived.Test.YtaibkchbkedjnaaGreatDoorOps
import Derived.Test.YtaibkchbkedjnaaGreatDoorElM3
import Derived.Test.YtaibkchbkedjnaaGreatDoorPlMk
import Derived.Test.YtaibkchbkedjnaaGreatDoorIMk
import Derived.Test.YtaibkchbkedjnaaGreatDoorItMk0
import Derived.Test.YtaibkchbkedjnaaGreatDoorSnp0
set_option maxRecDepth 20000
set_option maxHeartbeats 16000000
namespace Go.Proofs.YtaibkchbkedjnaaGreatDoor
open Go.RowKit
set_option linter.unusedVariables false
set_option linter.unusedSimpArgs false
theorem Dk10.only {S:Nat→Prop} {W W':World} {b:Nat} {d:DkV} (h:Dk10 W b d) (ho:Only S W W') (hs:¬S b):Dk10 W' b d:=⟨ho.cell h.lt hs h.c0,ho.cell h.lt hs h.c1,ho.cell h.lt hs h.c2,ho.cell h.lt hs h.c3,ho.cell h.lt hs h.c4,ho.cell h.lt hs h.c5,ho.cell h.lt hs h.c6,ho.cell h.lt hs h.c7,ho.cell h.lt hs h.c8,ho.cell h.lt hs h.c9,Nat.lt_of_lt_of_le h.lt ho.size⟩
theorem markDisk_any (d:DkV) (B B1 B2 B3 B4 Z:Nat) (w:World) (h:DkO w B B1 B2 B3 B4 Z d) (hZ:Z≤w.heap.size) (hf:DkF d) :
  Calls Tryz.prog 16 #[.agg #[.slice d.sa d.ss.length d.sc,.slice d.pa d.ps.length d.pc,.int .i64 d.E,.int .i64 d.O,.slice d.ma d.ms.length d.mc,.slice d.va d.vs.length d.vc,.slice d.ca d.cs.length d.cc,.int .i64 d.F,.int .i64 d.G,.slice d.oa d.os.length d.oc],.int .i64 1] w fun e w'=>(∃ z:Int,e=.returned (.int .i64 z)∧0≤z∧z≤4194304)∧Only (fun b=>B≤b∧b<Z) w w':=by
 have hw:Below w.heap.size w (w.alloc (Obj.cells #[.slice d.sa d.ss.length d.sc,.slice d.pa d.ps.length d.pc,.int .i64 d.E,.int .i64 d.O,.slice d.ma d.ms.length d.mc,.slice d.va d.vs.length d.vc,.slice d.ca d.cs.length d.cc,.int .i64 d.F,.int .i64 d.G,.slice d.oa d.os.length d.oc] 49)):=ba
 have hx0:=Dk10.new w d 49
 have h0:=(DkO.stab nl nl).below h hw hZ
 have HO0:Hid (Only (fun b=>B≤b∧b<Z) w (w.alloc (Obj.cells #[.slice d.sa d.ss.length d.sc,.slice d.pa d.ps.length d.pc,.int .i64 d.E,.int .i64 d.O,.slice d.ma d.ms.length d.mc,.slice d.va d.vs.length d.vc,.slice d.ca d.cs.length d.cc,.int .i64 d.F,.int .i64 d.G,.slice d.oa d.os.length d.oc] 49))∧Z≤((w.alloc (Obj.cells #[.slice d.sa d.ss.length d.sc,.slice d.pa d.ps.length d.pc,.int .i64 d.E,.int .i64 d.O,.slice d.ma d.ms.length d.mc,.slice d.va d.vs.length d.vc,.slice d.ca d.cs.length d.cc,.int .i64 d.F,.int .i64 d.G,.slice d.oa d.os.length d.oc] 49))).heap.size∧Z≤w.heap.size):=⟨Only.ofBelow hw nl,Nat.le_trans hZ hw.size,hZ⟩
 have hord:=h.ord
 have HN:Hid (DkF d):=hf
 have hsum:=hf.sum
 unfold dkN at hsum
 have H1:=markRaw_own d.sa d.pa d.sc d.pc B d.ss d.ps _ h0.raw.o hf.raw
 have HD0:Hid (DkO (w.alloc (Obj.cells #[.slice d.sa d.ss.length d.sc,.slice d.pa d.ps.length d.pc,.int .i64 d.E,.int .i64 d.O,.slice d.ma d.ms.length d.mc,.slice d.va d.vs.length d.vc,.slice d.ca d.cs.length d.cc,.int .i64 d.F,.int .i64 d.G,.slice d.oa d.os.length d.oc] 49)) B B1 B2 B3 B4 Z d):=h0
 clear h h0 hf hw hZ
 go_enter Tryz.func16,Tryz.ntmps16
 go_wp2_with fail
 generalize (w.alloc (Obj.cells #[.slice d.sa d.ss.length d.sc,.slice d.pa d.ps.length d.pc,.int .i64 d.E,.int .i64 d.O,.slice d.ma d.ms.length d.mc,.slice d.va d.vs.length d.vc,.slice d.ca d.cs.length d.cc,.int .i64 d.F,.int .i64 d.G,.slice d.oa d.os.length d.oc] 49))=W0 at *
 refine H1.mono ?_
 clear H1
 rintro e w1 ⟨rfl,-,ho1⟩
 have hT1:∀ k,blkR (.slice d.sa d.ss.length d.sc) (.slice d.pa d.ps.length d.pc) d.ss d.ps k→B≤k∧k<B1:=fun k hk=>⟨(HD0.out.raw.o.inside k hk).1,HD0.out.raw.r k hk⟩
 have hx1:=hx0.only ho1 (fun hk=>by have:=hT1 _ hk;have:=HO0.out.2.2;omega)
 have HO1:Hid (Only (fun b=>B≤b∧b<Z) w w1∧Z≤w1.heap.size∧Z≤w.heap.size):=⟨HO0.out.1.trans (ho1.mono (fun k _ hk=>by have:=hT1 k hk;omega)),Nat.le_trans HO0.out.2.1 ho1.size,HO0.out.2.2⟩
 have HD1:Hid (MinP w1 B1 B2 d.ma d.mc d.ms∧MinP w1 B2 B3 d.va d.vc d.vs∧MinI w1 B3 B4 d.ca d.cc d.cs∧CopV w1 B4 Z (.slice d.oa d.os.length d.oc) d.os d.os):=by
  have hz:=HO0.out.2.1
  exact ⟨stab_minP (lo:=B1) (hi:=Z) (by omega) (by omega) _ _ _ HD0.out.map ho1 (fun k h1 h2 hk=>by have:=hT1 k hk;omega) hz,stab_minP (lo:=B1) (hi:=Z) (by omega) (by omega) _ _ _ HD0.out.sav ho1 (fun k h1 h2 hk=>by have:=hT1 k hk;omega) hz,Stab.minI (lo:=B1) (hi:=Z) (by omega) (by omega) _ _ _ HD0.out.chn ho1 (fun k h1 h2 hk=>by have:=hT1 k hk;omega) hz,CopV.stab (lo:=B1) (hi:=Z) (by omega) (by omega) _ _ _ HD0.out.opn ho1 (fun k h1 h2 hk=>by have:=hT1 k hk;omega) hz⟩
 have hk1:0≤mkN d.ss d.ps∧mkN d.ss d.ps≤2097152:=by unfold mkN;omega
 have HK1:Hid (mkN d.ss d.ps=1+elets d.ss+elets d.ps+d.ps.length):=rfl
 generalize mkN d.ss d.ps=k1 at *
 clear ho1 hT1 hx0 HO0 HD0
 obtain ⟨x0,x1,x2,x3,x4,x5,x6,x7,x8,x9,xl⟩:=id hx1
 have H2:=markMap_any d.ma B1 B2 d.mc d.ms k1 w1 HD1.out.1 (by have:=HO1.out.2.1;omega) HN.out.ms hk1.1 (by omega)
 go_wp2_with fail
 clear x0 x1 x2 x3 x4 x5 x6 x7 x8 x9 xl
 refine H2.mono ?_
 clear H2
 rintro e w2 ⟨rfl,hm2,ho2⟩
 have hT2:∀ k,rowOf d.ma k→B1≤k∧k<B2:=fun k hk=>hm2.row hk
 have hx2:=hx1.only ho2 (fun hk=>by have:=hT2 _ hk;have:=HO1.out.2.2;omega)
 have HO2:Hid (Only (fun b=>B≤b∧b<Z) w w2∧Z≤w2.heap.size∧Z≤w.heap.size):=⟨HO1.out.1.trans (ho2.mono (fun k _ hk=>by have:=hT2 k hk;omega)),Nat.le_trans HO1.out.2.1 ho2.size,HO1.out.2.2⟩
 have HD2:Hid (MinP w2 B2 B3 d.va d.vc d.vs∧MinI w2 B3 B4 d.ca d.cc d.cs∧CopV w2 B4 Z (.slice d.oa d.os.length d.oc) d.os d.os):=by
  have hz:=HO1.out.2.1
  exact ⟨stab_minP (lo:=B2) (hi:=Z) (by omega) (by omega) _ _ _ HD1.out.2.1 ho2 (fun k h1 h2 hk=>by have:=hT2 k hk;omega) hz,Stab.minI (lo:=B2) (hi:=Z) (by omega) (by omega) _ _ _ HD1.out.2.2.1 ho2 (fun k h1 h2 hk=>by have:=hT2 k hk;omega) hz,CopV.stab (lo:=B2) (hi:=Z) (by omega) (by omega) _ _ _ HD1.out.2.2.2 ho2 (fun k h1 h2 hk=>by have:=hT2 k hk;omega) hz⟩
 obtain ⟨k2,hk2⟩:∃ k2:Int,k2=k1+(d.ms.length*2:Nat):=⟨_,rfl⟩
 rw [←hk2]
 have hk2b:0≤k2∧k2≤4194304:=by have:=HK1.out;omega
 have HK2:Hid (k2=1+elets d.ss+elets d.ps+d.ps.length+2*(d.ms.length:Int)):=by have:=HK1.out;exact (by omega:k2=1+elets d.ss+elets d.ps+d.ps.length+2*(d.ms.length:Int))
 clear ho2 hT2 hm2 hx1 HO1 HD1 hk1 hk2 HK1
 obtain ⟨x0,x1,x2,x3,x4,x5,x6,x7,x8,x9,xl⟩:=id hx2
 have H3:=markMap_any d.va B2 B3 d.vc d.vs k2 w2 HD2.out.1 (by have:=HO2.out.2.1;omega) HN.out.vs hk2b.1 hk2b.2
 go_wp2_with fail
 clear x0 x1 x2 x3 x4 x5 x6 x7 x8 x9 xl
 refine H3.mono ?_
 clear H3
 rintro e w3 ⟨rfl,hm3,ho3⟩
 have hT3:∀ k,rowOf d.va k→B2≤k∧k<B3:=fun k hk=>hm3.row hk
 have hx3:=hx2.only ho3 (fun hk=>by have:=hT3 _ hk;have:=HO2.out.2.2;omega)
 have HO3:Hid (Only (fun b=>B≤b∧b<Z) w w3∧Z≤w3.heap.size∧Z≤w.heap.size):=⟨HO2.out.1.trans (ho3.mono (fun k _ hk=>by have:=hT3 k hk;omega)),Nat.le_trans HO2.out.2.1 ho3.size,HO2.out.2.2⟩
 have HD3:Hid (MinI w3 B3 B4 d.ca d.cc d.cs∧CopV w3 B4 Z (.slice d.oa d.os.length d.oc) d.os d.os):=by
  have hz:=HO2.out.2.1
  exact ⟨Stab.minI (lo:=B3) (hi:=Z) (by omega) (by omega) _ _ _ HD2.out.2.1 ho3 (fun k h1 h2 hk=>by have:=hT3 k hk;omega) hz,CopV.stab (lo:=B3) (hi:=Z) (by omega) (by omega) _ _ _ HD2.out.2.2 ho3 (fun k h1 h2 hk=>by have:=hT3 k hk;omega) hz⟩
 obtain ⟨k3,hk3⟩:∃ k3:Int,k3=k2+(d.vs.length*2:Nat):=⟨_,rfl⟩
 rw [←hk3]
 have HK3:Hid (k3=1+elets d.ss+elets d.ps+d.ps.length+2*(d.ms.length:Int)+2*(d.vs.length:Int)):=by have:=HK2.out;exact (by omega:k3=1+elets d.ss+elets d.ps+d.ps.length+2*(d.ms.length:Int)+2*(d.vs.length:Int))
 have hk3b:0≤k3∧k3≤4194304:=by have:=HK3.out;omega
 clear ho3 hT3 hm3 hx2 HO2 HD2 hk2b HK2 hk3
 obtain ⟨x0,x1,x2,x3,x4,x5,x6,x7,x8,x9,xl⟩:=id hx3
 have H4:=markIntS_any d.ca B3 B4 d.cc d.cs k3 w3 HD3.out.1 (by have:=HN.out.cs;omega) hk3b.1 hk3b.2
 go_wp2_with fail
 clear x0 x1 x2 x3 x4 x5 x6 x7 x8 x9 xl
 refine H4.mono ?_
 clear H4
 rintro e w4 ⟨rfl,hm4,ho4⟩
 have hT4:∀ k,rowOf d.ca k→B3≤k∧k<B4:=fun k hk=>hm4.rowT hk
 have hx4:=hx3.only ho4 (fun hk=>by have:=hT4 _ hk;have:=HO3.out.2.2;omega)
 have HO4:Hid (Only (fun b=>B≤b∧b<Z) w w4∧Z≤w4.heap.size∧Z≤w.heap.size):=⟨HO3.out.1.trans (ho4.mono (fun k _ hk=>by have:=hT4 k hk;omega)),Nat.le_trans HO3.out.2.1 ho4.size,HO3.out.2.2⟩
 have HD4:Hid (CopV w4 B4 Z (.slice d.oa d.os.length d.oc) d.os d.os∧True):=by
  have hz:=HO3.out.2.1
  exact ⟨CopV.stab (lo:=B4) (hi:=Z) (by omega) (by omega) _ _ _ HD3.out.2 ho4 (fun k h1 h2 hk=>by have:=hT4 k hk;omega) hz,trivial⟩
 obtain ⟨k4,hk4⟩:∃ k4:Int,k4=k3+d.cs.length:=⟨_,rfl⟩
 rw [←hk4]
 have HK4:Hid (k4=1+elets d.ss+elets d.ps+d.ps.length+2*(d.ms.length:Int)+2*(d.vs.length:Int)+d.cs.length):=by have:=HK3.out;exact (by omega:k4=1+elets d.ss+elets d.ps+d.ps.length+2*(d.ms.length:Int)+2*(d.vs.length:Int)+d.cs.length)
 have hk4b:0≤k4:=by have:=HK4.out;omega
 have hk4c:d.os.length=0∨k4+d.os.length+elets d.os≤2097152:=by have:=HK4.out;omega
 clear ho4 hT4 hm4 hx3 HO3 HD3 hk3b HK3 hk4
 obtain ⟨x0,x1,x2,x3,x4,x5,x6,x7,x8,x9,xl⟩:=id hx4
 have H5:=markPack_only d.F d.G d.oa d.oc B4 d.os k4 w4 HD4.out.1.cop.row HD4.out.1.cop.deep HN.out.opn.sum hk4b hk4c
 go_wp2_with fail
 clear x0 x1 x2 x3 x4 x5 x6 x7 x8 x9 xl
 refine H5.mono ?_
 clear H5
 rintro e w5 ⟨rfl,ho5⟩
 have hT5:∀ k,((Value.slice d.oa d.os.length d.oc).ownBlock=some k∨∃ s ∈ d.os,rowOf s.a k)→B4≤k∧k<Z:=fun k hk=>by
  rcases hk with hk | ⟨s,hs,hk⟩
  ·exact ⟨(HD4.out.1.cop.row.blk hk).1,HD4.out.1.r k hk⟩
  ·exact ⟨((HD4.out.1.cop.deep.mine s hs).rowE hk).1,HD4.out.1.d s hs k hk⟩
 have HF:Hid (Only (fun b=>B≤b∧b<Z) w w5):=HO4.out.1.trans (ho5.mono (fun k _ hk=>by have:=hT5 k hk;omega))
 obtain ⟨k5,hk5⟩:∃ k5:Int,k5=k4+(elets d.os:Nat)+(d.os.length:Nat):=⟨_,rfl⟩
 rw [←hk5]
 have hk5b:0≤k5∧k5≤4194304:=by have:=HK4.out;have:=HN.out.sum;unfold dkN at this;omega
 clear ho5 hT5 HO4 HD4 hk5 hk4c hk4b HK4 hx4
 go_wp2
 go_ret
 exact ⟨⟨k5,rfl,hk5b⟩,HF.out⟩
end Go.Proofs.YtaibkchbkedjnaaGreatDoor
