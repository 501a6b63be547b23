/-
  The law on CrashDisk returns true, whatever is handed in, and writes nothing that was there. (Typed by wip/mkcdl.py.)
-/
import Derived.Test.YtaibkchbkedjnaaGreatDoorCdS
import Derived.Test.YtaibkchbkedjnaaGreatDoorCdI
import Derived.Test.YtaibkchbkedjnaaGreatDoorDkStb
import Derived.Test.YtaibkchbkedjnaaGreatDoorVarsC
import Derived.Test.YtaibkchbkedjnaaGreatDoorSnp0
import Derived.Test.YtaibkchbkedjnaaGreatDoorBosQ
import Derived.Test.YtaibkchbkedjnaaGreatDoorDkMk
import Derived.Test.YtaibkchbkedjnaaGreatDoorPlEq
import Derived.Test.YtaibkchbkedjnaaGreatDoorElH
import Derived.Test.YtaibkchbkedjnaaGreatDoorSnN
set_option maxRecDepth 20000
set_option maxHeartbeats 16000000
namespace Go.Proofs.YtaibkchbkedjnaaGreatDoor
open Go.RowKit
set_option linter.unusedVariables false
set_option linter.unusedSimpArgs false
def RwB (W:World) (B X:Nat) (v u:Value) (ms ns:List El):Prop:=RawV W B X v u ms ns∧Box2 W X v u
theorem RwB.stab {lo hi B X:Nat} {v u:Value} {ms ns:List El} (h0:lo≤X) (h1:lo≤B) (h2:X<hi):Stab lo hi (fun W=>RwB W B X v u ms ns):=
 (RawV.stab h1 (Nat.le_of_lt h2)).and (fun T W W' hp ho ht hl=>hp.only ho (ht X h0 h2))
theorem OwBo.stab {lo hi B g c:Nat} {bs:List Bool} (h1:lo≤g) (h2:g<hi):Stab lo hi (fun W=>OwBo W B g c bs):=fun T W W' hp ho ht hl=>hp.only ho (ht g h1 h2)
set_option maxHeartbeats 32000000 in
theorem lawCrashDisk_any (d:DkV) (da:Option Addr) (dc:Nat) (ds:List Bool) (w:World) (hb:DkI w d) (hk:Bos w da ds) (hm:DkM d) (hmd:ds.length≤maxLen) (hS:SentB w) :
  Calls Tryz.prog 4 #[.agg #[.slice d.sa d.ss.length d.sc,.slice d.pa d.ps.length d.pc,.int .i64 d.E,.int .i64 d.O,.slice d.ma d.ms.length d.mc,.slice d.va d.vs.length d.vc,.slice d.ca d.cs.length d.cc,.int .i64 d.F,.int .i64 d.G,.slice d.oa d.os.length d.oc],.slice da ds.length dc] w fun e w'=>e=.returned (.bool true)∧Below w.heap.size w w':=by
 obtain ⟨f,hf⟩:=decF_ex
 have A0:Hid (Below w.heap.size w (w.alloc (Obj.cells #[.slice d.sa d.ss.length d.sc,.slice d.pa d.ps.length d.pc,.int .i64 d.E,.int .i64 d.O,.slice d.ma d.ms.length d.mc,.slice d.va d.vs.length d.vc,.slice d.ca d.cs.length d.cc,.int .i64 d.F,.int .i64 d.G,.slice d.oa d.os.length d.oc] 34))∧Dk10 (w.alloc (Obj.cells #[.slice d.sa d.ss.length d.sc,.slice d.pa d.ps.length d.pc,.int .i64 d.E,.int .i64 d.O,.slice d.ma d.ms.length d.mc,.slice d.va d.vs.length d.vc,.slice d.ca d.cs.length d.cc,.int .i64 d.F,.int .i64 d.G,.slice d.oa d.os.length d.oc] 34)) w.heap.size d):=⟨(Below.refl _ _).alloc nl _,Dk10.new w d 34⟩
 have H1:=szDisk_any d _ (hb.below A0.out.1 nl) hm
 have HB:Hid (DkI w d∧SentB w∧DecF f):=⟨hb,hS,hf⟩
 have HD:Hid (Bos w da ds):=hk
 clear hb hS hf hm hk
 unfold maxLen at hmd
 by_cases hdl:ds.length≤1048576
 case neg=>
  have hdl2:(1048576:Int)<(ds.length:Int):=by omega
  go_enter Tryz.func4,Tryz.ntmps4
  go_wp2
  go_ret
  exact ⟨rfl,A0.out.1⟩
 have hdl2:¬(1048576:Int)<(ds.length:Int):=by omega
 go_enter Tryz.func4,Tryz.ntmps4
 go_wp2_with fail
 generalize (w.alloc (Obj.cells #[.slice d.sa d.ss.length d.sc,.slice d.pa d.ps.length d.pc,.int .i64 d.E,.int .i64 d.O,.slice d.ma d.ms.length d.mc,.slice d.va d.vs.length d.vc,.slice d.ca d.cs.length d.cc,.int .i64 d.F,.int .i64 d.G,.slice d.oa d.os.length d.oc] 34))=W0 at *
 refine H1.mono ?_
 clear H1
 rintro e w1 ⟨⟨z,rfl,hz⟩,hb1⟩
 have A1:Hid (Below w.heap.size w w1∧Dk10 w1 w.heap.size d):=⟨A0.out.1.trans (hb1.mono A0.out.1.size),A0.out.2.step hb1⟩
 clear hb1 A0
 rcases hz with rfl | ⟨hz0,hfew⟩
 ·go_wp2
  go_ret
  exact ⟨rfl,A1.out.1⟩
 have HF:Hid (DkF d):=hfew
 have hzn:¬z<0:=by omega
 clear hfew
 obtain ⟨x0,x1,x2,x3,x4,x5,x6,x7,x8,x9,xl⟩:=A1.out.2
 have H2:=toDisk_any d w1 (HB.out.1.below A1.out.1 nl) HF.out
 go_wp2_with fail
 refine H2.mono ?_
 clear H2
 rintro e w2 ⟨⟨e1,B1,B2,B3,B4,Z,rfl,hs1,ho1,hZ1⟩,hb2⟩
 have A2:Hid (Below w.heap.size w w2∧Dk10 w2 w.heap.size d):=⟨A1.out.1.trans (hb2.mono A1.out.1.size),A1.out.2.step hb2⟩
 have HO2:Hid (DkO w2 w1.heap.size B1 B2 B3 B4 Z e1∧Z≤w2.heap.size∧DkS e1 d):=⟨ho1,hZ1,hs1⟩
 clear hs1 ho1 hb2 A1 hZ1 x0 x1 x2 x3 x4 x5 x6 x7 x8 x9 xl
 go_wp2_with fail
 refine (toBoolS_any da dc ds w2 (HD.out.below A2.out.1 nl) hdl).mono ?_
 rintro e w25 ⟨rfl,ho25,hb25⟩
 have A25:Hid (Below w.heap.size w w25∧Dk10 w25 w.heap.size d):=⟨A2.out.1.trans (hb25.mono A2.out.1.size),A2.out.2.step hb25⟩
 have ho1:=(DkO.stab nl nl).below HO2.out.1 hb25 HO2.out.2.1
 have H3:=specCrashDisk_any f HB.out.2.2 e1 (some ⟨w2.heap.size,0,none⟩) ds.length ds w25 ho1.inn ho1.its (HF.out.same HO2.out.2.2) ho25.bos hdl ho1.chn.capI
 have HS1:Hid (DkS e1 d):=HO2.out.2.2
 clear ho1 hb25 ho25 A2 HO2
 go_wp2_with fail
 refine H3.mono ?_
 clear H3
 rintro e w3 ⟨⟨v3,u3,ms,ns,rr,rfl,hR3,hr3⟩,hb3⟩
 have HR:Hid (CdR f d ds (ms.map El.ct) (ns.map El.ct) rr):=hR3.same HS1.out
 obtain ⟨aa,ac,ba,bc,rfl,rfl⟩:=hr3.form
 generalize hnA:ms.length=nA at *
 generalize hnB:ns.length=nB at *
 have HNN:Hid ((ms.length=nA∧ns.length=nB)∧Few ms ns):=⟨⟨hnA,hnB⟩,HR.out.few⟩
 have HIMPL:Hid (∀ (e:DkV) (B B1 B2 B3 B4 Z:Nat) (ea:Option Addr) (ec:Nat) (W:World),DkS e d→DkO W B B1 B2 B3 B4 Z e→Bos W ea ds→Below w.heap.size w W→Calls Tryz.prog 21 #[.agg #[.slice e.sa e.ss.length e.sc,.slice e.pa e.ps.length e.pc,.int .i64 e.E,.int .i64 e.O,.slice e.ma e.ms.length e.mc,.slice e.va e.vs.length e.vc,.slice e.ca e.cs.length e.cc,.int .i64 e.F,.int .i64 e.G,.slice e.oa e.os.length e.oc],.slice ea ds.length ec] W fun r w'=>(∃ ga gc ha hc gs hs,r=.returned (.tuple #[.agg #[.slice ga nA gc,.slice ha nB hc],.bool rr])∧(gs.map El.ct=ms.map El.ct∧hs.map El.ct=ns.map El.ct)∧RawV w' W.heap.size w'.heap.size (.slice ga nA gc) (.slice ha nB hc) gs hs)∧Below W.heap.size W w'):=by
  intro e B B1 B2 B3 B4 Z ea ec W hs ho hbo hw
  refine (implCrashDisk_any f HB.out.2.2 e ea ec ds W ho.inn ho.its (HF.out.same hs) hbo hdl (HB.out.2.1.below hw)).mono ?_
  rintro r w' ⟨⟨v,u,gs,hs',c,rfl,hr,hro⟩,hb'⟩
  obtain ⟨q1,q2,rfl⟩:=(hr.same hs).uniq HR.out
  obtain ⟨ga,gc,ha,hc,rfl,rfl⟩:=hro.form
  have l1:=len_ctE q1
  have l2:=len_ctE q2
  rw [l1,l2,HNN.out.1.1,HNN.out.1.2] at hro ⊢
  exact ⟨⟨ga,gc,ha,hc,gs,hs',rfl,⟨q1,q2⟩,hro.v⟩,hb'⟩
 have HEQR:Hid (∀ (W:World) (ga ha:Option Addr) (gc hc:Nat) (gs hs:List El),RawI W ga ha gs hs→RawI W aa ba ms ns→gs.map El.ct=ms.map El.ct→hs.map El.ct=ns.map El.ct→Calls Tryz.prog 22 #[.agg #[.slice ga nA gc,.slice ha nB hc],.agg #[.slice aa nA ac,.slice ba nB bc]] W fun e w'=>e=.returned (.bool true)∧Below W.heap.size W w'):=by
  intro W ga ha gc hc gs hs h1 h2 h3 h4
  have h5:=eqRaw_yes ga ha aa ba gc hc ac bc gs hs ms ns W h1 h2 h3 h4 (HNN.out.2.ct h3 h4)
  rw [len_ctE h3,len_ctE h4,HNN.out.1.1,HNN.out.1.2] at h5
  exact h5
 have A3:Hid ((Below w.heap.size w (w3.alloc (Obj.cells #[.slice aa nA ac,.slice ba nB bc] 41))∧Dk10 (w3.alloc (Obj.cells #[.slice aa nA ac,.slice ba nB bc] 41)) w.heap.size d)∧RwB (w3.alloc (Obj.cells #[.slice aa nA ac,.slice ba nB bc] 41)) (w.heap.size+1) w3.heap.size (.slice aa nA ac) (.slice ba nB bc) ms ns∧w.heap.size<w3.heap.size∧((w3.alloc (Obj.cells #[.slice aa nA ac,.slice ba nB bc] 41))).heap.size=w3.heap.size+1):=by
  have hba:Below w3.heap.size w3 (w3.alloc (Obj.cells #[.slice aa nA ac,.slice ba nB bc] 41)):=ba
  have hx:=A25.out.2.step hb3
  refine ⟨⟨(A25.out.1.trans (hb3.mono A25.out.1.size)).trans (hba.mono (Nat.le_of_lt hx.lt)),hx.step hba⟩,⟨⟨(hr3.below hba).weak (by have:=A25.out.2.lt;omega),fun k hk=>(hr3.inside k hk).2⟩,Box2.new _ _ _ _⟩,hx.lt,by simp⟩
 have hx3:=A25.out.2.step hb3
 clear hb3 hr3 hR3 HS1 A25 HR hnA hnB
 obtain ⟨x0,x1,x2,x3,x4,x5,x6,x7,x8,x9,xl⟩:=hx3
 have hcc:(rr != rr)=false:=by simp
 have hsz3:=A3.out.2.2.2
 have H4:=toDisk_any d _ (HB.out.1.below A3.out.1.1 nl) HF.out
 go_wp2_with fail
 generalize (w3.alloc (Obj.cells #[.slice aa nA ac,.slice ba nB bc] 41))=w35 at *
 refine H4.mono ?_
 clear H4
 rintro e w4 ⟨⟨e2,B1,B2,B3,B4,Zx,rfl,hs2,ho2,hZ⟩,hb4⟩
 have hba:Below w4.heap.size w4 (w4.alloc (Obj.cells #[.slice e2.sa e2.ss.length e2.sc,.slice e2.pa e2.ps.length e2.pc,.int .i64 e2.E,.int .i64 e2.O,.slice e2.ma e2.ms.length e2.mc,.slice e2.va e2.vs.length e2.vc,.slice e2.ca e2.cs.length e2.cc,.int .i64 e2.F,.int .i64 e2.G,.slice e2.oa e2.os.length e2.oc] 49)):=ba
 have hb5:=hb4.trans (hba.mono hb4.size)
 have A5:Hid (((Below w.heap.size w (w4.alloc (Obj.cells #[.slice e2.sa e2.ss.length e2.sc,.slice e2.pa e2.ps.length e2.pc,.int .i64 e2.E,.int .i64 e2.O,.slice e2.ma e2.ms.length e2.mc,.slice e2.va e2.vs.length e2.vc,.slice e2.ca e2.cs.length e2.cc,.int .i64 e2.F,.int .i64 e2.G,.slice e2.oa e2.os.length e2.oc] 49))∧Dk10 (w4.alloc (Obj.cells #[.slice e2.sa e2.ss.length e2.sc,.slice e2.pa e2.ps.length e2.pc,.int .i64 e2.E,.int .i64 e2.O,.slice e2.ma e2.ms.length e2.mc,.slice e2.va e2.vs.length e2.vc,.slice e2.ca e2.cs.length e2.cc,.int .i64 e2.F,.int .i64 e2.G,.slice e2.oa e2.os.length e2.oc] 49)) w.heap.size d)∧RwB (w4.alloc (Obj.cells #[.slice e2.sa e2.ss.length e2.sc,.slice e2.pa e2.ps.length e2.pc,.int .i64 e2.E,.int .i64 e2.O,.slice e2.ma e2.ms.length e2.mc,.slice e2.va e2.vs.length e2.vc,.slice e2.ca e2.cs.length e2.cc,.int .i64 e2.F,.int .i64 e2.G,.slice e2.oa e2.os.length e2.oc] 49)) (w.heap.size+1) w3.heap.size (.slice aa nA ac) (.slice ba nB bc) ms ns)∧(Dk10 (w4.alloc (Obj.cells #[.slice e2.sa e2.ss.length e2.sc,.slice e2.pa e2.ps.length e2.pc,.int .i64 e2.E,.int .i64 e2.O,.slice e2.ma e2.ms.length e2.mc,.slice e2.va e2.vs.length e2.vc,.slice e2.ca e2.cs.length e2.cc,.int .i64 e2.F,.int .i64 e2.G,.slice e2.oa e2.os.length e2.oc] 49)) w4.heap.size e2∧DkO (w4.alloc (Obj.cells #[.slice e2.sa e2.ss.length e2.sc,.slice e2.pa e2.ps.length e2.pc,.int .i64 e2.E,.int .i64 e2.O,.slice e2.ma e2.ms.length e2.mc,.slice e2.va e2.vs.length e2.vc,.slice e2.ca e2.cs.length e2.cc,.int .i64 e2.F,.int .i64 e2.G,.slice e2.oa e2.os.length e2.oc] 49)) (w3.heap.size+1) B1 B2 B3 B4 Zx e2)∧Zx≤w4.heap.size∧w4.heap.size<((w4.alloc (Obj.cells #[.slice e2.sa e2.ss.length e2.sc,.slice e2.pa e2.ps.length e2.pc,.int .i64 e2.E,.int .i64 e2.O,.slice e2.ma e2.ms.length e2.mc,.slice e2.va e2.vs.length e2.vc,.slice e2.ca e2.cs.length e2.cc,.int .i64 e2.F,.int .i64 e2.G,.slice e2.oa e2.os.length e2.oc] 49))).heap.size∧w.heap.size<w3.heap.size∧w3.heap.size+1≤w4.heap.size):=
  ⟨⟨⟨A3.out.1.1.trans (hb5.mono A3.out.1.1.size),A3.out.1.2.step hb5⟩,(RwB.stab (lo:=w.heap.size+1) (hi:=w3.heap.size+1) (by have:=A3.out.2.2.1;omega) nl (by omega)).below A3.out.2.1 hb5 (by rw [hsz3];exact Nat.le_refl _)⟩,⟨Dk10.new w4 e2 49,by rw [hsz3] at ho2;exact (DkO.stab nl nl).below ho2 hba hZ⟩,hZ,by simp,A3.out.2.2.1,by rw [←hsz3];exact hb4.size⟩
 have HS2:Hid (DkS e2 d):=hs2
 clear hs2 ho2 hZ hb4 hba hb5 A3 x0 x1 x2 x3 x4 x5 x6 x7 x8 x9 xl hsz3
 go_wp2_with fail
 generalize (w4.alloc (Obj.cells #[.slice e2.sa e2.ss.length e2.sc,.slice e2.pa e2.ps.length e2.pc,.int .i64 e2.E,.int .i64 e2.O,.slice e2.ma e2.ms.length e2.mc,.slice e2.va e2.vs.length e2.vc,.slice e2.ca e2.cs.length e2.cc,.int .i64 e2.F,.int .i64 e2.G,.slice e2.oa e2.os.length e2.oc] 49))=w5 at *
 refine (toBoolS_any da dc ds w5 (HD.out.below A5.out.1.1.1 nl) hdl).mono ?_
 rintro e w7 ⟨rfl,ho7,hb7⟩
 have A7:Hid (((Below w.heap.size w w7∧Dk10 w7 w.heap.size d)∧RwB w7 (w.heap.size+1) w3.heap.size (.slice aa nA ac) (.slice ba nB bc) ms ns)∧(DkO w7 (w3.heap.size+1) B1 B2 B3 B4 Zx e2∧Dk10 w7 w4.heap.size e2∧OwBo w7 w5.heap.size w5.heap.size ds.length ds)∧Zx≤w4.heap.size∧w4.heap.size<w5.heap.size∧w.heap.size<w3.heap.size∧w3.heap.size+1≤w4.heap.size∧w5.heap.size<w7.heap.size):=by
  have o:=A5.out.2.2
  exact ⟨⟨⟨A5.out.1.1.1.trans (hb7.mono A5.out.1.1.1.size),A5.out.1.1.2.step hb7⟩,(RwB.stab (lo:=w.heap.size+1) (hi:=w3.heap.size+1) (by omega) nl (by omega)).below A5.out.1.2 hb7 (by omega)⟩,⟨(DkO.stab nl nl).below A5.out.2.1.2 hb7 (by omega),A5.out.2.1.1.step hb7,ho7⟩,o.1,o.2.1,o.2.2.1,o.2.2.2,ho7.lt.2⟩
 have H5:=HIMPL.out e2 _ _ _ _ _ _ (some ⟨w5.heap.size,0,none⟩) ds.length w7 HS2.out A7.out.2.1.1 ho7.bos A7.out.1.1.1
 obtain ⟨x0,x1,x2,x3,x4,x5,x6,x7,x8,x9,xl⟩:=A7.out.2.1.2.1
 clear ho7 hb7 A5
 go_wp2_with fail
 clear x0 x1 x2 x3 x4 x5 x6 x7 x8 x9 xl
 refine H5.mono ?_
 clear H5
 rintro e w8 ⟨⟨ga,gc,ha,hc,gs,hs,rfl,hcg,hrg⟩,hb8⟩
 have HCG:Hid (gs.map El.ct=ms.map El.ct∧hs.map El.ct=ns.map El.ct):=hcg
 have HS6:Hid (Snp w (w8.alloc (Obj.cells #[.slice ga nA gc,.slice ha nB hc] 41)) (w.heap.size+1) (w3.heap.size+1) w7.heap.size (w8.heap.size+1) (fun W=>Dk10 W w.heap.size d) (fun W=>RwB W (w.heap.size+1) w3.heap.size (.slice aa nA ac) (.slice ba nB bc) ms ns) (fun W=>DkO W (w3.heap.size+1) B1 B2 B3 B4 Zx e2∧Dk10 W w4.heap.size e2∧OwBo W w5.heap.size w5.heap.size ds.length ds) (fun W=>RwB W w7.heap.size w8.heap.size (.slice ga nA gc) (.slice ha nB hc) gs hs)):=by
  have hba:Below w8.heap.size w8 (w8.alloc (Obj.cells #[.slice ga nA gc,.slice ha nB hc] 41)):=ba
  have hb9:=hb8.trans (hba.mono hb8.size)
  have o:=A7.out.2.2
  have h8:=hb8.size
  exact ⟨A7.out.1.1.1.trans (hb9.mono A7.out.1.1.1.size),by simp;omega,Dk10.stab nl (by omega),A7.out.1.1.2.step hb9,RwB.stab (by omega) nl (by omega),(RwB.stab (lo:=w.heap.size+1) (hi:=w3.heap.size+1) (by omega) nl (by omega)).below A7.out.1.2 hb9 (by omega),(DkO.stab nl (by omega)).and ((Dk10.stab (by omega) (by omega)).and (OwBo.stab (by omega) (by omega))),
   ⟨(DkO.stab nl nl).below A7.out.2.1.1 hb9 (by omega),A7.out.2.1.2.1.step hb9,(OwBo.stab (lo:=w5.heap.size) (hi:=w5.heap.size+1) nl (by omega)).below A7.out.2.1.2.2 hb9 (by omega)⟩,RwB.stab (by omega) nl (by omega),⟨(RawV.stab nl nl).below hrg hba nl,Box2.new _ _ _ _⟩⟩
 have HO:Hid (Zx≤w4.heap.size∧w4.heap.size<w5.heap.size∧w.heap.size<w3.heap.size∧w3.heap.size+1≤w4.heap.size∧w5.heap.size<w7.heap.size∧w7.heap.size≤w8.heap.size):=⟨A7.out.2.2.1,A7.out.2.2.2.1,A7.out.2.2.2.2.1,A7.out.2.2.2.2.2.1,A7.out.2.2.2.2.2.2,hb8.size⟩
 obtain ⟨p0,p1,-,-,pl⟩:=((RwB.stab (lo:=w.heap.size+1) (hi:=w3.heap.size+1) (by have:=HO.out;omega) nl (by omega)).below A7.out.1.2 hb8 (by have:=HO.out;omega)).2
 clear hcg hrg hb8 A7
 have HEQ:=HEQR.out _ ga ha gc hc gs hs HS6.out.hg.1.o.inn HS6.out.hw.1.o.inn HCG.out.1 HCG.out.2
 go_wp2_with fail
 generalize (w8.alloc (Obj.cells #[.slice ga nA gc,.slice ha nB hc] 41))=w9 at *
 generalize w3.heap.size=U at *
 generalize w4.heap.size=X at *
 generalize w5.heap.size=G at *
 generalize w7.heap.size=V at *
 generalize w8.heap.size=Y at *
 refine HEQ.mono ?_
 clear HEQ
 rintro e w10 ⟨rfl,hb10⟩
 have HS7:Hid _:=HS6.out.step hb10
 clear hb10 HS6 p0 p1 pl
 go_wp2_with fail
 go_region_held3 (fun W=>W.cell? ⟨X,0,none⟩=some (.slice e2.sa e2.ss.length e2.sc)∧W.cell? ⟨X,1,none⟩=some (.slice e2.pa e2.ps.length e2.pc)∧W.cell? ⟨X,2,none⟩=some (.int .i64 e2.E)∧W.cell? ⟨X,3,none⟩=some (.int .i64 e2.O)∧W.cell? ⟨X,4,none⟩=some (.slice e2.ma e2.ms.length e2.mc)∧W.cell? ⟨X,5,none⟩=some (.slice e2.va e2.vs.length e2.vc)∧W.cell? ⟨X,6,none⟩=some (.slice e2.ca e2.cs.length e2.cc)∧W.cell? ⟨X,7,none⟩=some (.int .i64 e2.F)∧W.cell? ⟨X,8,none⟩=some (.int .i64 e2.G)∧W.cell? ⟨X,9,none⟩=some (.slice e2.oa e2.os.length e2.oc)∧W.cell? ⟨w.heap.size,0,none⟩=some (.slice d.sa d.ss.length d.sc)∧W.cell? ⟨w.heap.size,1,none⟩=some (.slice d.pa d.ps.length d.pc)∧W.cell? ⟨w.heap.size,2,none⟩=some (.int .i64 d.E)∧W.cell? ⟨w.heap.size,3,none⟩=some (.int .i64 d.O)∧W.cell? ⟨w.heap.size,4,none⟩=some (.slice d.ma d.ms.length d.mc)∧W.cell? ⟨w.heap.size,5,none⟩=some (.slice d.va d.vs.length d.vc)∧W.cell? ⟨w.heap.size,6,none⟩=some (.slice d.ca d.cs.length d.cc)∧W.cell? ⟨w.heap.size,7,none⟩=some (.int .i64 d.F)∧W.cell? ⟨w.heap.size,8,none⟩=some (.int .i64 d.G)∧W.cell? ⟨w.heap.size,9,none⟩=some (.slice d.oa d.os.length d.oc))
  (first | exact ⟨HS7.out.hx.2.1.c0,HS7.out.hx.2.1.c1,HS7.out.hx.2.1.c2,HS7.out.hx.2.1.c3,HS7.out.hx.2.1.c4,HS7.out.hx.2.1.c5,HS7.out.hx.2.1.c6,HS7.out.hx.2.1.c7,HS7.out.hx.2.1.c8,HS7.out.hx.2.1.c9,HS7.out.hb.c0,HS7.out.hb.c1,HS7.out.hb.c2,HS7.out.hb.c3,HS7.out.hb.c4,HS7.out.hb.c5,HS7.out.hb.c6,HS7.out.hb.c7,HS7.out.hb.c8,HS7.out.hb.c9⟩ | exact ⟨HS8.out.hx.2.1.c0,HS8.out.hx.2.1.c1,HS8.out.hx.2.1.c2,HS8.out.hx.2.1.c3,HS8.out.hx.2.1.c4,HS8.out.hx.2.1.c5,HS8.out.hx.2.1.c6,HS8.out.hx.2.1.c7,HS8.out.hx.2.1.c8,HS8.out.hx.2.1.c9,HS8.out.hb.c0,HS8.out.hb.c1,HS8.out.hb.c2,HS8.out.hb.c3,HS8.out.hb.c4,HS8.out.hb.c5,HS8.out.hb.c6,HS8.out.hb.c7,HS8.out.hb.c8,HS8.out.hb.c9⟩ | exact ⟨HS9.out.hx.2.1.c0,HS9.out.hx.2.1.c1,HS9.out.hx.2.1.c2,HS9.out.hx.2.1.c3,HS9.out.hx.2.1.c4,HS9.out.hx.2.1.c5,HS9.out.hx.2.1.c6,HS9.out.hx.2.1.c7,HS9.out.hx.2.1.c8,HS9.out.hx.2.1.c9,HS9.out.hb.c0,HS9.out.hb.c1,HS9.out.hb.c2,HS9.out.hb.c3,HS9.out.hb.c4,HS9.out.hb.c5,HS9.out.hb.c6,HS9.out.hb.c7,HS9.out.hb.c8,HS9.out.hb.c9⟩)
  (first
   | (go_at_call 12;refine (toDisk_any d _ (HB.out.1.below HS7.out.bel.drew nl) HF.out).mono ?_;rintro e w8 ⟨⟨e3,D1,D2,D3,D4,Y3,rfl,hs3,ho3,hY⟩,hb8'⟩;have HS8:Hid _:=HS7.out.step (Below.drewS hb8');have HEQ:=eqDisk_yes e2 e3 w8 HS8.out.hx.1.inn ho3.inn (HS2.out.trans hs3.symm) (HF.out.same HS2.out);clear hs3 ho3 hY hb8')
   | (go_at_call 15;refine HEQ.mono ?_;clear HEQ;rintro e w9 ⟨rfl,hb9⟩;have HS9:Hid _:=HS8.out.step hb9;clear hb9))
 clear HS7 HS8
 go_wp2_with fail
 refine (toBoolS_any da dc ds _ (HD.out.below HS9.out.bel nl) hdl).mono ?_
 rintro e w26 ⟨rfl,ho26,hb26⟩
 have HS26:Hid _:=HS9.out.step hb26
 have HEB:=eqBoolS_yes (some ⟨G,0,none⟩) _ ds.length ds.length ds w26 HS26.out.hx.2.2.bos ho26.bos (by omega)
 clear hb26 ho26 HS9
 go_wp2_with fail
 refine HEB.mono ?_
 clear HEB
 rintro e w27 ⟨rfl,n27,rfl⟩
 have HS27:Hid _:=HS26.out.drew n27
 clear HS26
 generalize w26.drewN n27=w27 at *
 obtain ⟨x0,x1,x2,x3,x4,x5,x6,x7,x8,x9,xl⟩:=HS27.out.hx.2.1
 have HMK:=markDisk_any e2 (U+1) B1 B2 B3 B4 Zx _ HS27.out.hx.1 (by have:=HS27.out.ord;have:=HO.out;omega) (HF.out.same HS2.out)
 go_wp2_with fail
 refine HMK.mono ?_
 clear HMK x0 x1 x2 x3 x4 x5 x6 x7 x8 x9 xl
 rintro e w11 ⟨⟨zk,rfl,hzk⟩,ho11⟩
 have HS11:Hid _:=HS27.out.markX ho11 (fun k hk=>by have:=HO.out;omega) (OwBo.stab (B:=G) (g:=G) (c:=ds.length) (bs:=ds) (lo:=U+1) (hi:=V) (by have:=HO.out;omega) (by have:=HO.out;omega)) (HS27.out.hx.2.2.only ho11 (fun hk=>by have:=HO.out;omega))
 clear ho11 HS27
 have HMB:=markBoolS_own G G ds.length ds zk w11 HS11.out.hx (by omega) (by omega) (by omega)
 go_wp2_with fail
 refine HMB.mono ?_
 clear HMB
 rintro e w12 ⟨rfl,-,ho12⟩
 have HS12:Hid _:=HS11.out.markX ho12 (fun k hk=>by have:=HO.out;omega) (Stab.true _ _) trivial
 have hzk':¬zk+(ds.length:Int)<0:=by omega
 clear ho12 HS11
 obtain ⟨t0,t1,-,-,tl⟩:=HS12.out.hg.2
 obtain ⟨p0,p1,-,-,pl⟩:=HS12.out.hw.2
 have HEQ:=HEQR.out _ ga ha gc hc gs hs HS12.out.hg.1.o.inn HS12.out.hw.1.o.inn HCG.out.1 HCG.out.2
 generalize zk+(ds.length:Int)=zk2 at *
 go_wp2_with fail
 refine HEQ.mono ?_
 clear HEQ
 rintro e w14 ⟨rfl,hb14⟩
 have HS14:Hid _:=HS12.out.step hb14
 clear hb14 HS12 t0 t1 tl p0 p1 pl
 obtain ⟨t0,t1,-,-,tl⟩:=HS14.out.hg.2
 have hfg:Few gs hs:=HNN.out.2.ct HCG.out.1 HCG.out.2
 have hl1:gs.length=nA:=by rw [len_ctE HCG.out.1,HNN.out.1.1]
 have hl2:hs.length=nB:=by rw [len_ctE HCG.out.2,HNN.out.1.2]
 have HMG:=markRaw_own ga ha gc hc V gs hs w14 (by rw [hl1,hl2];exact HS14.out.hg.1.o) hfg
 rw [hl1,hl2] at HMG
 have HFG:Hid (Few gs hs∧gs.length=nA∧hs.length=nB):=⟨hfg,hl1,hl2⟩
 have hgb:0≤mkN gs hs:=by unfold mkN;omega
 generalize hG:mkN gs hs=gg at *
 have HGG:Hid (mkN gs hs=gg∧True):=⟨hG,trivial⟩
 have hgg:(gg != gg)=false:=by simp
 clear hG hfg hl1 hl2
 go_wp2_with fail
 refine HMG.mono ?_
 clear HMG
 rintro e w15 ⟨rfl,hr15,ho15⟩
 have HS15:Hid _:=HS14.out.markG ho15 (fun k hk=>by have h1:=(HS14.out.hg.1.o.inside k hk).1;have h2:=HS14.out.hg.1.r k hk;omega) (RwB.stab (B:=V) (X:=Y) (v:=.slice ga nA gc) (u:=.slice ha nB hc) (ms:=mkSs gs) (ns:=mkPs gs hs) (lo:=V) (hi:=Y+1) (by have:=HO.out;omega) nl (by omega)) ⟨⟨hr15,fun k hk=>HS14.out.hg.1.r k (by
  rcases hk with hk | hk | ⟨e,he,hk⟩
  ·exact .inl hk
  ·exact .inr (.inl hk)
  ·obtain ⟨e',he',h'⟩:=List.mem_map.1 ((mk_a gs hs) ▸ List.mem_map_of_mem he:e.a ∈ (gs++hs).map El.a)
   exact .inr (.inr ⟨e',he',by rw [h'];exact hk⟩))⟩,HS14.out.hg.2.only ho15 (fun hk=>by have h2:=HS14.out.hg.1.r Y hk;omega)⟩
 clear ho15 hr15 HS14 t0 t1 tl
 obtain ⟨t0,t1,-,-,tl⟩:=HS15.out.hg.2
 have HHD:Hid (∀ W,RawI W ga ha (mkSs gs) (mkPs gs hs)→Calls Tryz.prog 26 #[.agg #[.slice ga nA gc,.slice ha nB hc],.int .i64 1] W fun e w'=>e=.returned (.int .i64 gg)∧Below W.heap.size W w'):=fun W h=>by
  have h2:=heldRaw_any ga ha gc hc gs hs W h HFG.out.1
  rw [HFG.out.2.1,HFG.out.2.2,HGG.out.1] at h2
  exact h2
 go_wp2_with fail
 refine (HHD.out _ HS15.out.hg.1.o.inn).mono ?_
 rintro e w16 ⟨rfl,hb16⟩
 have HS16:Hid _:=HS15.out.step hb16
 clear hb16 HS15 t0 t1 tl
 obtain ⟨x0,x1,x2,x3,x4,x5,x6,x7,x8,x9,xl⟩:=HS16.out.hb
 have H17:=toDisk_any d _ (HB.out.1.below HS16.out.bel nl) HF.out
 go_wp2_with fail
 refine H17.mono ?_
 clear H17 x0 x1 x2 x3 x4 x5 x6 x7 x8 x9 xl
 rintro e w17 ⟨⟨e4,B1',B2',B3',B4',Z',rfl,hs4,ho4,hZ4⟩,hb17⟩
 have HS17:Hid _:=HS16.out.step hb17
 have HO4:Hid (DkO w17 w16.heap.size B1' B2' B3' B4' Z' e4∧Z'≤w17.heap.size∧DkS e4 d):=⟨ho4,hZ4,hs4⟩
 clear hb17 ho4 hs4 hZ4 HS16
 go_wp2_with fail
 refine (toBoolS_any da dc ds _ (HD.out.below HS17.out.bel nl) hdl).mono ?_
 rintro e w18 ⟨rfl,ho18,hb18⟩
 have HS18:Hid _:=HS17.out.step hb18
 have HIM:=HIMPL.out e4 _ _ _ _ _ _ _ ds.length w18 HO4.out.2.2 ((DkO.stab nl nl).below HO4.out.1 hb18 HO4.out.2.1) ho18.bos HS18.out.bel
 clear hb18 ho18 HS17 HO4
 go_wp2_with fail
 refine HIM.mono ?_
 clear HIM
 rintro e w19 ⟨⟨ia,ic,ja,jc,is,js,rfl,hci,hri⟩,hb19⟩
 have HS19:Hid _:=HS18.out.step hb19
 have hba:Below w19.heap.size w19 (w19.alloc (Obj.cells #[.slice ia nA ic,.slice ja nB jc] 41)):=ba
 have HS20:Hid _:=HS19.out.step hba
 obtain ⟨p0,p1,-,-,pl⟩:=HS19.out.hw.2
 have HEQ:=HEQR.out _ ia ja ic jc is js (hri.o.below hba).inn HS20.out.hw.1.o.inn hci.1 hci.2
 clear hci hri hb19 hba HS18 HS19
 go_wp2_with fail
 generalize (w19.alloc (Obj.cells #[.slice ia nA ic,.slice ja nB jc] 41))=w20 at *
 refine HEQ.mono ?_
 clear HEQ p0 p1 pl
 rintro e w21 ⟨rfl,hb21⟩
 have HS21:Hid _:=HS20.out.step hb21
 clear hb21 HS20
 obtain ⟨t0,t1,-,-,tl⟩:=HS21.out.hg.2
 go_wp2_with fail
 refine (HHD.out _ HS21.out.hg.1.o.inn).mono ?_
 rintro e w22 ⟨rfl,hb22⟩
 have HS22:Hid _:=HS21.out.step hb22
 clear hb22 HS21 t0 t1 tl
 go_wp2
 go_ret
 exact ⟨rfl,HS22.out.bel⟩
end Go.Proofs.YtaibkchbkedjnaaGreatDoor
