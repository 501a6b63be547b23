/- Lemmas on the way. -/
import Derived.Test.YtaibkchbkedjnaaGreatDoorVcM
import Derived.Test.YtaibkchbkedjnaaGreatDoorDkS2
import Derived.Test.YtaibkchbkedjnaaGreatDoorMpLvS
import Derived.Test.YtaibkchbkedjnaaGreatDoorVcI
import Derived.Test.YtaibkchbkedjnaaGreatDoorDkI3
set_option maxRecDepth 20000
set_option maxHeartbeats 16000000
namespace Go.Proofs.YtaibkchbkedjnaaGreatDoor
open Go.RowKit
set_option linter.unusedVariables false
set_option linter.unusedSimpArgs false
theorem l11victim_any (d:DkV) (w:World) (hb:DkI w d) (hr:2≤d.ss.length∧d.ss.length≤1000) (h1:mapB d.ms=true) (hm:d.cs.length≤1048576) :
  Calls Tryz.prog 66 #[.agg #[.slice d.sa d.ss.length d.sc,.slice d.pa d.ps.length d.pc,.int .i64 d.E,.int .i64 d.O,.slice d.ma d.ms.length d.mc,.slice d.va d.vs.length d.vc,.slice d.ca d.cs.length d.cc,.int .i64 d.F,.int .i64 d.G,.slice d.oa d.os.length d.oc]] w fun e w'=>e=.returned (.int .i64 (vcF d (d.ss.length-2)).1)∧Below w.heap.size w w':=by
 have HB:Hid (DkI w d∧mapB d.ms=true∧d.cs.length≤1048576):=⟨hb,h1,hm⟩
 have HX:Hid (Dk10 (w.alloc (Obj.cells #[.slice d.sa d.ss.length d.sc,.slice d.pa d.ps.length d.pc,.int .i64 d.E,.int .i64 d.O,.slice d.ma d.ms.length d.mc,.slice d.va d.vs.length d.vc,.slice d.ca d.cs.length d.cc,.int .i64 d.F,.int .i64 d.G,.slice d.oa d.os.length d.oc] 49)) w.heap.size d∧Below w.heap.size w (w.alloc (Obj.cells #[.slice d.sa d.ss.length d.sc,.slice d.pa d.ps.length d.pc,.int .i64 d.E,.int .i64 d.O,.slice d.ma d.ms.length d.mc,.slice d.va d.vs.length d.vc,.slice d.ca d.cs.length d.cc,.int .i64 d.F,.int .i64 d.G,.slice d.oa d.os.length d.oc] 49))):=⟨Dk10.new w d 49,(Below.refl _ _).alloc nl _⟩
 clear hb h1 hm
 go_enter Tryz.func66,Tryz.ntmps66
 go_wp2
 generalize (w.alloc (Obj.cells #[.slice d.sa d.ss.length d.sc,.slice d.pa d.ps.length d.pc,.int .i64 d.E,.int .i64 d.O,.slice d.ma d.ms.length d.mc,.slice d.va d.vs.length d.vc,.slice d.ca d.cs.length d.cc,.int .i64 d.F,.int .i64 d.G,.slice d.oa d.os.length d.oc] 49))=W at *
 generalize hnl:d.ss.length=n at *
 have HNL:Hid (d.ss.length=n∧True):=⟨hnl,trivial⟩
 go_loopw [3,4,5] (fun b l i wr=>∃ (k:Nat) (s:Int) (bv:Int) (lv:Nat),k+2≤n∧s=((k+2:Nat):Int)∧i=.int .i64 s∧b=.int .i64 bv∧l=.int .i64 lv∧vcF d k=(bv,lv)∧Dk10 wr w.heap.size d∧Below w.heap.size w wr) (fun _ _ i _=>n-(intOf i).toNat)
 case atStart=>exact ⟨0,2,-1,17,hr.1,rfl,rfl,rfl,rfl,rfl,HX.out.1,HX.out.2⟩
 case round=>
  clear HX
  obtain ⟨k,s,bv,lv,hk,hs,rfl,rfl,rfl,hvc,hx,hbel⟩:=hrel
  have HSE:Hid (s=((k+2:Nat):Int)∧vcF d k=(bv,lv)):=⟨hs,hvc⟩
  have hs2:2≤s∧s≤1000:=by omega
  have hlv:lv≤17:=by have h:=vcF_le d k;rw [hvc] at h;exact h
  have HR:Hid (Below w.heap.size w wr∧Dk10 wr w.heap.size d):=⟨hbel,hx⟩
  obtain ⟨x0,x1,x2,x3,x4,x5,x6,x7,x8,x9,xl⟩:=hx
  rw [hnl] at x0
  clear hbel hvc
  by_cases hlt:s<(n:Int)
  ·have H1:=l8live_any d.ma d.mc d.ms s wr (HB.out.1.map.below HR.out.1 nl) HB.out.2.1 (by omega)
   have hmn:(liv d.ms d.ms.length s).length≤16:=by have h3:=liv_len d.ms d.ms.length s;have h4:=(mapB_len d.ms HB.out.2.1).2;omega
   have HVF:Hid (vcF d (k+1)=if 0<(liv d.ms d.ms.length s).length∧(liv d.ms d.ms.length s).length<lv∧d.cs.any (fun z=>z == s)=false then (s,(liv d.ms d.ms.length s).length) else (bv,lv)):=by
    show vcF d (k+1)=_
    simp only [vcF,HSE.out.2,vcN,vcH,←HSE.out.1]
   clear hs
   go_wp2_with fail
   refine H1.mono ?_
   clear H1
   rintro e w1 ⟨⟨a,c,rfl,-⟩,hb1⟩
   have HR1:Hid (Below w.heap.size w w1∧Dk10 w1 w.heap.size d):=⟨HR.out.1.trans (hb1.mono HR.out.1.size),HR.out.2.step hb1⟩
   have H2:Calls Tryz.prog 81 #[.slice d.ca d.cs.length d.cc,.int .i64 s] w1 (fun e w'=>e=.returned (.bool (d.cs.any (fun z=>z == s)))∧w'=w1):=(l9has_any d.ca d.cc d.cs s w1 (HB.out.1.chn.below HR1.out.1 nl) HB.out.2.2).mono (fun e w' h=>by
    rcases h.1 with ⟨h9,rfl⟩ | ⟨h9,rfl⟩
    ·rw [any_cs.2 h9]
     exact ⟨rfl,h.2⟩
    ·rw [show d.cs.any (fun z=>z == s)=false from by rw [←Bool.not_eq_true,any_cs];rintro ⟨i,hi,e⟩;exact h9 i hi e]
     exact ⟨rfl,h.2⟩)
   generalize (liv d.ms d.ms.length s).length=m at *
   generalize d.cs.any (fun z=>z == s)=B at *
   clear hb1 HR x0 x1 x2 x3 x4 x5 x6 x7 x8 x9 xl
   obtain ⟨x0,x1,x2,x3,x4,x5,x6,x7,x8,x9,xl⟩:=HR1.out.2
   have HNO:Hid (vcF d (k+1)=(bv,lv)→∃ (k':Nat) (s':Int) (bv':Int) (lv':Nat),k'+2≤n∧s'=((k'+2:Nat):Int)∧Value.int .i64 (s+1)=.int .i64 s'∧Value.int .i64 bv=.int .i64 bv'∧Value.int .i64 lv=.int .i64 lv'∧vcF d k'=(bv',lv')∧Dk10 w1 w.heap.size d∧Below w.heap.size w w1):=fun h=>⟨k+1,s+1,bv,lv,by have:=HSE.out.1;omega,by have:=HSE.out.1;omega,rfl,rfl,rfl,h,HR1.out.2,HR1.out.1⟩
   have HYE:Hid (vcF d (k+1)=(s,m)→∃ (k':Nat) (s':Int) (bv':Int) (lv':Nat),k'+2≤n∧s'=((k'+2:Nat):Int)∧Value.int .i64 (s+1)=.int .i64 s'∧Value.int .i64 s=.int .i64 bv'∧Value.int .i64 m=.int .i64 lv'∧vcF d k'=(bv',lv')∧Dk10 w1 w.heap.size d∧Below w.heap.size w w1):=fun h=>⟨k+1,s+1,s,m,by have:=HSE.out.1;omega,by have:=HSE.out.1;omega,rfl,rfl,rfl,h,HR1.out.2,HR1.out.1⟩
   clear HR1
   by_cases g1:0<m
   ·have g1':(0:Int)<(m:Int):=by omega
    by_cases g2:m<lv
    ·have g2':(m:Int)<(lv:Int):=by omega
     cases B with
     | true=>
      have HN:=HNO.out (by rw [HVF.out];simp)
      clear HNO HYE HVF
      go_wp2_with fail
      refine H2.mono ?_
      clear H2
      rintro e w2 ⟨rfl,rfl⟩
      go_wp2
      go_roundw
      case rel=>simpa using HN
      case measure=>simp [intOf];omega
     | false=>
      have HN:=HYE.out (by rw [HVF.out];simp [g1,g2])
      clear HNO HYE HVF
      go_wp2_with fail
      refine H2.mono ?_
      clear H2
      rintro e w2 ⟨rfl,rfl⟩
      go_wp2
      go_roundw
      case rel=>simpa using HN
      case measure=>simp [intOf];omega
    ·have g2':¬(m:Int)<(lv:Int):=by omega
     have HN:=HNO.out (by rw [HVF.out];simp [g2])
     clear HNO HYE HVF H2
     go_wp2
     go_roundw
     case rel=>simpa using HN
     case measure=>simp [intOf];omega
   ·have g1':¬(0:Int)<(m:Int):=by omega
    have HN:=HNO.out (by rw [HVF.out];simp [g1])
    clear HNO HYE HVF H2
    go_wp2
    go_roundw
    case rel=>simpa using HN
    case measure=>simp [intOf];omega
  ·have HF:Hid ((vcF d (n-2)).1=bv∧True):=⟨by rw [show n-2=k by omega,HSE.out.2],trivial⟩
   go_wp2
   go_ret
   exact ⟨by rw [HF.out.1];rfl,HR.out.1⟩
theorem victim_any (d:DkV) (w:World) (hb:DkI w d) (hr:2≤d.ss.length∧d.ss.length≤24) (hmap:mapB d.ms=true) (hcs:d.cs.length≤1048576) :
  Calls Tryz.prog 67 #[.agg #[.slice d.sa d.ss.length d.sc,.slice d.pa d.ps.length d.pc,.int .i64 d.E,.int .i64 d.O,.slice d.ma d.ms.length d.mc,.slice d.va d.vs.length d.vc,.slice d.ca d.cs.length d.cc,.int .i64 d.F,.int .i64 d.G,.slice d.oa d.os.length d.oc]] w fun e w'=>e=.returned (.int .i64 (vcF d (d.ss.length-2)).1)∧Below w.heap.size w w':=
 callsIn_wide.1 (victim_in 3 nl d w hb hr hmap hcs)
theorem specVictim_any (f:List Int→Option (List Int)) (hf:DecF f) (d:DkV) (w:World) (hb:DkI w d) (hi:ItI w d.oa d.os) (hd:DkF d) (hcc:d.cs.length≤d.cc) :
  Calls Tryz.prog 32 #[.agg #[.slice d.sa d.ss.length d.sc,.slice d.pa d.ps.length d.pc,.int .i64 d.E,.int .i64 d.O,.slice d.ma d.ms.length d.mc,.slice d.va d.vs.length d.vc,.slice d.ca d.cs.length d.cc,.int .i64 d.F,.int .i64 d.G,.slice d.oa d.os.length d.oc]] w (AnI (VcR f d) w):=by
 have HW0:Hid (Below w.heap.size w (w.alloc (Obj.cells #[.slice d.sa d.ss.length d.sc,.slice d.pa d.ps.length d.pc,.int .i64 d.E,.int .i64 d.O,.slice d.ma d.ms.length d.mc,.slice d.va d.vs.length d.vc,.slice d.ca d.cs.length d.cc,.int .i64 d.F,.int .i64 d.G,.slice d.oa d.os.length d.oc] 49))):=bAw
 have hx0:=Dk10.new w d 49
 have H1:=specDiskOk_any f hf d _ (hb.below HW0.out nl) (hi.below HW0.out nl) hd hcc
 have HB:Hid (DkI w d∧d.cs.length≤1048576):=⟨hb,hd.cs⟩
 clear hb hi hd hf
 unfold AnI
 go_enter Tryz.func32,Tryz.ntmps32
 go_wp2_with fail
 generalize (w.alloc (Obj.cells #[.slice d.sa d.ss.length d.sc,.slice d.pa d.ps.length d.pc,.int .i64 d.E,.int .i64 d.O,.slice d.ma d.ms.length d.mc,.slice d.va d.vs.length d.vc,.slice d.ca d.cs.length d.cc,.int .i64 d.F,.int .i64 d.G,.slice d.oa d.os.length d.oc] 49))=W0 at *
 refine H1.mono ?_
 clear H1
 rintro e w1 ⟨h1,hb1⟩
 have hx1:=hx0.step hb1
 have HW1:Hid (Below w.heap.size w w1):=HW0.out.trans (hb1.mono HW0.out.size)
 clear hb1 hx0 HW0
 rcases h1 with ⟨hG,rfl⟩ | ⟨hG,rfl⟩
 rotate_left
 ·have HF:Hid (VcR f d (-1)):=.inr ⟨hG,rfl⟩
  clear hG
  go_wp2
  go_ret
  exact ⟨⟨_,rfl,HF.out⟩,HW1.out⟩
 have hr:2≤d.ss.length∧d.ss.length≤1000:=by
  have h:=hG.geo
  unfold gmB at h
  have h:=of_decide_eq_true h
  omega
 have HF:Hid (VcR f d (vcF d (d.ss.length-2)).1):=.inl ⟨hG,rfl⟩
 have H2:=l11victim_any d w1 (HB.out.1.below HW1.out nl) hr hG.map HB.out.2
 obtain ⟨x0,x1,x2,x3,x4,x5,x6,x7,x8,x9,xl⟩:=hx1
 clear hG
 generalize (vcF d (d.ss.length-2)).1=z at *
 go_wp2_with fail
 refine H2.mono ?_
 clear H2
 rintro e w2 ⟨rfl,hb2⟩
 have HV:Hid (Below w.heap.size w w2):=HW1.out.trans (hb2.mono HW1.out.size)
 clear hb2 x0 x1 x2 x3 x4 x5 x6 x7 x8 x9 xl
 go_wp2
 go_ret
 exact ⟨⟨_,rfl,HF.out⟩,HV.out⟩
theorem implVictim_any (f:List Int→Option (List Int)) (hf:DecF f) (d:DkV) (w:World) (hb:DkI w d) (hi:ItI w d.oa d.os) (hd:DkF d) (hS:SentB w) :
  Calls Tryz.prog 33 #[.agg #[.slice d.sa d.ss.length d.sc,.slice d.pa d.ps.length d.pc,.int .i64 d.E,.int .i64 d.O,.slice d.ma d.ms.length d.mc,.slice d.va d.vs.length d.vc,.slice d.ca d.cs.length d.cc,.int .i64 d.F,.int .i64 d.G,.slice d.oa d.os.length d.oc]] w (AnI (VcR f d) w):=by
 have HW0:Hid (Below w.heap.size w (w.alloc (Obj.cells #[.slice d.sa d.ss.length d.sc,.slice d.pa d.ps.length d.pc,.int .i64 d.E,.int .i64 d.O,.slice d.ma d.ms.length d.mc,.slice d.va d.vs.length d.vc,.slice d.ca d.cs.length d.cc,.int .i64 d.F,.int .i64 d.G,.slice d.oa d.os.length d.oc] 49))):=bAw
 have hx0:=Dk10.new w d 49
 have H1:=implDiskOk_any f hf d _ (hb.below HW0.out nl) (hi.below HW0.out nl) hd (hS.below HW0.out)
 have HB:Hid (DkI w d∧d.cs.length≤1048576):=⟨hb,hd.cs⟩
 clear hb hi hd hf
 unfold AnI
 go_enter Tryz.func33,Tryz.ntmps33
 go_wp2_with fail
 generalize (w.alloc (Obj.cells #[.slice d.sa d.ss.length d.sc,.slice d.pa d.ps.length d.pc,.int .i64 d.E,.int .i64 d.O,.slice d.ma d.ms.length d.mc,.slice d.va d.vs.length d.vc,.slice d.ca d.cs.length d.cc,.int .i64 d.F,.int .i64 d.G,.slice d.oa d.os.length d.oc] 49))=W0 at *
 refine H1.mono ?_
 clear H1
 rintro e w1 ⟨h1,hb1⟩
 have hx1:=hx0.step hb1
 have HW1:Hid (Below w.heap.size w w1):=HW0.out.trans (hb1.mono HW0.out.size)
 clear hb1 hx0 HW0
 rcases h1 with ⟨hG,rfl⟩ | ⟨hG,rfl⟩
 rotate_left
 ·have HF:Hid (VcR f d (-1)):=.inr ⟨hG,rfl⟩
  clear hG
  go_wp2
  go_ret
  exact ⟨⟨_,rfl,HF.out⟩,HW1.out⟩
 have hr:2≤d.ss.length∧d.ss.length≤24:=by
  have h:=hG.geo
  unfold gmB at h
  have h:=of_decide_eq_true h
  omega
 have HF:Hid (VcR f d (vcF d (d.ss.length-2)).1):=.inl ⟨hG,rfl⟩
 have H2:=victim_any d w1 (HB.out.1.below HW1.out nl) hr hG.map HB.out.2
 obtain ⟨x0,x1,x2,x3,x4,x5,x6,x7,x8,x9,xl⟩:=hx1
 clear hG
 generalize (vcF d (d.ss.length-2)).1=z at *
 go_wp2_with fail
 refine H2.mono ?_
 clear H2
 rintro e w2 ⟨rfl,hb2⟩
 have HV:Hid (Below w.heap.size w w2):=HW1.out.trans (hb2.mono HW1.out.size)
 clear hb2 x0 x1 x2 x3 x4 x5 x6 x7 x8 x9 xl
 go_wp2
 go_ret
 exact ⟨⟨_,rfl,HF.out⟩,HV.out⟩
end Go.Proofs.YtaibkchbkedjnaaGreatDoor
