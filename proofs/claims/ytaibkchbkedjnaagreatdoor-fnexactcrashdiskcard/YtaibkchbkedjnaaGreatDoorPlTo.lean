/-
  laws.toPlace, toPlaceS and toMap copy places into memory of their own; what szMap answers.
-/
import Derived.Test.YtaibkchbkedjnaaGreatDoorDkI2
import Derived.Test.YtaibkchbkedjnaaGreatDoorPkS
import Derived.Test.YtaibkchbkedjnaaGreatDoorItTo
namespace Go.Proofs.YtaibkchbkedjnaaGreatDoor
open Go.RowKit
set_option linter.unusedVariables false
set_option linter.unusedSimpArgs false

theorem mapB_lo {ps:List (Int × Int)} (h:mapB ps=true) (i:Nat) (hi:i<ps.length):0≤(ps.getD i dp).1:=by
 unfold mapB at h
 simp only [Bool.and_eq_true] at h
 have h1:=okT_le ps ps.length (i+1) h.2 hi
 simp only [okT,Bool.and_eq_true] at h1
 have h2:=h1.2
 unfold stpP nwh rgt at h2
 simp only [Bool.or_eq_true,Bool.and_eq_true,beq_iff_eq,decide_eq_true_eq] at h2
 omega

set_option maxRecDepth 20000 in
set_option maxHeartbeats 4000000 in
theorem mapsFit_any (d:DkV) (w:World) (hb:DkI w d) (hd:DkF d) :
  Calls Tryz.prog 89 #[.agg #[Value.slice d.sa d.ss.length d.sc,Value.slice d.pa d.ps.length d.pc,Value.int IntKind.i64 d.E,Value.int IntKind.i64 d.O,Value.slice d.ma d.ms.length d.mc,Value.slice d.va d.vs.length d.vc,Value.slice d.ca d.cs.length d.cc,Value.int IntKind.i64 d.F,Value.int IntKind.i64 d.G,Value.slice d.oa d.os.length d.oc]] w fun r w'=>(((mapB d.ms=true∧mapB d.vs=true∧d.ms.length=d.vs.length∧gmB d.ms.length d.ss.length=true∧¬badP d.ms d.ss.length d.ms.length∧¬badP d.vs d.ss.length d.vs.length)∧r=.returned (.bool true))∨(¬(mapB d.ms=true∧mapB d.vs=true∧d.ms.length=d.vs.length∧gmB d.ms.length d.ss.length=true∧¬badP d.ms d.ss.length d.ms.length∧¬badP d.vs d.ss.length d.vs.length)∧r=.returned (.bool false)))∧Below w.heap.size w w':=by
 have HW0:Hid (Below w.heap.size w (w.alloc (Obj.cells #[Value.slice d.sa d.ss.length d.sc,Value.slice d.pa d.ps.length d.pc,Value.int IntKind.i64 d.E,Value.int IntKind.i64 d.O,Value.slice d.ma d.ms.length d.mc,Value.slice d.va d.vs.length d.vc,Value.slice d.ca d.cs.length d.cc,Value.int IntKind.i64 d.F,Value.int IntKind.i64 d.G,Value.slice d.oa d.os.length d.oc] 49))):=(Below.refl _ _).alloc (Nat.le_refl _) _
 have hx0:=Dk10.new w d 49
 generalize hRP:(fun (r:Ending) (w':World)=>(((mapB d.ms=true∧mapB d.vs=true∧d.ms.length=d.vs.length∧gmB d.ms.length d.ss.length=true∧¬badP d.ms d.ss.length d.ms.length∧¬badP d.vs d.ss.length d.vs.length)∧r=.returned (.bool true))∨(¬(mapB d.ms=true∧mapB d.vs=true∧d.ms.length=d.vs.length∧gmB d.ms.length d.ss.length=true∧¬badP d.ms d.ss.length d.ms.length∧¬badP d.vs d.ss.length d.vs.length)∧r=.returned (.bool false)))∧Below w.heap.size w w')=RP
 have HNO:Hid (∀ W,¬(mapB d.ms=true∧mapB d.vs=true∧d.ms.length=d.vs.length∧gmB d.ms.length d.ss.length=true∧¬badP d.ms d.ss.length d.ms.length∧¬badP d.vs d.ss.length d.vs.length)→Below w.heap.size w W→RP (.returned (.bool false)) W):=fun W h hW=>by rw [←hRP];exact ⟨.inr ⟨h,rfl⟩,hW⟩
 have HYES:Hid (∀ W,(mapB d.ms=true∧mapB d.vs=true∧d.ms.length=d.vs.length∧gmB d.ms.length d.ss.length=true∧¬badP d.ms d.ss.length d.ms.length∧¬badP d.vs d.ss.length d.vs.length)→Below w.heap.size w W→RP (.returned (.bool true)) W):=fun W h hW=>by rw [←hRP];exact ⟨.inl ⟨h,rfl⟩,hW⟩
 clear hRP
 have HB:Hid (DkI w d):=hb
 have hm1:=hd.ms
 have hm2:=hd.vs
 have hm3:=hd.raw.n
 have H1:=implMapOk_any d.ma d.mc d.ms _ (hb.map.below HW0.out (Nat.le_refl _)) hd.ms
 clear hb hd
 go_enter Tryz.func89,Tryz.ntmps89
 go_wp2_with fail
 generalize (w.alloc (Obj.cells #[Value.slice d.sa d.ss.length d.sc,Value.slice d.pa d.ps.length d.pc,Value.int IntKind.i64 d.E,Value.int IntKind.i64 d.O,Value.slice d.ma d.ms.length d.mc,Value.slice d.va d.vs.length d.vc,Value.slice d.ca d.cs.length d.cc,Value.int IntKind.i64 d.F,Value.int IntKind.i64 d.G,Value.slice d.oa d.os.length d.oc] 49))=w0 at *
 refine H1.mono ?_
 clear H1
 rintro e w1 ⟨rfl,hb1⟩
 have hx1:=hx0.step hb1
 have HW1:Hid (Below w.heap.size w w1):=HW0.out.trans (hb1.mono HW0.out.size)
 clear hb1 hx0 HW0
 by_cases g1:mapB d.ms=true
 rotate_left 1
 ·have g':mapB d.ms=false:=by simpa using g1
  rw [g']
  have HF:Hid (RP (.returned (.bool false)) w1):=HNO.out _ (fun h=>g1 h.1) HW1.out
  clear HB HNO HYES
  go_wp2
  exact HF.out
 rw [g1]
 obtain ⟨x0,x1,x2,x3,x4,x5,x6,x7,x8,x9,xl⟩:=id hx1
 have H2:=implMapOk_any d.va d.vc d.vs w1 (HB.out.sav.below HW1.out (Nat.le_refl _)) hm2
 go_wp2_with fail
 clear x0 x1 x2 x3 x4 x5 x6 x7 x8 x9 xl
 refine H2.mono ?_
 clear H2
 rintro e w2 ⟨rfl,hb2⟩
 have hx2:=hx1.step hb2
 have HW2:Hid (Below w.heap.size w w2):=HW1.out.trans (hb2.mono HW1.out.size)
 clear hb2 hx1 HW1
 by_cases g2:mapB d.vs=true
 rotate_left 1
 ·have g':mapB d.vs=false:=by simpa using g2
  rw [g']
  have HF:Hid (RP (.returned (.bool false)) w2):=HNO.out _ (fun h=>g2 h.2.1) HW2.out
  clear HB HNO HYES
  go_wp2
  exact HF.out
 rw [g2]
 obtain ⟨x0,x1,x2,x3,x4,x5,x6,x7,x8,x9,xl⟩:=id hx2
 by_cases hlen:d.ms.length=d.vs.length
 rotate_left 1
 ·have hlb:((d.ms.length:Int) != (d.vs.length:Int))=true:=by rw [bne_iff_ne];omega
  have HF:Hid (RP (.returned (.bool false)) w2):=HNO.out _ (fun h=>hlen h.2.2.1) HW2.out
  clear HB HNO HYES hlen
  go_wp2
  exact HF.out
 have HLE:Hid (d.ms.length=d.vs.length∧True):=⟨hlen,trivial⟩
 have hlb:((d.ms.length:Int) != (d.vs.length:Int))=false:=by rw [bne_eq_false_iff_eq];omega
 clear hlen
 have H4:=implGeomOk_any d.ms.length d.ss.length w2
 go_wp2_with fail
 refine H4.mono ?_
 clear H4
 rintro e w3 ⟨rfl,rfl⟩
 by_cases g4:gmB d.ms.length d.ss.length=true
 rotate_left 1
 ·have g':gmB d.ms.length d.ss.length=false:=by simpa using g4
  rw [g']
  have HF:Hid (RP (.returned (.bool false)) w3):=HNO.out _ (fun h=>g4 h.2.2.2.1) HW2.out
  clear HB HNO HYES
  go_wp2
  exact HF.out
 rw [g4]
 have H5:=hasPlaces_any d.sa d.pa d.sc d.pc d.ss.length d.ps.length d.ma d.mc d.ms w3 hm3 (HB.out.map.below HW2.out (Nat.le_refl _)) hm1
 go_wp2_with fail
 clear x0 x1 x2 x3 x4 x5 x6 x7 x8 x9 xl
 refine H5.mono ?_
 clear H5
 rintro e w5 ⟨h5,hb5⟩
 have hx5:=hx2.step hb5
 have HW5:Hid (Below w.heap.size w w5):=HW2.out.trans (hb5.mono HW2.out.size)
 clear hb5 hx2 HW2
 rcases h5 with ⟨g5,rfl⟩ | ⟨g5,rfl⟩
 ·skip
  have HF:Hid (RP (.returned (.bool false)) w5):=HNO.out _ (fun h=>h.2.2.2.2.1 g5) HW5.out
  clear HB HNO HYES g5
  go_wp2
  exact HF.out
 have HG5:Hid (¬badP d.ms d.ss.length d.ms.length):=g5
 clear g5
 obtain ⟨x0,x1,x2,x3,x4,x5,x6,x7,x8,x9,xl⟩:=id hx5
 have H6:=hasPlaces_any d.sa d.pa d.sc d.pc d.ss.length d.ps.length d.va d.vc d.vs w5 hm3 (HB.out.sav.below HW5.out (Nat.le_refl _)) hm2
 go_wp2_with fail
 clear x0 x1 x2 x3 x4 x5 x6 x7 x8 x9 xl
 refine H6.mono ?_
 clear H6
 rintro e w6 ⟨h6,hb6⟩
 have hx6:=hx5.step hb6
 have HW6:Hid (Below w.heap.size w w6):=HW5.out.trans (hb6.mono HW5.out.size)
 clear hb6 hx5 HW5
 rcases h6 with ⟨g6,rfl⟩ | ⟨g6,rfl⟩
 ·skip
  have HF:Hid (RP (.returned (.bool false)) w6):=HNO.out _ (fun h=>h.2.2.2.2.2 g6) HW6.out
  clear HB HNO HYES g6
  go_wp2
  exact HF.out
 have HF:Hid (RP (.returned (.bool true)) w6):=HYES.out _ ⟨g1,g2,HLE.out.1,g4,HG5.out,g6⟩ HW6.out
 clear HB HNO HYES g6
 go_wp2
 exact HF.out

set_option maxRecDepth 20000 in
set_option maxHeartbeats 4000000 in
theorem openFits_any (f:List Int→Option (List Int)) (hf:DecF f) (d:DkV) (w:World) (hb:DkI w d) (hi:ItI w d.oa d.os) (hd:DkF d) (hS:SentB w) :
  Calls Tryz.prog 91 #[.agg #[Value.slice d.sa d.ss.length d.sc,Value.slice d.pa d.ps.length d.pc,Value.int IntKind.i64 d.E,Value.int IntKind.i64 d.O,Value.slice d.ma d.ms.length d.mc,Value.slice d.va d.vs.length d.vc,Value.slice d.ca d.cs.length d.cc,Value.int IntKind.i64 d.F,Value.int IntKind.i64 d.G,Value.slice d.oa d.os.length d.oc]] w fun r w'=>(((PkR f d.F d.G d.os∧d.F=0∧d.G=0∧¬badA d.os d.ms.length d.os.length)∧r=.returned (.bool true))∨(¬(PkR f d.F d.G d.os∧d.F=0∧d.G=0∧¬badA d.os d.ms.length d.os.length)∧r=.returned (.bool false)))∧Below w.heap.size w w':=by
 have hmf:∀ (fn:Fn) (first cap:Array Value) (w:World),(Instr.makeFunc fn first cap).run Tryz.prog w=.ok (.func fn first cap) w:=fun _ _ _ _=>rfl
 have HW0:Hid (Below w.heap.size w (w.alloc (Obj.cells #[Value.slice d.sa d.ss.length d.sc,Value.slice d.pa d.ps.length d.pc,Value.int IntKind.i64 d.E,Value.int IntKind.i64 d.O,Value.slice d.ma d.ms.length d.mc,Value.slice d.va d.vs.length d.vc,Value.slice d.ca d.cs.length d.cc,Value.int IntKind.i64 d.F,Value.int IntKind.i64 d.G,Value.slice d.oa d.os.length d.oc] 49))):=(Below.refl _ _).alloc (Nat.le_refl _) _
 have hx0:=Dk10.new w d 49
 generalize hRP:(fun (r:Ending) (w':World)=>(((PkR f d.F d.G d.os∧d.F=0∧d.G=0∧¬badA d.os d.ms.length d.os.length)∧r=.returned (.bool true))∨(¬(PkR f d.F d.G d.os∧d.F=0∧d.G=0∧¬badA d.os d.ms.length d.os.length)∧r=.returned (.bool false)))∧Below w.heap.size w w')=RP
 have HNO:Hid (∀ W,¬(PkR f d.F d.G d.os∧d.F=0∧d.G=0∧¬badA d.os d.ms.length d.os.length)→Below w.heap.size w W→RP (.returned (.bool false)) W):=fun W h hW=>by rw [←hRP];exact ⟨.inr ⟨h,rfl⟩,hW⟩
 have HYES:Hid (∀ W,(PkR f d.F d.G d.os∧d.F=0∧d.G=0∧¬badA d.os d.ms.length d.os.length)→Below w.heap.size w W→RP (.returned (.bool true)) W):=fun W h hW=>by rw [←hRP];exact ⟨.inl ⟨h,rfl⟩,hW⟩
 clear hRP
 have HB:Hid (DkI w d):=hb
 have hm1:=hd.ms
 have hm2:=hd.opn.n
 have H1:=implPackOk_any f hf d.F d.G d.oa d.oc d.os _ (hi.below HW0.out (Nat.le_refl _)) hd.opn.j (hS.below HW0.out)
 clear hb hd hi hS hf
 go_enter Tryz.func91,Tryz.ntmps91
 go_wp2_with fail
 generalize (w.alloc (Obj.cells #[Value.slice d.sa d.ss.length d.sc,Value.slice d.pa d.ps.length d.pc,Value.int IntKind.i64 d.E,Value.int IntKind.i64 d.O,Value.slice d.ma d.ms.length d.mc,Value.slice d.va d.vs.length d.vc,Value.slice d.ca d.cs.length d.cc,Value.int IntKind.i64 d.F,Value.int IntKind.i64 d.G,Value.slice d.oa d.os.length d.oc] 49))=w0 at *
 refine H1.mono ?_
 clear H1
 rintro e w1 ⟨h1,hb1⟩
 have hx1:=hx0.step hb1
 have HW1:Hid (Below w.heap.size w w1):=HW0.out.trans (hb1.mono HW0.out.size)
 clear hb1 hx0 HW0
 rcases h1 with ⟨g1,rfl⟩ | ⟨g1,rfl⟩
 rotate_left 1
 ·skip
  have HF:Hid (RP (.returned (.bool false)) w1):=HNO.out _ (fun h=>g1 h.1) HW1.out
  clear HB HNO HYES g1
  go_wp2
  exact HF.out
 have HG1:Hid (PkR f d.F d.G d.os):=g1
 clear g1
 obtain ⟨x0,x1,x2,x3,x4,x5,x6,x7,x8,x9,xl⟩:=id hx1
 by_cases hzF:d.F=0
 rotate_left 1
 ·have hzb:(d.F != 0)=true:=by rw [bne_iff_ne];exact hzF
  have HF:Hid (RP (.returned (.bool false)) w1):=HNO.out _ (fun h=>hzF h.2.1) HW1.out
  clear HB HNO HYES hzF
  go_wp2
  exact HF.out
 have HZF:Hid (d.F=0∧True):=⟨hzF,trivial⟩
 have hzbF:(d.F != 0)=false:=by rw [hzF];rfl
 clear hzF
 by_cases hzG:d.G=0
 rotate_left 1
 ·have hzb:(d.G != 0)=true:=by rw [bne_iff_ne];exact hzG
  have HF:Hid (RP (.returned (.bool false)) w1):=HNO.out _ (fun h=>hzG h.2.2.1) HW1.out
  clear HB HNO HYES hzG
  go_wp2
  exact HF.out
 have HZG:Hid (d.G=0∧True):=⟨hzG,trivial⟩
 have hzbG:(d.G != 0)=false:=by rw [hzG];rfl
 clear hzG
 have H2:=containsIt_any w.heap.size d.ma d.mc d.ms.length d.oa d.oc d.os w1 x4 xl hm1 (HB.out.opn.below HW1.out (Nat.le_refl _)) hm2
 go_wp2_with fail
 clear x0 x1 x2 x3 x4 x5 x6 x7 x8 x9 xl
 refine H2.mono ?_
 clear H2
 rintro e w2 ⟨h2,hb2⟩
 have hx2:=hx1.step hb2
 have HW2:Hid (Below w.heap.size w w2):=HW1.out.trans (hb2.mono HW1.out.size)
 clear hb2 hx1 HW1
 rcases h2 with ⟨g2,rfl⟩ | ⟨g2,rfl⟩
 ·skip
  have HF:Hid (RP (.returned (.bool false)) w2):=HNO.out _ (fun h=>h.2.2.2 g2) HW2.out
  clear HB HNO HYES g2
  go_wp2
  exact HF.out
 have HF:Hid (RP (.returned (.bool true)) w2):=HYES.out _ ⟨HG1.out,HZF.out.1,HZG.out.1,g2⟩ HW2.out
 clear HB HNO HYES g2
 go_wp2
 exact HF.out

theorem DkG.parts {f:List Int→Option (List Int)} {d:DkV}:DkG f d↔rok d.ss d.ps=true∧(0≤d.E∧d.E≤60000)∧(0≤d.O∧d.O≤60000)∧(mapB d.ms=true∧mapB d.vs=true∧d.ms.length=d.vs.length∧gmB d.ms.length d.ss.length=true∧¬badP d.ms d.ss.length d.ms.length∧¬badP d.vs d.ss.length d.vs.length)∧chK d.cs d.ss.length d.cs.length∧(PkR f d.F d.G d.os∧d.F=0∧d.G=0∧¬badA d.os d.ms.length d.os.length):=by
 constructor
 ·intro h
  exact ⟨h.raw,h.e,h.o,⟨h.map,h.sav,h.len,h.geo,fun ⟨i,hi,hn⟩=>hn ⟨mapB_lo h.map i hi,h.pm i hi⟩,fun ⟨i,hi,hn⟩=>hn ⟨mapB_lo h.sav i hi,h.ps i hi⟩⟩,h.ch,h.op,h.f0,h.g0,fun ⟨i,hi,hn⟩=>by have:=h.ad i hi;omega⟩
 ·rintro ⟨h1,h2,h3,⟨m1,m2,m3,m4,m5,m6⟩,h5,o1,o2,o3,o4⟩
  refine ⟨h1,m1,m2,m3,m4,fun i hi=>?_,fun i hi=>?_,h2,h3,h5,o1,o2,o3,fun i hi=>?_⟩
  ·rcases Int.lt_or_le (d.ms.getD i dp).1 d.ss.length with h | h
   ·exact h
   ·exact absurd ⟨i,hi,fun h2=>by omega⟩ m5
  ·rcases Int.lt_or_le (d.vs.getD i dp).1 d.ss.length with h | h
   ·exact h
   ·exact absurd ⟨i,hi,fun h2=>by omega⟩ m6
  ·rcases Int.lt_or_le (d.os.getD i de).n d.ms.length with h | h
   ·exact h
   ·exact absurd ⟨i,hi,h⟩ o4

set_option maxRecDepth 20000 in
set_option maxHeartbeats 4000000 in
theorem implDiskOk_any (f:List Int→Option (List Int)) (hf:DecF f) (d:DkV) (w:World) (hb:DkI w d) (hi:ItI w d.oa d.os) (hd:DkF d) (hS:SentB w) :
  Calls Tryz.prog 50 #[.agg #[Value.slice d.sa d.ss.length d.sc,Value.slice d.pa d.ps.length d.pc,Value.int IntKind.i64 d.E,Value.int IntKind.i64 d.O,Value.slice d.ma d.ms.length d.mc,Value.slice d.va d.vs.length d.vc,Value.slice d.ca d.cs.length d.cc,Value.int IntKind.i64 d.F,Value.int IntKind.i64 d.G,Value.slice d.oa d.os.length d.oc]] w (DkA f d w):=by
 unfold DkA
 have HW0:Hid (Below w.heap.size w (w.alloc (Obj.cells #[Value.slice d.sa d.ss.length d.sc,Value.slice d.pa d.ps.length d.pc,Value.int IntKind.i64 d.E,Value.int IntKind.i64 d.O,Value.slice d.ma d.ms.length d.mc,Value.slice d.va d.vs.length d.vc,Value.slice d.ca d.cs.length d.cc,Value.int IntKind.i64 d.F,Value.int IntKind.i64 d.G,Value.slice d.oa d.os.length d.oc] 49))):=(Below.refl _ _).alloc (Nat.le_refl _) _
 have hx0:=Dk10.new w d 49
 generalize hRP:(fun (r:Ending) (w':World)=>((DkG f d∧r=.returned (.bool true))∨(¬DkG f d∧r=.returned (.bool false)))∧Below w.heap.size w w')=RP
 have HNO:Hid (∀ W,¬DkG f d→Below w.heap.size w W→RP (.returned (.bool false)) W):=fun W h hW=>by rw [←hRP];exact ⟨.inr ⟨h,rfl⟩,hW⟩
 have HYES:Hid (∀ W,DkG f d→Below w.heap.size w W→RP (.returned (.bool true)) W):=fun W h hW=>by rw [←hRP];exact ⟨.inl ⟨h,rfl⟩,hW⟩
 clear hRP
 have HB:Hid (DkI w d∧ItI w d.oa d.os∧DkF d∧SentB w∧DecF f):=⟨hb,hi,hd,hS,hf⟩
 have H1:=implRawOk_any d.sa d.pa d.sc d.pc d.ss d.ps _ (hb.raw.below HW0.out (Nat.le_refl _)) (by have:=hd.raw.n;omega) (by have:=hd.raw.m;omega) (fun s hs=>by have:=hd.raw.l s hs;omega) (fun s hs=>by have:=hd.raw.p s hs;omega)
 clear hb hd hi hS hf
 go_enter Tryz.func50,Tryz.ntmps50
 go_wp2_with fail
 generalize (w.alloc (Obj.cells #[Value.slice d.sa d.ss.length d.sc,Value.slice d.pa d.ps.length d.pc,Value.int IntKind.i64 d.E,Value.int IntKind.i64 d.O,Value.slice d.ma d.ms.length d.mc,Value.slice d.va d.vs.length d.vc,Value.slice d.ca d.cs.length d.cc,Value.int IntKind.i64 d.F,Value.int IntKind.i64 d.G,Value.slice d.oa d.os.length d.oc] 49))=w0 at *
 refine H1.mono ?_
 clear H1
 rintro e w1 ⟨rfl,hb1⟩
 have hx1:=hx0.step hb1
 have HW1:Hid (Below w.heap.size w w1):=HW0.out.trans (hb1.mono HW0.out.size)
 clear hb1 hx0 HW0
 by_cases g1:rok d.ss d.ps=true
 rotate_left 1
 ·have g':rok d.ss d.ps=false:=by simpa using g1
  rw [g']
  have HF:Hid (RP (.returned (.bool false)) w1):=HNO.out _ (fun h=>g1 h.raw) HW1.out
  clear HB HNO HYES
  go_wp2
  exact HF.out
 rw [g1]
 obtain ⟨x0,x1,x2,x3,x4,x5,x6,x7,x8,x9,xl⟩:=id hx1
 have HEE:=epochOk_any d.E w1
 by_cases gE:0≤d.E∧d.E≤60000
 rotate_left 1
 ·rw [decide_eq_false gE] at HEE
  have HF:Hid (RP (.returned (.bool false)) w1):=HNO.out _ (fun h=>gE h.e) HW1.out
  clear HB HNO HYES gE
  go_wp2_with fail
  refine HEE.mono ?_
  clear HEE
  rintro e w2 ⟨rfl,rfl⟩
  go_wp2
  exact HF.out
 rw [decide_eq_true gE] at HEE
 have HGE:Hid (0≤d.E∧d.E≤60000):=gE
 clear gE
 go_wp2_with fail
 refine HEE.mono ?_
 clear HEE
 rintro e w2 ⟨rfl,rfl⟩
 have HEO:=epochOk_any d.O w2
 by_cases gO:0≤d.O∧d.O≤60000
 rotate_left 1
 ·rw [decide_eq_false gO] at HEO
  have HF:Hid (RP (.returned (.bool false)) w2):=HNO.out _ (fun h=>gO h.o) HW1.out
  clear HB HNO HYES gO
  go_wp2_with fail
  refine HEO.mono ?_
  clear HEO
  rintro e w2 ⟨rfl,rfl⟩
  go_wp2
  exact HF.out
 rw [decide_eq_true gO] at HEO
 have HGO:Hid (0≤d.O∧d.O≤60000):=gO
 clear gO
 go_wp2_with fail
 refine HEO.mono ?_
 clear HEO
 rintro e w3 ⟨rfl,rfl⟩
 have H4:=mapsFit_any d _ (HB.out.1.below HW1.out (Nat.le_refl _)) HB.out.2.2.1
 go_wp2_with fail
 clear x0 x1 x2 x3 x4 x5 x6 x7 x8 x9 xl
 refine H4.mono ?_
 clear H4
 rintro e w4 ⟨h4,hb4⟩
 have hx4:=hx1.step hb4
 have HW4:Hid (Below w.heap.size w w4):=HW1.out.trans (hb4.mono HW1.out.size)
 clear hb4 hx1 HW1
 rcases h4 with ⟨g4,rfl⟩ | ⟨g4,rfl⟩
 rotate_left 1
 ·skip
  have HF:Hid (RP (.returned (.bool false)) w4):=HNO.out _ (fun h=>g4 (DkG.parts.1 h).2.2.2.1) HW4.out
  clear HB HNO HYES g4
  go_wp2
  exact HF.out
 have HG4:Hid (mapB d.ms=true∧mapB d.vs=true∧d.ms.length=d.vs.length∧gmB d.ms.length d.ss.length=true∧¬badP d.ms d.ss.length d.ms.length∧¬badP d.vs d.ss.length d.vs.length):=g4
 have hn24:d.ss.length≤24:=by
  have:=g4.2.2.2.1
  unfold gmB at this
  have:=of_decide_eq_true this
  omega
 clear g4
 obtain ⟨x0,x1,x2,x3,x4,x5,x6,x7,x8,x9,xl⟩:=id hx4
 have H5:=chainFits_any d w4 (HB.out.1.below HW4.out (Nat.le_refl _)) hn24 HB.out.2.2.1.cs
 go_wp2_with fail
 clear x0 x1 x2 x3 x4 x5 x6 x7 x8 x9 xl
 refine H5.mono ?_
 clear H5
 rintro e w5 ⟨h5,hb5⟩
 have hx5:=hx4.step hb5
 have HW5:Hid (Below w.heap.size w w5):=HW4.out.trans (hb5.mono HW4.out.size)
 clear hb5 hx4 HW4
 rcases h5 with ⟨g5,rfl⟩ | ⟨g5,rfl⟩
 rotate_left 1
 ·skip
  have HF:Hid (RP (.returned (.bool false)) w5):=HNO.out _ (fun h=>g5 h.ch) HW5.out
  clear HB HNO HYES g5
  go_wp2
  exact HF.out
 have HG5:Hid (chK d.cs d.ss.length d.cs.length):=g5
 clear g5
 obtain ⟨x0,x1,x2,x3,x4,x5,x6,x7,x8,x9,xl⟩:=id hx5
 have H6:=openFits_any f HB.out.2.2.2.2 d w5 (HB.out.1.below HW5.out (Nat.le_refl _)) (HB.out.2.1.below HW5.out (Nat.le_refl _)) HB.out.2.2.1 (HB.out.2.2.2.1.below HW5.out)
 go_wp2_with fail
 clear x0 x1 x2 x3 x4 x5 x6 x7 x8 x9 xl
 refine H6.mono ?_
 clear H6
 rintro e w6 ⟨h6,hb6⟩
 have hx6:=hx5.step hb6
 have HW6:Hid (Below w.heap.size w w6):=HW5.out.trans (hb6.mono HW5.out.size)
 clear hb6 hx5 HW5
 rcases h6 with ⟨g6,rfl⟩ | ⟨g6,rfl⟩
 rotate_left 1
 ·skip
  have HF:Hid (RP (.returned (.bool false)) w6):=HNO.out _ (fun h=>g6 (DkG.parts.1 h).2.2.2.2.2) HW6.out
  clear HB HNO HYES g6
  go_wp2
  exact HF.out
 have HF:Hid (RP (.returned (.bool true)) w6):=HYES.out _ (DkG.parts.2 ⟨g1,HGE.out,HGO.out,HG4.out,HG5.out,g6⟩) HW6.out
 clear HB HNO HYES g6
 go_wp2
 exact HF.out
set_option maxHeartbeats 800000 in
theorem toPlace_any (x y:Int) (w:World) :
  Calls Tryz.prog 124 #[.agg #[.int .i64 x,.int .i64 y]] w fun e w'=>e=.returned (.agg #[.int .i64 x,.int .i64 y])∧Below w.heap.size w w':=by
 go_enter Tryz.func124,Tryz.ntmps124
 go_wp2
 refine bodyPost_ret (v:=.agg #[.int .i64 x,.int .i64 y]) (by simp [results,Tryz.results124,go_sem]) rfl ⟨rfl,?_⟩
 repeat (refine Below.setCell ?_ (by first | (simp;done) | (simp;omega)) _)
 exact (((Below.refl _ _).alloc (Nat.le_refl _) _).alloc (by simp) _).alloc (by simp;omega) _

def partP (ps:List (Int × Int)) (k:Nat):List (Int × Int):=ps.take k++List.replicate (ps.length - k) dp
theorem partP_len (ps:List (Int × Int)) (k:Nat) (h:k≤ps.length):(partP ps k).length=ps.length:=by simp [partP];omega
theorem partP_all (ps:List (Int × Int)):partP ps ps.length=ps:=by simp [partP]
theorem partP_zero (ps:List (Int × Int)):partP ps 0=List.replicate ps.length dp:=by simp [partP]
theorem partP_set (ps:List (Int × Int)) (k:Nat) (h:k<ps.length):(partP ps k).set k (ps.getD k dp)=partP ps (k+1):=by
 unfold partP
 rw [List.set_append_right _ _ (by simp;omega),List.length_take,Nat.min_eq_left (by omega),Nat.sub_self,show ps.length - k=(ps.length - (k+1))+1 from by omega,List.replicate_succ,List.set_cons_zero,List.take_succ_eq_append_getElem h,List.append_assoc]
 simp [List.getD_eq_getElem?_getD,List.getElem?_eq_getElem h]

set_option maxHeartbeats 1600000 in
theorem toPlaceS_any (a:Option Addr) (cap:Nat) (ps:List (Int × Int)) (w:World) (hb:Pls w a ps) (hn:ps.length≤1048576) :
  Calls Tryz.prog 85 #[.slice a ps.length cap] w fun e w'=>
   e=.returned (.slice (some ⟨w.heap.size,0,none⟩) ps.length ps.length)∧OwP w' w.heap.size w.heap.size ps.length ps∧Below w.heap.size w w':=by
 obtain ⟨i0,hi,hz0,hz1,hz2⟩:=info_parts Tryz.infoPl
 have HSS:Hid (Pls w a ps):=hb
 clear hb
 generalize hlen:ps.length=n at *
 have HL:Hid (ps.length=n∧True):=⟨hlen,trivial⟩
 clear hlen
 go_enter Tryz.func85,Tryz.ntmps85
 go_wp2_with (at_make;refine wpList_make_full _ rfl _ _ 42 rfl w.heap.size 127 i0 (.agg #[.int .i64 0,.int .i64 0]) 2 Tryz.underlying42 hi hz0 hz1 .i64 .i64 _ _ n rfl rfl rfl rfl (by rw [hz2];omega) (by unfold maxLen;omega) (Nat.le_refl _) ?_;intro w1 hown hgrow)
 have hbw:Below w.heap.size w w1:=(Below.refl _ _).grown hgrow (Nat.le_refl _) (by intro k hk;cases hk)
 have H0:Hid (OwP w1 w.heap.size w.heap.size n (partP ps 0)):=by
  rw [partP_zero,HL.out.1]
  exact OwP.made hown
 clear hown hgrow hi hz0 hz1 hz2
 go_loopw [4] (fun i wr=>∃ (k:Nat),k≤n∧i=.int .i64 k∧OwP wr w.heap.size w.heap.size n (partP ps k)∧Below w.heap.size w wr) (fun i _=>n - (intOf i).toNat)
 case atStart=>exact ⟨0,Nat.zero_le _,rfl,H0.out,hbw⟩
 case round=>
  clear H0 hbw
  obtain ⟨k,hk,rfl,hown,hbel⟩:=hrel
  have HO:Hid (OwP wr w.heap.size w.heap.size n (partP ps k)):=hown
  clear hown
  by_cases hlt:k<n
  ·obtain ⟨b,off,rfl,hb1,hc1⟩:=(HSS.out.below hbel (Nat.le_refl _)).len_pos k (by rw [HL.out.1];exact hlt)
   obtain ⟨c0,c1⟩:=hc1 k (by rw [HL.out.1];exact hlt)
   have HRG:Hid (rP (ps.getD k dp)):=HSS.out.rng k (by rw [HL.out.1];exact hlt)
   have HST:Hid ((partP ps k).set k (ps.getD k dp)=partP ps (k+1)∧(partP ps k).length=n):=⟨partP_set ps k (by rw [HL.out.1];exact hlt),by rw [partP_len ps k (by rw [HL.out.1];omega),HL.out.1]⟩
   clear hc1
   generalize ps.getD k dp=p at *
   obtain ⟨x,y⟩:=p
   simp only at c0 c1
   go_wp2_with fail
   refine (toPlace_any x y _).mono ?_
   rintro e w2 ⟨rfl,hb2⟩
   have hb3:=hbel.trans (hb2.mono hbel.size)
   have HO2:Hid (OwP w2 w.heap.size w.heap.size n (partP ps k)):=OVp.below HO.out hb2
   obtain ⟨d0,d1⟩:=HO2.out.cell k (by rw [HST.out.2];exact hlt)
   have f0:=HO2.out.frozen (k * 2)
   have f1:=HO2.out.frozen (k * 2+1)
   have HR:Hid (OwP ((w2.setCell ⟨w.heap.size,k * 2,none⟩ (.int .i64 x)).setCell ⟨w.heap.size,k * 2+1,none⟩ (.int .i64 y)) w.heap.size w.heap.size n (partP ps (k+1))):=by
    have:=HO2.out.store k (by rw [HST.out.2];exact hlt) (x,y) HRG.out
    rw [HST.out.1] at this
    exact this
   have HB:Hid (Below w.heap.size w ((w2.setCell ⟨w.heap.size,k * 2,none⟩ (.int .i64 x)).setCell ⟨w.heap.size,k * 2+1,none⟩ (.int .i64 y))):=(hb3.setCell (p:=⟨w.heap.size,_,none⟩) (Nat.le_refl _) _).setCell (p:=⟨w.heap.size,_,none⟩) (Nat.le_refl _) _
   generalize ((partP ps k).getD k dp).1=o0 at *
   generalize ((partP ps k).getD k dp).2=o1 at *
   clear hb2 hb3 hbel c0 c1 HO HO2
   go_wp2
   go_roundw
   case rel=>exact ⟨k+1,by omega,by go_num,HR.out,HB.out⟩
   case measure=>simp [intOf];omega
  ·have hkn:k=n:=by omega
   subst hkn
   have HA:Hid (OwP wr w.heap.size w.heap.size k ps):=by
    have:=HO.out
    rw [show partP ps k=ps from by rw [←HL.out.1];exact partP_all ps] at this
    exact this
   clear HO
   go_wp2
   go_ret
   exact ⟨rfl,HA.out,hbel⟩

set_option maxHeartbeats 800000 in
theorem toMap_any (a:Option Addr) (cap:Nat) (ps:List (Int × Int)) (w:World) (hb:Pls w a ps) (hn:ps.length≤1048576) :
  Calls Tryz.prog 47 #[.agg #[.slice a ps.length cap]] w fun e w'=>
   ∃ g,e=.returned (.agg #[.slice (some ⟨g,0,none⟩) ps.length ps.length])∧OwP w' w.heap.size g ps.length ps∧Below w.heap.size w w':=by
 go_enter Tryz.func47,Tryz.ntmps47
 go_wp2_with fail
 have hw:Below w.heap.size w (((w.alloc (Obj.cells #[Value.slice a ps.length cap] 28)).alloc (Obj.cells #[Value.slice none 0 0] 44)).alloc (Obj.cells #[Value.slice none 0 0] 44)):=
  (((Below.refl _ _).alloc (Nat.le_refl _) _).alloc (by simp) _).alloc (by simp;omega) _
 refine (toPlaceS_any a cap ps _ (hb.below hw (Nat.le_refl _)) hn).mono ?_
 rintro e w1 ⟨rfl,hown,hbel⟩
 obtain ⟨hc,hf⟩:=bcell hbel
 have hz:=hbel.size
 have hb2:=hw.trans (hbel.mono (by simp;omega))
 simp at hc hf hz hown
 clear hbel hw
 go_wp2
 refine bodyPost_ret (v:=.agg #[.slice (some ⟨w.heap.size+1+1+1,0,none⟩) ps.length ps.length]) (by simp [results,Tryz.results47,go_sem,hc]) rfl ⟨_,rfl,?_,?_⟩
 ·refine OVp.weak (B:=w.heap.size+1+1+1) ?_ (by omega)
  repeat (refine OwP.other ?_ (by simp) _)
  exact hown
 ·repeat (refine Below.setCell ?_ (by first | (simp;done) | (simp;omega)) _)
  exact hb2

end Go.Proofs.YtaibkchbkedjnaaGreatDoor
