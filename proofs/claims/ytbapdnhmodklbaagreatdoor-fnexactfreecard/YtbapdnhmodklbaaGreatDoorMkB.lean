/-
  What writing marks into a row of bytes does, and that they are found again.
-/
import Derived.Test.YtbapdnhmodklbaaGreatDoorFr4
import Derived.Test.YtbapdnhmodklbaaGreatDoorPkS
import Derived.Test.YtbapdnhmodklbaaGreatDoorFr2
import Derived.Test.YtbapdnhmodklbaaGreatDoorFr1
import Derived.Test.YtbapdnhmodklbaaGreatDoorItP
namespace Go.Proofs.YtbapdnhmodklbaaGreatDoor
open Go.RowKit
set_option linter.unusedVariables false
set_option linter.unusedSimpArgs false

theorem mapB_lo {ps:List (Int × Int)} (h:mapB ps=true) (i:Nat) (hi:i<ps.length):0≤(ps.getD i dp).1:=by
  unfold mapB at h
  simp only [Bool.and_eq_true] at h
  have h1:=okT_le ps ps.length (i+1) h.2 hi
  simp only [okT,Bool.and_eq_true] at h1
  have h2:=h1.2
  unfold stpP nwh rgt at h2
  simp only [Bool.or_eq_true,Bool.and_eq_true,beq_iff_eq,decide_eq_true_eq] at h2
  omega

set_option maxRecDepth 20000 in
set_option maxHeartbeats 4000000 in
theorem mapsFit_any (d:DkV) (w:World) (hb:DkI w d) (hd:DkF d) :
    Calls Tryz.prog 48 #[.agg #[Value.slice d.sa d.ss.length d.sc,Value.slice d.pa d.ps.length d.pc,Value.int IntKind.i64 d.E,Value.int IntKind.i64 d.O,Value.slice d.ma d.ms.length d.mc,Value.slice d.va d.vs.length d.vc,Value.slice d.ca d.cs.length d.cc,Value.int IntKind.i64 d.F,Value.int IntKind.i64 d.G,Value.slice d.oa d.os.length d.oc]] w fun r w'=>(((mapB d.ms=true∧mapB d.vs=true∧d.ms.length=d.vs.length∧gmB d.ms.length d.ss.length=true∧¬ badP d.ms d.ss.length d.ms.length∧¬ badP d.vs d.ss.length d.vs.length)∧r=.returned (.bool true))∨(¬ (mapB d.ms=true∧mapB d.vs=true∧d.ms.length=d.vs.length∧gmB d.ms.length d.ss.length=true∧¬ badP d.ms d.ss.length d.ms.length∧¬ badP d.vs d.ss.length d.vs.length)∧r=.returned (.bool false)))∧Below w.heap.size w w':=by
  have HW0:Hid (Below w.heap.size w (w.alloc (Obj.cells #[Value.slice d.sa d.ss.length d.sc,Value.slice d.pa d.ps.length d.pc,Value.int IntKind.i64 d.E,Value.int IntKind.i64 d.O,Value.slice d.ma d.ms.length d.mc,Value.slice d.va d.vs.length d.vc,Value.slice d.ca d.cs.length d.cc,Value.int IntKind.i64 d.F,Value.int IntKind.i64 d.G,Value.slice d.oa d.os.length d.oc] 47))):=(Below.refl _ _).alloc (Nat.le_refl _) _
  have hx0:=Dk10.new w d 47
  generalize hRP:(fun (r:Ending) (w':World)=>(((mapB d.ms=true∧mapB d.vs=true∧d.ms.length=d.vs.length∧gmB d.ms.length d.ss.length=true∧¬ badP d.ms d.ss.length d.ms.length∧¬ badP d.vs d.ss.length d.vs.length)∧r=.returned (.bool true))∨(¬ (mapB d.ms=true∧mapB d.vs=true∧d.ms.length=d.vs.length∧gmB d.ms.length d.ss.length=true∧¬ badP d.ms d.ss.length d.ms.length∧¬ badP d.vs d.ss.length d.vs.length)∧r=.returned (.bool false)))∧Below w.heap.size w w')=RP
  have HNO:Hid (∀ W,¬ (mapB d.ms=true∧mapB d.vs=true∧d.ms.length=d.vs.length∧gmB d.ms.length d.ss.length=true∧¬ badP d.ms d.ss.length d.ms.length∧¬ badP d.vs d.ss.length d.vs.length)→Below w.heap.size w W→RP (.returned (.bool false)) W):=fun W h hW=>by rw [← hRP];exact ⟨.inr ⟨h,rfl⟩,hW⟩
  have HYES:Hid (∀ W,(mapB d.ms=true∧mapB d.vs=true∧d.ms.length=d.vs.length∧gmB d.ms.length d.ss.length=true∧¬ badP d.ms d.ss.length d.ms.length∧¬ badP d.vs d.ss.length d.vs.length)→Below w.heap.size w W→RP (.returned (.bool true)) W):=fun W h hW=>by rw [← hRP];exact ⟨.inl ⟨h,rfl⟩,hW⟩
  clear hRP
  have HB:Hid (DkI w d):=hb
  have hm1:=hd.ms
  have hm2:=hd.vs
  have hm3:=hd.raw.n
  have H1:=implMapOk_any d.ma d.mc d.ms _ (hb.map.below HW0.out (Nat.le_refl _)) hd.ms
  clear hb hd
  go_enter Tryz.func48,Tryz.ntmps48
  go_wp2_with fail
  generalize (w.alloc (Obj.cells #[Value.slice d.sa d.ss.length d.sc,Value.slice d.pa d.ps.length d.pc,Value.int IntKind.i64 d.E,Value.int IntKind.i64 d.O,Value.slice d.ma d.ms.length d.mc,Value.slice d.va d.vs.length d.vc,Value.slice d.ca d.cs.length d.cc,Value.int IntKind.i64 d.F,Value.int IntKind.i64 d.G,Value.slice d.oa d.os.length d.oc] 47))=w0 at *
  refine H1.mono ?_
  clear H1
  rintro e w1 ⟨rfl,hb1⟩
  have hx1:=hx0.step hb1
  have HW1:Hid (Below w.heap.size w w1):=HW0.out.trans (hb1.mono HW0.out.size)
  clear hb1 hx0 HW0
  by_cases g1:mapB d.ms=true
  rotate_left 1
  · have g':mapB d.ms=false:=by simpa using g1
    rw [g']
    have HF:Hid (RP (.returned (.bool false)) w1):=HNO.out _ (fun h=>g1 h.1) HW1.out
    clear HB HNO HYES
    go_wp2
    exact HF.out
  rw [g1]
  obtain ⟨x0,x1,x2,x3,x4,x5,x6,x7,x8,x9,xl⟩:=id hx1
  have H2:=implMapOk_any d.va d.vc d.vs w1 (HB.out.sav.below HW1.out (Nat.le_refl _)) hm2
  go_wp2_with fail
  clear x0 x1 x2 x3 x4 x5 x6 x7 x8 x9 xl
  refine H2.mono ?_
  clear H2
  rintro e w2 ⟨rfl,hb2⟩
  have hx2:=hx1.step hb2
  have HW2:Hid (Below w.heap.size w w2):=HW1.out.trans (hb2.mono HW1.out.size)
  clear hb2 hx1 HW1
  by_cases g2:mapB d.vs=true
  rotate_left 1
  · have g':mapB d.vs=false:=by simpa using g2
    rw [g']
    have HF:Hid (RP (.returned (.bool false)) w2):=HNO.out _ (fun h=>g2 h.2.1) HW2.out
    clear HB HNO HYES
    go_wp2
    exact HF.out
  rw [g2]
  obtain ⟨x0,x1,x2,x3,x4,x5,x6,x7,x8,x9,xl⟩:=id hx2
  by_cases hlen:d.ms.length=d.vs.length
  rotate_left 1
  · have hlb:((d.ms.length:Int) != (d.vs.length:Int))=true:=by rw [bne_iff_ne];omega
    have HF:Hid (RP (.returned (.bool false)) w2):=HNO.out _ (fun h=>hlen h.2.2.1) HW2.out
    clear HB HNO HYES hlen
    go_wp2
    exact HF.out
  have HLE:Hid (d.ms.length=d.vs.length∧True):=⟨hlen,trivial⟩
  have hlb:((d.ms.length:Int) != (d.vs.length:Int))=false:=by rw [bne_eq_false_iff_eq];omega
  clear hlen
  have H4:=implGeomOk_any d.ms.length d.ss.length w2
  go_wp2_with fail
  refine H4.mono ?_
  clear H4
  rintro e w3 ⟨rfl,rfl⟩
  by_cases g4:gmB d.ms.length d.ss.length=true
  rotate_left 1
  · have g':gmB d.ms.length d.ss.length=false:=by simpa using g4
    rw [g']
    have HF:Hid (RP (.returned (.bool false)) w3):=HNO.out _ (fun h=>g4 h.2.2.2.1) HW2.out
    clear HB HNO HYES
    go_wp2
    exact HF.out
  rw [g4]
  have H5:=hasPlaces_any d.sa d.pa d.sc d.pc d.ss.length d.ps.length d.ma d.mc d.ms w3 hm3 (HB.out.map.below HW2.out (Nat.le_refl _)) hm1
  go_wp2_with fail
  clear x0 x1 x2 x3 x4 x5 x6 x7 x8 x9 xl
  refine H5.mono ?_
  clear H5
  rintro e w5 ⟨h5,hb5⟩
  have hx5:=hx2.step hb5
  have HW5:Hid (Below w.heap.size w w5):=HW2.out.trans (hb5.mono HW2.out.size)
  clear hb5 hx2 HW2
  rcases h5 with ⟨g5,rfl⟩ | ⟨g5,rfl⟩
  · skip
    have HF:Hid (RP (.returned (.bool false)) w5):=HNO.out _ (fun h=>h.2.2.2.2.1 g5) HW5.out
    clear HB HNO HYES g5
    go_wp2
    exact HF.out
  have HG5:Hid (¬ badP d.ms d.ss.length d.ms.length):=g5
  clear g5
  obtain ⟨x0,x1,x2,x3,x4,x5,x6,x7,x8,x9,xl⟩:=id hx5
  have H6:=hasPlaces_any d.sa d.pa d.sc d.pc d.ss.length d.ps.length d.va d.vc d.vs w5 hm3 (HB.out.sav.below HW5.out (Nat.le_refl _)) hm2
  go_wp2_with fail
  clear x0 x1 x2 x3 x4 x5 x6 x7 x8 x9 xl
  refine H6.mono ?_
  clear H6
  rintro e w6 ⟨h6,hb6⟩
  have hx6:=hx5.step hb6
  have HW6:Hid (Below w.heap.size w w6):=HW5.out.trans (hb6.mono HW5.out.size)
  clear hb6 hx5 HW5
  rcases h6 with ⟨g6,rfl⟩ | ⟨g6,rfl⟩
  · skip
    have HF:Hid (RP (.returned (.bool false)) w6):=HNO.out _ (fun h=>h.2.2.2.2.2 g6) HW6.out
    clear HB HNO HYES g6
    go_wp2
    exact HF.out
  have HF:Hid (RP (.returned (.bool true)) w6):=HYES.out _ ⟨g1,g2,HLE.out.1,g4,HG5.out,g6⟩ HW6.out
  clear HB HNO HYES g6
  go_wp2
  exact HF.out

set_option maxRecDepth 20000 in
set_option maxHeartbeats 4000000 in
theorem openFits_any (f:List Int→Option (List Int)) (hf:DecF f) (d:DkV) (w:World) (hb:DkI w d) (hi:ItI w d.oa d.os) (hd:DkF d) (hS:SentB w) :
    Calls Tryz.prog 50 #[.agg #[Value.slice d.sa d.ss.length d.sc,Value.slice d.pa d.ps.length d.pc,Value.int IntKind.i64 d.E,Value.int IntKind.i64 d.O,Value.slice d.ma d.ms.length d.mc,Value.slice d.va d.vs.length d.vc,Value.slice d.ca d.cs.length d.cc,Value.int IntKind.i64 d.F,Value.int IntKind.i64 d.G,Value.slice d.oa d.os.length d.oc]] w fun r w'=>(((PkR f d.F d.G d.os∧d.F=0∧d.G=0∧¬ badA d.os d.ms.length d.os.length)∧r=.returned (.bool true))∨(¬ (PkR f d.F d.G d.os∧d.F=0∧d.G=0∧¬ badA d.os d.ms.length d.os.length)∧r=.returned (.bool false)))∧Below w.heap.size w w':=by
  have hmf:∀ (fn:Fn) (first cap:Array Value) (w:World),(Instr.makeFunc fn first cap).run Tryz.prog w=.ok (.func fn first cap) w:=fun _ _ _ _=>rfl
  have HW0:Hid (Below w.heap.size w (w.alloc (Obj.cells #[Value.slice d.sa d.ss.length d.sc,Value.slice d.pa d.ps.length d.pc,Value.int IntKind.i64 d.E,Value.int IntKind.i64 d.O,Value.slice d.ma d.ms.length d.mc,Value.slice d.va d.vs.length d.vc,Value.slice d.ca d.cs.length d.cc,Value.int IntKind.i64 d.F,Value.int IntKind.i64 d.G,Value.slice d.oa d.os.length d.oc] 47))):=(Below.refl _ _).alloc (Nat.le_refl _) _
  have hx0:=Dk10.new w d 47
  generalize hRP:(fun (r:Ending) (w':World)=>(((PkR f d.F d.G d.os∧d.F=0∧d.G=0∧¬ badA d.os d.ms.length d.os.length)∧r=.returned (.bool true))∨(¬ (PkR f d.F d.G d.os∧d.F=0∧d.G=0∧¬ badA d.os d.ms.length d.os.length)∧r=.returned (.bool false)))∧Below w.heap.size w w')=RP
  have HNO:Hid (∀ W,¬ (PkR f d.F d.G d.os∧d.F=0∧d.G=0∧¬ badA d.os d.ms.length d.os.length)→Below w.heap.size w W→RP (.returned (.bool false)) W):=fun W h hW=>by rw [← hRP];exact ⟨.inr ⟨h,rfl⟩,hW⟩
  have HYES:Hid (∀ W,(PkR f d.F d.G d.os∧d.F=0∧d.G=0∧¬ badA d.os d.ms.length d.os.length)→Below w.heap.size w W→RP (.returned (.bool true)) W):=fun W h hW=>by rw [← hRP];exact ⟨.inl ⟨h,rfl⟩,hW⟩
  clear hRP
  have HB:Hid (DkI w d):=hb
  have hm1:=hd.ms
  have hm2:=hd.opn.n
  have H1:=implPackOk_any f hf d.F d.G d.oa d.oc d.os _ (hi.below HW0.out (Nat.le_refl _)) hd.opn.j (hS.below HW0.out)
  clear hb hd hi hS hf
  go_enter Tryz.func50,Tryz.ntmps50
  go_wp2_with fail
  generalize (w.alloc (Obj.cells #[Value.slice d.sa d.ss.length d.sc,Value.slice d.pa d.ps.length d.pc,Value.int IntKind.i64 d.E,Value.int IntKind.i64 d.O,Value.slice d.ma d.ms.length d.mc,Value.slice d.va d.vs.length d.vc,Value.slice d.ca d.cs.length d.cc,Value.int IntKind.i64 d.F,Value.int IntKind.i64 d.G,Value.slice d.oa d.os.length d.oc] 47))=w0 at *
  refine H1.mono ?_
  clear H1
  rintro e w1 ⟨h1,hb1⟩
  have hx1:=hx0.step hb1
  have HW1:Hid (Below w.heap.size w w1):=HW0.out.trans (hb1.mono HW0.out.size)
  clear hb1 hx0 HW0
  rcases h1 with ⟨g1,rfl⟩ | ⟨g1,rfl⟩
  rotate_left 1
  · skip
    have HF:Hid (RP (.returned (.bool false)) w1):=HNO.out _ (fun h=>g1 h.1) HW1.out
    clear HB HNO HYES g1
    go_wp2
    exact HF.out
  have HG1:Hid (PkR f d.F d.G d.os):=g1
  clear g1
  obtain ⟨x0,x1,x2,x3,x4,x5,x6,x7,x8,x9,xl⟩:=id hx1
  by_cases hzF:d.F=0
  rotate_left 1
  · have hzb:(d.F != 0)=true:=by rw [bne_iff_ne];exact hzF
    have HF:Hid (RP (.returned (.bool false)) w1):=HNO.out _ (fun h=>hzF h.2.1) HW1.out
    clear HB HNO HYES hzF
    go_wp2
    exact HF.out
  have HZF:Hid (d.F=0∧True):=⟨hzF,trivial⟩
  have hzbF:(d.F != 0)=false:=by rw [hzF];rfl
  clear hzF
  by_cases hzG:d.G=0
  rotate_left 1
  · have hzb:(d.G != 0)=true:=by rw [bne_iff_ne];exact hzG
    have HF:Hid (RP (.returned (.bool false)) w1):=HNO.out _ (fun h=>hzG h.2.2.1) HW1.out
    clear HB HNO HYES hzG
    go_wp2
    exact HF.out
  have HZG:Hid (d.G=0∧True):=⟨hzG,trivial⟩
  have hzbG:(d.G != 0)=false:=by rw [hzG];rfl
  clear hzG
  have H2:=containsIt_any w.heap.size d.ma d.mc d.ms.length d.oa d.oc d.os w1 x4 xl hm1 (HB.out.opn.below HW1.out (Nat.le_refl _)) hm2
  go_wp2_with fail
  clear x0 x1 x2 x3 x4 x5 x6 x7 x8 x9 xl
  refine H2.mono ?_
  clear H2
  rintro e w2 ⟨h2,hb2⟩
  have hx2:=hx1.step hb2
  have HW2:Hid (Below w.heap.size w w2):=HW1.out.trans (hb2.mono HW1.out.size)
  clear hb2 hx1 HW1
  rcases h2 with ⟨g2,rfl⟩ | ⟨g2,rfl⟩
  · skip
    have HF:Hid (RP (.returned (.bool false)) w2):=HNO.out _ (fun h=>h.2.2.2 g2) HW2.out
    clear HB HNO HYES g2
    go_wp2
    exact HF.out
  have HF:Hid (RP (.returned (.bool true)) w2):=HYES.out _ ⟨HG1.out,HZF.out.1,HZG.out.1,g2⟩ HW2.out
  clear HB HNO HYES g2
  go_wp2
  exact HF.out

theorem DkG.parts {f:List Int→Option (List Int)} {d:DkV}:DkG f d↔rok d.ss d.ps=true∧(0≤d.E∧d.E≤60000)∧(0≤d.O∧d.O≤60000)∧(mapB d.ms=true∧mapB d.vs=true∧d.ms.length=d.vs.length∧gmB d.ms.length d.ss.length=true∧¬ badP d.ms d.ss.length d.ms.length∧¬ badP d.vs d.ss.length d.vs.length)∧chK d.cs d.ss.length d.cs.length∧(PkR f d.F d.G d.os∧d.F=0∧d.G=0∧¬ badA d.os d.ms.length d.os.length):=by
  constructor
  · intro h
    exact ⟨h.raw,h.e,h.o,⟨h.map,h.sav,h.len,h.geo,fun ⟨i,hi,hn⟩=>hn ⟨mapB_lo h.map i hi,h.pm i hi⟩,fun ⟨i,hi,hn⟩=>hn ⟨mapB_lo h.sav i hi,h.ps i hi⟩⟩,h.ch,h.op,h.f0,h.g0,fun ⟨i,hi,hn⟩=>by have:=h.ad i hi;omega⟩
  · rintro ⟨h1,h2,h3,⟨m1,m2,m3,m4,m5,m6⟩,h5,o1,o2,o3,o4⟩
    refine ⟨h1,m1,m2,m3,m4,fun i hi=>?_,fun i hi=>?_,h2,h3,h5,o1,o2,o3,fun i hi=>?_⟩
    · rcases Int.lt_or_le (d.ms.getD i dp).1 d.ss.length with h | h
      · exact h
      · exact absurd ⟨i,hi,fun h2=>by omega⟩ m5
    · rcases Int.lt_or_le (d.vs.getD i dp).1 d.ss.length with h | h
      · exact h
      · exact absurd ⟨i,hi,fun h2=>by omega⟩ m6
    · rcases Int.lt_or_le (d.os.getD i de).n d.ms.length with h | h
      · exact h
      · exact absurd ⟨i,hi,h⟩ o4

set_option maxRecDepth 20000 in
set_option maxHeartbeats 4000000 in
theorem implDiskOk_any (f:List Int→Option (List Int)) (hf:DecF f) (d:DkV) (w:World) (hb:DkI w d) (hi:ItI w d.oa d.os) (hd:DkF d) (hS:SentB w) :
    Calls Tryz.prog 23 #[.agg #[Value.slice d.sa d.ss.length d.sc,Value.slice d.pa d.ps.length d.pc,Value.int IntKind.i64 d.E,Value.int IntKind.i64 d.O,Value.slice d.ma d.ms.length d.mc,Value.slice d.va d.vs.length d.vc,Value.slice d.ca d.cs.length d.cc,Value.int IntKind.i64 d.F,Value.int IntKind.i64 d.G,Value.slice d.oa d.os.length d.oc]] w (DkA f d w):=by
  unfold DkA
  have HW0:Hid (Below w.heap.size w (w.alloc (Obj.cells #[Value.slice d.sa d.ss.length d.sc,Value.slice d.pa d.ps.length d.pc,Value.int IntKind.i64 d.E,Value.int IntKind.i64 d.O,Value.slice d.ma d.ms.length d.mc,Value.slice d.va d.vs.length d.vc,Value.slice d.ca d.cs.length d.cc,Value.int IntKind.i64 d.F,Value.int IntKind.i64 d.G,Value.slice d.oa d.os.length d.oc] 47))):=(Below.refl _ _).alloc (Nat.le_refl _) _
  have hx0:=Dk10.new w d 47
  generalize hRP:(fun (r:Ending) (w':World)=>((DkG f d∧r=.returned (.bool true))∨(¬ DkG f d∧r=.returned (.bool false)))∧Below w.heap.size w w')=RP
  have HNO:Hid (∀ W,¬ DkG f d→Below w.heap.size w W→RP (.returned (.bool false)) W):=fun W h hW=>by rw [← hRP];exact ⟨.inr ⟨h,rfl⟩,hW⟩
  have HYES:Hid (∀ W,DkG f d→Below w.heap.size w W→RP (.returned (.bool true)) W):=fun W h hW=>by rw [← hRP];exact ⟨.inl ⟨h,rfl⟩,hW⟩
  clear hRP
  have HB:Hid (DkI w d∧ItI w d.oa d.os∧DkF d∧SentB w∧DecF f):=⟨hb,hi,hd,hS,hf⟩
  have H1:=implRawOk_any d.sa d.pa d.sc d.pc d.ss d.ps _ (hb.raw.below HW0.out (Nat.le_refl _)) (by have:=hd.raw.n;omega) (by have:=hd.raw.m;omega) (fun s hs=>by have:=hd.raw.l s hs;omega) (fun s hs=>by have:=hd.raw.p s hs;omega)
  clear hb hd hi hS hf
  go_enter Tryz.func23,Tryz.ntmps23
  go_wp2_with fail
  generalize (w.alloc (Obj.cells #[Value.slice d.sa d.ss.length d.sc,Value.slice d.pa d.ps.length d.pc,Value.int IntKind.i64 d.E,Value.int IntKind.i64 d.O,Value.slice d.ma d.ms.length d.mc,Value.slice d.va d.vs.length d.vc,Value.slice d.ca d.cs.length d.cc,Value.int IntKind.i64 d.F,Value.int IntKind.i64 d.G,Value.slice d.oa d.os.length d.oc] 47))=w0 at *
  refine H1.mono ?_
  clear H1
  rintro e w1 ⟨rfl,hb1⟩
  have hx1:=hx0.step hb1
  have HW1:Hid (Below w.heap.size w w1):=HW0.out.trans (hb1.mono HW0.out.size)
  clear hb1 hx0 HW0
  by_cases g1:rok d.ss d.ps=true
  rotate_left 1
  · have g':rok d.ss d.ps=false:=by simpa using g1
    rw [g']
    have HF:Hid (RP (.returned (.bool false)) w1):=HNO.out _ (fun h=>g1 h.raw) HW1.out
    clear HB HNO HYES
    go_wp2
    exact HF.out
  rw [g1]
  obtain ⟨x0,x1,x2,x3,x4,x5,x6,x7,x8,x9,xl⟩:=id hx1
  have HEE:=epochOk_any d.E w1
  by_cases gE:0≤d.E∧d.E≤60000
  rotate_left 1
  · rw [decide_eq_false gE] at HEE
    have HF:Hid (RP (.returned (.bool false)) w1):=HNO.out _ (fun h=>gE h.e) HW1.out
    clear HB HNO HYES gE
    go_wp2_with fail
    refine HEE.mono ?_
    clear HEE
    rintro e w2 ⟨rfl,rfl⟩
    go_wp2
    exact HF.out
  rw [decide_eq_true gE] at HEE
  have HGE:Hid (0≤d.E∧d.E≤60000):=gE
  clear gE
  go_wp2_with fail
  refine HEE.mono ?_
  clear HEE
  rintro e w2 ⟨rfl,rfl⟩
  have HEO:=epochOk_any d.O w2
  by_cases gO:0≤d.O∧d.O≤60000
  rotate_left 1
  · rw [decide_eq_false gO] at HEO
    have HF:Hid (RP (.returned (.bool false)) w2):=HNO.out _ (fun h=>gO h.o) HW1.out
    clear HB HNO HYES gO
    go_wp2_with fail
    refine HEO.mono ?_
    clear HEO
    rintro e w2 ⟨rfl,rfl⟩
    go_wp2
    exact HF.out
  rw [decide_eq_true gO] at HEO
  have HGO:Hid (0≤d.O∧d.O≤60000):=gO
  clear gO
  go_wp2_with fail
  refine HEO.mono ?_
  clear HEO
  rintro e w3 ⟨rfl,rfl⟩
  have H4:=mapsFit_any d _ (HB.out.1.below HW1.out (Nat.le_refl _)) HB.out.2.2.1
  go_wp2_with fail
  clear x0 x1 x2 x3 x4 x5 x6 x7 x8 x9 xl
  refine H4.mono ?_
  clear H4
  rintro e w4 ⟨h4,hb4⟩
  have hx4:=hx1.step hb4
  have HW4:Hid (Below w.heap.size w w4):=HW1.out.trans (hb4.mono HW1.out.size)
  clear hb4 hx1 HW1
  rcases h4 with ⟨g4,rfl⟩ | ⟨g4,rfl⟩
  rotate_left 1
  · skip
    have HF:Hid (RP (.returned (.bool false)) w4):=HNO.out _ (fun h=>g4 (DkG.parts.1 h).2.2.2.1) HW4.out
    clear HB HNO HYES g4
    go_wp2
    exact HF.out
  have HG4:Hid (mapB d.ms=true∧mapB d.vs=true∧d.ms.length=d.vs.length∧gmB d.ms.length d.ss.length=true∧¬ badP d.ms d.ss.length d.ms.length∧¬ badP d.vs d.ss.length d.vs.length):=g4
  have hn24:d.ss.length≤24:=by
    have:=g4.2.2.2.1
    unfold gmB at this
    have:=of_decide_eq_true this
    omega
  clear g4
  obtain ⟨x0,x1,x2,x3,x4,x5,x6,x7,x8,x9,xl⟩:=id hx4
  have H5:=chainFits_any d w4 (HB.out.1.below HW4.out (Nat.le_refl _)) hn24 HB.out.2.2.1.cs
  go_wp2_with fail
  clear x0 x1 x2 x3 x4 x5 x6 x7 x8 x9 xl
  refine H5.mono ?_
  clear H5
  rintro e w5 ⟨h5,hb5⟩
  have hx5:=hx4.step hb5
  have HW5:Hid (Below w.heap.size w w5):=HW4.out.trans (hb5.mono HW4.out.size)
  clear hb5 hx4 HW4
  rcases h5 with ⟨g5,rfl⟩ | ⟨g5,rfl⟩
  rotate_left 1
  · skip
    have HF:Hid (RP (.returned (.bool false)) w5):=HNO.out _ (fun h=>g5 h.ch) HW5.out
    clear HB HNO HYES g5
    go_wp2
    exact HF.out
  have HG5:Hid (chK d.cs d.ss.length d.cs.length):=g5
  clear g5
  obtain ⟨x0,x1,x2,x3,x4,x5,x6,x7,x8,x9,xl⟩:=id hx5
  have H6:=openFits_any f HB.out.2.2.2.2 d w5 (HB.out.1.below HW5.out (Nat.le_refl _)) (HB.out.2.1.below HW5.out (Nat.le_refl _)) HB.out.2.2.1 (HB.out.2.2.2.1.below HW5.out)
  go_wp2_with fail
  clear x0 x1 x2 x3 x4 x5 x6 x7 x8 x9 xl
  refine H6.mono ?_
  clear H6
  rintro e w6 ⟨h6,hb6⟩
  have hx6:=hx5.step hb6
  have HW6:Hid (Below w.heap.size w w6):=HW5.out.trans (hb6.mono HW5.out.size)
  clear hb6 hx5 HW5
  rcases h6 with ⟨g6,rfl⟩ | ⟨g6,rfl⟩
  rotate_left 1
  · skip
    have HF:Hid (RP (.returned (.bool false)) w6):=HNO.out _ (fun h=>g6 (DkG.parts.1 h).2.2.2.2.2) HW6.out
    clear HB HNO HYES g6
    go_wp2
    exact HF.out
  have HF:Hid (RP (.returned (.bool true)) w6):=HYES.out _ (DkG.parts.2 ⟨g1,HGE.out,HGO.out,HG4.out,HG5.out,g6⟩) HW6.out
  clear HB HNO HYES g6
  go_wp2
  exact HF.out
set_option maxRecDepth 20000 in
set_option maxHeartbeats 4000000 in
theorem implFree_any (f:List Int→Option (List Int)) (hf:DecF f) (d:DkV) (w:World) (hb:DkI w d) (hi:ItI w d.oa d.os) (hd:DkF d) (hS:SentB w) :
    Calls Tryz.prog 7 #[.agg #[Value.slice d.sa d.ss.length d.sc,Value.slice d.pa d.ps.length d.pc,Value.int IntKind.i64 d.E,Value.int IntKind.i64 d.O,Value.slice d.ma d.ms.length d.mc,Value.slice d.va d.vs.length d.vc,Value.slice d.ca d.cs.length d.cc,Value.int IntKind.i64 d.F,Value.int IntKind.i64 d.G,Value.slice d.oa d.os.length d.oc]] w (FrA f d w):=by
  have HW0:Hid (Below w.heap.size w (w.alloc (Obj.cells #[Value.slice d.sa d.ss.length d.sc,Value.slice d.pa d.ps.length d.pc,Value.int IntKind.i64 d.E,Value.int IntKind.i64 d.O,Value.slice d.ma d.ms.length d.mc,Value.slice d.va d.vs.length d.vc,Value.slice d.ca d.cs.length d.cc,Value.int IntKind.i64 d.F,Value.int IntKind.i64 d.G,Value.slice d.oa d.os.length d.oc] 47))):=(Below.refl _ _).alloc (Nat.le_refl _) _
  have hx0:=Dk10.new w d 47
  have H1:=implDiskOk_any f hf d _ (hb.below HW0.out (Nat.le_refl _)) (hi.below HW0.out (Nat.le_refl _)) hd (hS.below HW0.out)
  have HB:Hid (DkI w d∧d.cs.length≤1048576):=⟨hb,hd.cs⟩
  clear hb hi hd hf hS
  unfold FrA
  go_enter Tryz.func7,Tryz.ntmps7
  go_wp2_with fail
  generalize (w.alloc (Obj.cells #[Value.slice d.sa d.ss.length d.sc,Value.slice d.pa d.ps.length d.pc,Value.int IntKind.i64 d.E,Value.int IntKind.i64 d.O,Value.slice d.ma d.ms.length d.mc,Value.slice d.va d.vs.length d.vc,Value.slice d.ca d.cs.length d.cc,Value.int IntKind.i64 d.F,Value.int IntKind.i64 d.G,Value.slice d.oa d.os.length d.oc] 47))=W0 at *
  refine H1.mono ?_
  clear H1
  rintro e w1 ⟨h1,hb1⟩
  have hx1:=hx0.step hb1
  have HW1:Hid (Below w.heap.size w w1):=HW0.out.trans (hb1.mono HW0.out.size)
  clear hb1 hx0 HW0
  rcases h1 with ⟨hG,rfl⟩ | ⟨hG,rfl⟩
  rotate_left 1
  · have HF:Hid (¬ DkG f d):=hG
    clear hG
    go_wp2
    go_ret
    exact ⟨⟨none,0,[],rfl,.inl ⟨rfl,rfl,rfl⟩,.inr ⟨HF.out,rfl⟩⟩,HW1.out⟩
  have HG:Hid (DkG f d):=hG
  have hr:2≤d.ss.length∧d.ss.length≤24:=by
    have h:=hG.geo
    unfold gmB at h
    have h:=of_decide_eq_true h
    omega
  have H2:=free_any d w1 (HB.out.1.below HW1.out (Nat.le_refl _)) hr hG.map hG.sav hG.ch HB.out.2
  clear hG hr
  obtain ⟨x0,x1,x2,x3,x4,x5,x6,x7,x8,x9,xl⟩:=hx1
  go_wp2_with fail
  refine H2.mono ?_
  clear H2
  rintro e w2 ⟨⟨a,c,rfl,hm⟩,hb2⟩
  have HF:Hid (MinI w2 w.heap.size w2.heap.size a c (frL d (d.ss.length - 2))∧Below w.heap.size w w2):=⟨hm.mono HW1.out.size (Nat.le_refl _),HW1.out.trans (hb2.mono HW1.out.size)⟩
  clear hm hb2
  go_wp2
  go_ret
  exact ⟨⟨a,c,_,rfl,HF.out.1,.inl ⟨HG.out,rfl⟩⟩,HF.out.2⟩
theorem DkS.ssl {e d:DkV} (h:DkS e d):e.ss.length=d.ss.length:=by simpa using congrArg List.length h.ss
theorem frB_same {e d:DkV} (h:DkS e d) (s:Int):frB e s=frB d s:=by
  unfold frB
  rw [h.cs,h.ms,h.vs]
theorem frL_same {e d:DkV} (h:DkS e d) (k:Nat):frL e k=frL d k:=by
  induction k with
  | zero => rfl
  | succ k ih =>
    simp only [frL]
    rw [ih,frB_same h]
theorem MinI.capI {w:World} {B U:Nat} {a:Option Addr} {c:Nat} {zs:List Int} (h:MinI w B U a c zs):zs.length≤c:=by
  rcases h with ⟨-,rfl,rfl⟩ | ⟨g,-,-,-,h⟩
  · simp
  · rcases h.1.2 with ⟨e,_⟩ | ⟨g',cap',cur,e,-,-,r,-⟩
    · simp at e
    · simp at e
      omega
def marks (k:Int):Nat→List Int
  | 0 => []
  | n + 1 => marks k n ++ [(k + n) % 256]
theorem marks_len (k:Int) (n:Nat):(marks k n).length=n:=by
  induction n with
  | zero => rfl
  | succ n ih => simp [marks, ih]
theorem marks_step (k:Int) (zs:List Int) (j:Nat) (h:j<zs.length):(marks k j++zs.drop j).set j ((k+j) % 256)=marks k (j+1)++zs.drop (j+1):=by
  rw [List.set_append_right _ _ (by rw [marks_len];exact Nat.le_refl _),marks_len,Nat.sub_self,List.drop_eq_getElem_cons h,List.set_cons_zero]
  simp [marks]

set_option maxHeartbeats 400000 in
theorem markByteS_own (B g cap:Nat) (zs:List Int) (k:Int) (w:World) (h:Own w B g cap zs) (hn:zs.length≤2097152) (h0:0≤k) (h1:k≤2097152) :
    Calls Tryz.prog 82 #[.slice (some ⟨g,0,none⟩) zs.length cap,.int .i64 k] w fun e w'=>e=.returned (.int .i64 (k+zs.length))∧Own w' B g cap (marks k zs.length)∧Only (·=g) w w':=by
  generalize hlen:zs.length=n at *
  have HL:Hid (zs.length=n):=hlen
  clear hlen
  have HO:Hid (Own w B g cap zs):=h
  clear h
  go_enter Tryz.func82,Tryz.ntmps82
  go_wp2
  go_loopw [1,5] (fun q i wr=>∃ j:Nat,j≤n∧i=.int .i64 j∧q=.int .i64 (k+j)∧Own wr B g cap (marks k j++zs.drop j)∧Only (·=g) w wr) (fun _ i _=>n - (intOf i).toNat)
  case atStart=>exact ⟨0,Nat.zero_le _,rfl,by simp,by simpa [marks] using HO.out,Only.refl _ _⟩
  case round=>
    obtain ⟨j,hj,rfl,rfl,hown,honly⟩:=hrel
    by_cases hlt:j<n
    · have hl:(marks k j++zs.drop j).length=n:=by rw [List.length_append,marks_len,List.length_drop,HL.out];omega
      have hdst:=hown.cell j (by omega)
      have hfz:=hown.frozen j
      have R:=hown.store j ((k+j) % 256) (by omega)
      rw [marks_step k zs j (by rw [HL.out];exact hlt)] at R
      have HR:Hid (Own (wr.setCell ⟨g,j,none⟩ (.int .u8 ((k+j) % 256))) B g cap (marks k (j+1)++zs.drop (j+1))):=R
      have HB:Hid (Only (·=g) w (wr.setCell ⟨g,j,none⟩ (.int .u8 ((k+j) % 256)))):=honly.setCell (.inl rfl) _
      generalize (marks k j++zs.drop j).getD j 0=old at *
      clear R hown honly hl
      go_wp2
      go_roundw
      case rel=>exact ⟨j+1,by omega,by go_num,by go_num,HR.out,HB.out⟩
      case measure=>simp [intOf];omega
    · have hjn:j=n:=by omega
      subst hjn
      have hown':=hown
      rw [List.drop_of_length_le (by rw [HL.out];exact Nat.le_refl _),List.append_nil] at hown'
      have HF:Hid (Own wr B g cap (marks k j)):=hown'
      clear hown hown'
      go_wp2
      go_ret
      exact ⟨rfl,HF.out,honly⟩

theorem markByteS_any (a:Option Addr) (B U cap:Nat) (zs:List Int) (k:Int) (w:World) (h:Mine w B U a cap zs) (hn:zs.length≤2097152) (h0:0≤k) (h1:k≤2097152) :
    Calls Tryz.prog 82 #[.slice a zs.length cap,.int .i64 k] w fun e w'=>e=.returned (.int .i64 (k+zs.length))∧Mine w' B U a cap (marks k zs.length)∧Only (rowOf a) w w':=by
  rcases h with ⟨rfl,rfl,rfl⟩ | ⟨g,rfl,g1,g2,h⟩
  · go_enter Tryz.func82,Tryz.ntmps82
    go_wp2
    refine wp_loop_rounds 1 ?_
    rw [rounds_succ]
    go_wp2
    go_ret
    exact ⟨by simp,.inl ⟨rfl,rfl,rfl⟩,Only.refl _ _⟩
  · refine (markByteS_own B g cap zs k w h hn h0 h1).mono ?_
    rintro e w' ⟨rfl,ho,hy⟩
    exact ⟨rfl,.inr ⟨g,rfl,g1,g2,ho⟩,hy.mono (fun k _ hk=>⟨_,rfl,hk.symm⟩)⟩
end Go.Proofs.YtbapdnhmodklbaaGreatDoor
