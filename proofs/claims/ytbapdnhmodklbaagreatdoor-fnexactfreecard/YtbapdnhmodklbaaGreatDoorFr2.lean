/-
  Free of the model. (Typed by wip/mkdk.py.)
-/
import Derived.Test.YtbapdnhmodklbaaGreatDoorFr1
import Derived.Test.YtbapdnhmodklbaaGreatDoorDkS2
namespace Go.Proofs.YtbapdnhmodklbaaGreatDoor
open Go.RowKit
set_option linter.unusedVariables false
set_option linter.unusedSimpArgs false

def FrA (f:List Int→Option (List Int)) (d:DkV) (w:World) (r:Ending) (w':World):Prop:=
  (∃ a c l,r=.returned (.slice a l.length c)∧MinI w' w.heap.size w'.heap.size a c l∧((DkG f d∧l=frL d (d.ss.length - 2))∨(¬ DkG f d∧l=[])))∧Below w.heap.size w w'

set_option maxRecDepth 20000 in
set_option maxHeartbeats 4000000 in
theorem specFree_any (f:List Int→Option (List Int)) (hf:DecF f) (d:DkV) (w:World) (hb:DkI w d) (hi:ItI w d.oa d.os) (hd:DkF d) (hcc:d.cs.length≤d.cc) :
    Calls Tryz.prog 5 #[.agg #[Value.slice d.sa d.ss.length d.sc,Value.slice d.pa d.ps.length d.pc,Value.int IntKind.i64 d.E,Value.int IntKind.i64 d.O,Value.slice d.ma d.ms.length d.mc,Value.slice d.va d.vs.length d.vc,Value.slice d.ca d.cs.length d.cc,Value.int IntKind.i64 d.F,Value.int IntKind.i64 d.G,Value.slice d.oa d.os.length d.oc]] w (FrA f d w):=by
  have HW0:Hid (Below w.heap.size w (w.alloc (Obj.cells #[Value.slice d.sa d.ss.length d.sc,Value.slice d.pa d.ps.length d.pc,Value.int IntKind.i64 d.E,Value.int IntKind.i64 d.O,Value.slice d.ma d.ms.length d.mc,Value.slice d.va d.vs.length d.vc,Value.slice d.ca d.cs.length d.cc,Value.int IntKind.i64 d.F,Value.int IntKind.i64 d.G,Value.slice d.oa d.os.length d.oc] 47))):=(Below.refl _ _).alloc (Nat.le_refl _) _
  have hx0:=Dk10.new w d 47
  have H1:=specDiskOk_any f hf d _ (hb.below HW0.out (Nat.le_refl _)) (hi.below HW0.out (Nat.le_refl _)) hd hcc
  have HB:Hid (DkI w d∧d.cs.length≤1048576):=⟨hb,hd.cs⟩
  clear hb hi hd hf
  unfold FrA
  go_enter Tryz.func5,Tryz.ntmps5
  go_wp2_with fail
  generalize (w.alloc (Obj.cells #[Value.slice d.sa d.ss.length d.sc,Value.slice d.pa d.ps.length d.pc,Value.int IntKind.i64 d.E,Value.int IntKind.i64 d.O,Value.slice d.ma d.ms.length d.mc,Value.slice d.va d.vs.length d.vc,Value.slice d.ca d.cs.length d.cc,Value.int IntKind.i64 d.F,Value.int IntKind.i64 d.G,Value.slice d.oa d.os.length d.oc] 47))=W0 at *
  refine H1.mono ?_
  clear H1
  rintro e w1 ⟨h1,hb1⟩
  have hx1:=hx0.step hb1
  have HW1:Hid (Below w.heap.size w w1):=HW0.out.trans (hb1.mono HW0.out.size)
  clear hb1 hx0 HW0
  rcases h1 with ⟨hG,rfl⟩ | ⟨hG,rfl⟩
  rotate_left 1
  · have HF:Hid (¬ DkG f d):=hG
    clear hG
    go_wp2
    go_ret
    exact ⟨⟨none,0,[],rfl,.inl ⟨rfl,rfl,rfl⟩,.inr ⟨HF.out,rfl⟩⟩,HW1.out⟩
  have HG:Hid (DkG f d):=hG
  have hr:2≤d.ss.length∧d.ss.length≤1000:=by
    have h:=hG.geo
    unfold gmB at h
    have h:=of_decide_eq_true h
    omega
  have H2:=l9free_any d w1 (HB.out.1.below HW1.out (Nat.le_refl _)) hr hG.map hG.sav HB.out.2
  clear hG hr
  obtain ⟨x0,x1,x2,x3,x4,x5,x6,x7,x8,x9,xl⟩:=hx1
  go_wp2_with fail
  refine H2.mono ?_
  clear H2
  rintro e w2 ⟨⟨a,c,rfl,hm⟩,hb2⟩
  have HF:Hid (MinI w2 w.heap.size w2.heap.size a c (frL d (d.ss.length - 2))∧Below w.heap.size w w2):=⟨hm.mono HW1.out.size (Nat.le_refl _),HW1.out.trans (hb2.mono HW1.out.size)⟩
  clear hm hb2
  go_wp2
  go_ret
  exact ⟨⟨a,c,_,rfl,HF.out.1,.inl ⟨HG.out,rfl⟩⟩,HF.out.2⟩
end Go.Proofs.YtbapdnhmodklbaaGreatDoor
