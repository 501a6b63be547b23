/-
  UsedSectors, both.
-/
import Derived.Test.YtaibkchbkedjnaaGreatDoorFr1
import Derived.Test.YtaibkchbkedjnaaGreatDoorDkS2
import Derived.Test.YtaibkchbkedjnaaGreatDoorFr4
import Derived.Test.YtaibkchbkedjnaaGreatDoorFrS
import Derived.Test.YtaibkchbkedjnaaGreatDoorPlTo
namespace Go.Proofs.YtaibkchbkedjnaaGreatDoor
open Go.RowKit
set_option linter.unusedVariables false
set_option linter.unusedSimpArgs false

def UdR (f:List Int→Option (List Int)) (d:DkV) (v:Int):Prop:=(DkG f d∧v=(d.ss.length:Int) - 2 - (frL d (d.ss.length - 2)).length)∨(¬DkG f d∧v=0)
theorem UdR.same {f:List Int→Option (List Int)} {e d:DkV} {v:Int} (hs:DkS e d) (h:UdR f e v):UdR f d v:=by
 rcases h with ⟨h1,h2⟩ | ⟨h1,h2⟩
 ·exact .inl ⟨h1.same hs,by rw [h2,frL_same hs,hs.ssl]⟩
 ·exact .inr ⟨fun h=>h1 (h.same hs.symm),h2⟩
theorem UdR.uniq {f:List Int→Option (List Int)} {d:DkV} {v u:Int} (h:UdR f d v) (k:UdR f d u):v=u:=by
 rcases h with ⟨h1,h2⟩ | ⟨h1,h2⟩ <;> rcases k with ⟨k1,k2⟩ | ⟨k1,k2⟩
 ·rw [h2,k2]
 ·exact absurd h1 k1
 ·exact absurd k1 h1
 ·rw [h2,k2]

set_option maxRecDepth 20000 in
set_option maxHeartbeats 4000000 in
theorem specUsedSectors_any (f:List Int→Option (List Int)) (hf:DecF f) (d:DkV) (w:World) (hb:DkI w d) (hi:ItI w d.oa d.os) (hd:DkF d) (hcc:d.cs.length≤d.cc) :
  Calls Tryz.prog 38 #[.agg #[Value.slice d.sa d.ss.length d.sc,Value.slice d.pa d.ps.length d.pc,Value.int IntKind.i64 d.E,Value.int IntKind.i64 d.O,Value.slice d.ma d.ms.length d.mc,Value.slice d.va d.vs.length d.vc,Value.slice d.ca d.cs.length d.cc,Value.int IntKind.i64 d.F,Value.int IntKind.i64 d.G,Value.slice d.oa d.os.length d.oc]] w (AnI (UdR f d) w):=by
 have HW0:Hid (Below w.heap.size w (w.alloc (Obj.cells #[Value.slice d.sa d.ss.length d.sc,Value.slice d.pa d.ps.length d.pc,Value.int IntKind.i64 d.E,Value.int IntKind.i64 d.O,Value.slice d.ma d.ms.length d.mc,Value.slice d.va d.vs.length d.vc,Value.slice d.ca d.cs.length d.cc,Value.int IntKind.i64 d.F,Value.int IntKind.i64 d.G,Value.slice d.oa d.os.length d.oc] 49))):=(Below.refl _ _).alloc (Nat.le_refl _) _
 have hx0:=Dk10.new w d 49
 have H1:=specDiskOk_any f hf d _ (hb.below HW0.out (Nat.le_refl _)) (hi.below HW0.out (Nat.le_refl _)) hd hcc
 have HB:Hid (DkI w d∧d.cs.length≤1048576):=⟨hb,hd.cs⟩
 clear hb hi hd hf hcc
 unfold AnI
 go_enter Tryz.func38,Tryz.ntmps38
 go_wp2_with fail
 generalize (w.alloc (Obj.cells #[Value.slice d.sa d.ss.length d.sc,Value.slice d.pa d.ps.length d.pc,Value.int IntKind.i64 d.E,Value.int IntKind.i64 d.O,Value.slice d.ma d.ms.length d.mc,Value.slice d.va d.vs.length d.vc,Value.slice d.ca d.cs.length d.cc,Value.int IntKind.i64 d.F,Value.int IntKind.i64 d.G,Value.slice d.oa d.os.length d.oc] 49))=W0 at *
 refine H1.mono ?_
 clear H1
 rintro e w1 ⟨h1,hb1⟩
 have hx1:=hx0.step hb1
 have HW1:Hid (Below w.heap.size w w1):=HW0.out.trans (hb1.mono HW0.out.size)
 clear hb1 hx0 HW0
 rcases h1 with ⟨hG,rfl⟩ | ⟨hG,rfl⟩
 rotate_left 1
 ·have HF:Hid (UdR f d 0):=.inr ⟨hG,rfl⟩
  clear hG
  go_wp2
  go_ret
  exact ⟨⟨0,rfl,HF.out⟩,HW1.out⟩
 have hr:2≤d.ss.length∧d.ss.length≤1000:=by
  have h:=hG.geo
  unfold gmB at h
  have h:=of_decide_eq_true h
  omega
 have HF:Hid (UdR f d ((d.ss.length:Int) - 2 - (frL d (d.ss.length - 2)).length)):=.inl ⟨hG,rfl⟩
 have HGG:Hid (DkG f d):=hG
 have hl:=frL_len d (d.ss.length - 2)
 have X1:Hid (Dk10 w1 w.heap.size d):=hx1
 clear hG hx1
 go_wp2_with fail
 go_region_held3 (fun W=>W.cell? ⟨w.heap.size,0,none⟩=some (Value.slice d.sa d.ss.length d.sc)∧W.cell? ⟨w.heap.size,1,none⟩=some (Value.slice d.pa d.ps.length d.pc)∧W.cell? ⟨w.heap.size,2,none⟩=some (Value.int IntKind.i64 d.E)∧W.cell? ⟨w.heap.size,3,none⟩=some (Value.int IntKind.i64 d.O)∧W.cell? ⟨w.heap.size,4,none⟩=some (Value.slice d.ma d.ms.length d.mc)∧W.cell? ⟨w.heap.size,5,none⟩=some (Value.slice d.va d.vs.length d.vc)∧W.cell? ⟨w.heap.size,6,none⟩=some (Value.slice d.ca d.cs.length d.cc)∧W.cell? ⟨w.heap.size,7,none⟩=some (Value.int IntKind.i64 d.F)∧W.cell? ⟨w.heap.size,8,none⟩=some (Value.int IntKind.i64 d.G)∧W.cell? ⟨w.heap.size,9,none⟩=some (Value.slice d.oa d.os.length d.oc))
  (first | exact ⟨X1.out.c0,X1.out.c1,X1.out.c2,X1.out.c3,X1.out.c4,X1.out.c5,X1.out.c6,X1.out.c7,X1.out.c8,X1.out.c9⟩ | exact ⟨X2.out.c0,X2.out.c1,X2.out.c2,X2.out.c3,X2.out.c4,X2.out.c5,X2.out.c6,X2.out.c7,X2.out.c8,X2.out.c9⟩)
  (first
   | (go_at_call 70;refine (l9free_any d _ (HB.out.1.below HW1.out.drew (Nat.le_refl _)) hr HGG.out.map HGG.out.sav HB.out.2).mono ?_;rintro e w2 ⟨⟨a,c,rfl,hm⟩,hb2'⟩;have hb2:Below w1.heap.size w1 w2:=Below.drewS hb2';have X2:Hid (Dk10 w2 w.heap.size d):=X1.out.step hb2;have HV:Hid (Below w.heap.size w w2):=HW1.out.trans (hb2.mono HW1.out.size);clear hm hb2 hb2'))
 generalize (frL d (d.ss.length - 2)).length=m at *
 go_wp2
 go_ret
 have e1:IntKind.i64.wrap ((d.ss.length:Int) - 2)=(d.ss.length:Int) - 2:=IntWalk.i64_in _ (by omega)
 have e2:IntKind.i64.wrap ((d.ss.length:Int) - 2 - m)=(d.ss.length:Int) - 2 - m:=IntWalk.i64_in _ (by omega)
 rw [e1,e2]
 exact ⟨⟨_,rfl,HF.out⟩,HV.out⟩

set_option maxRecDepth 20000 in
set_option maxHeartbeats 4000000 in
theorem implUsedSectors_any (f:List Int→Option (List Int)) (hf:DecF f) (d:DkV) (w:World) (hb:DkI w d) (hi:ItI w d.oa d.os) (hd:DkF d) (hS:SentB w) :
  Calls Tryz.prog 39 #[.agg #[Value.slice d.sa d.ss.length d.sc,Value.slice d.pa d.ps.length d.pc,Value.int IntKind.i64 d.E,Value.int IntKind.i64 d.O,Value.slice d.ma d.ms.length d.mc,Value.slice d.va d.vs.length d.vc,Value.slice d.ca d.cs.length d.cc,Value.int IntKind.i64 d.F,Value.int IntKind.i64 d.G,Value.slice d.oa d.os.length d.oc]] w (AnI (UdR f d) w):=by
 have HW0:Hid (Below w.heap.size w (w.alloc (Obj.cells #[Value.slice d.sa d.ss.length d.sc,Value.slice d.pa d.ps.length d.pc,Value.int IntKind.i64 d.E,Value.int IntKind.i64 d.O,Value.slice d.ma d.ms.length d.mc,Value.slice d.va d.vs.length d.vc,Value.slice d.ca d.cs.length d.cc,Value.int IntKind.i64 d.F,Value.int IntKind.i64 d.G,Value.slice d.oa d.os.length d.oc] 49))):=(Below.refl _ _).alloc (Nat.le_refl _) _
 have hx0:=Dk10.new w d 49
 have H1:=implDiskOk_any f hf d _ (hb.below HW0.out (Nat.le_refl _)) (hi.below HW0.out (Nat.le_refl _)) hd (hS.below HW0.out)
 have HB:Hid (DkI w d∧d.cs.length≤1048576):=⟨hb,hd.cs⟩
 clear hb hi hd hf hS
 unfold AnI
 go_enter Tryz.func39,Tryz.ntmps39
 go_wp2_with fail
 generalize (w.alloc (Obj.cells #[Value.slice d.sa d.ss.length d.sc,Value.slice d.pa d.ps.length d.pc,Value.int IntKind.i64 d.E,Value.int IntKind.i64 d.O,Value.slice d.ma d.ms.length d.mc,Value.slice d.va d.vs.length d.vc,Value.slice d.ca d.cs.length d.cc,Value.int IntKind.i64 d.F,Value.int IntKind.i64 d.G,Value.slice d.oa d.os.length d.oc] 49))=W0 at *
 refine H1.mono ?_
 clear H1
 rintro e w1 ⟨h1,hb1⟩
 have hx1:=hx0.step hb1
 have HW1:Hid (Below w.heap.size w w1):=HW0.out.trans (hb1.mono HW0.out.size)
 clear hb1 hx0 HW0
 rcases h1 with ⟨hG,rfl⟩ | ⟨hG,rfl⟩
 rotate_left 1
 ·have HF:Hid (UdR f d 0):=.inr ⟨hG,rfl⟩
  clear hG
  go_wp2
  go_ret
  exact ⟨⟨0,rfl,HF.out⟩,HW1.out⟩
 have hr:2≤d.ss.length∧d.ss.length≤24:=by
  have h:=hG.geo
  unfold gmB at h
  have h:=of_decide_eq_true h
  omega
 have HF:Hid (UdR f d ((d.ss.length:Int) - 2 - (frL d (d.ss.length - 2)).length)):=.inl ⟨hG,rfl⟩
 have HGG:Hid (DkG f d):=hG
 have hl:=frL_len d (d.ss.length - 2)
 have X1:Hid (Dk10 w1 w.heap.size d):=hx1
 clear hG hx1
 go_wp2_with fail
 go_region_held3 (fun W=>W.cell? ⟨w.heap.size,0,none⟩=some (Value.slice d.sa d.ss.length d.sc)∧W.cell? ⟨w.heap.size,1,none⟩=some (Value.slice d.pa d.ps.length d.pc)∧W.cell? ⟨w.heap.size,2,none⟩=some (Value.int IntKind.i64 d.E)∧W.cell? ⟨w.heap.size,3,none⟩=some (Value.int IntKind.i64 d.O)∧W.cell? ⟨w.heap.size,4,none⟩=some (Value.slice d.ma d.ms.length d.mc)∧W.cell? ⟨w.heap.size,5,none⟩=some (Value.slice d.va d.vs.length d.vc)∧W.cell? ⟨w.heap.size,6,none⟩=some (Value.slice d.ca d.cs.length d.cc)∧W.cell? ⟨w.heap.size,7,none⟩=some (Value.int IntKind.i64 d.F)∧W.cell? ⟨w.heap.size,8,none⟩=some (Value.int IntKind.i64 d.G)∧W.cell? ⟨w.heap.size,9,none⟩=some (Value.slice d.oa d.os.length d.oc))
  (first | exact ⟨X1.out.c0,X1.out.c1,X1.out.c2,X1.out.c3,X1.out.c4,X1.out.c5,X1.out.c6,X1.out.c7,X1.out.c8,X1.out.c9⟩ | exact ⟨X2.out.c0,X2.out.c1,X2.out.c2,X2.out.c3,X2.out.c4,X2.out.c5,X2.out.c6,X2.out.c7,X2.out.c8,X2.out.c9⟩)
  (first
   | (go_at_call 71;refine (free_any d _ (HB.out.1.below HW1.out.drew (Nat.le_refl _)) hr HGG.out.map HGG.out.sav HGG.out.ch HB.out.2).mono ?_;rintro e w2 ⟨⟨a,c,rfl,hm⟩,hb2'⟩;have hb2:Below w1.heap.size w1 w2:=Below.drewS hb2';have X2:Hid (Dk10 w2 w.heap.size d):=X1.out.step hb2;have HV:Hid (Below w.heap.size w w2):=HW1.out.trans (hb2.mono HW1.out.size);clear hm hb2 hb2'))
 generalize (frL d (d.ss.length - 2)).length=m at *
 go_wp2
 go_ret
 have e1:IntKind.i64.wrap ((d.ss.length:Int) - 2)=(d.ss.length:Int) - 2:=IntWalk.i64_in _ (by omega)
 have e2:IntKind.i64.wrap ((d.ss.length:Int) - 2 - m)=(d.ss.length:Int) - 2 - m:=IntWalk.i64_in _ (by omega)
 rw [e1,e2]
 exact ⟨⟨_,rfl,HF.out⟩,HV.out⟩
end Go.Proofs.YtaibkchbkedjnaaGreatDoor
