/-
  FnExactFree, for every input: the call returns true and leaves its arguments as they were, where the named variables hold what the program's own text lays there (the card ties them to it).
-/
import Derived.Test.YtbapdnhmodklbaaGreatDoorMkB
import Derived.Test.YtbapdnhmodklbaaGreatDoorDkSz
import Derived.Test.YtbapdnhmodklbaaGreatDoorPlTo
import Derived.Test.YtbapdnhmodklbaaGreatDoorDkTo
import Derived.Test.YtbapdnhmodklbaaGreatDoorItP
import Derived.Test.YtbapdnhmodklbaaGreatDoorNum
namespace Go.Proofs.YtbapdnhmodklbaaGreatDoor
open Go.RowKit
set_option linter.unusedVariables false
set_option linter.unusedSimpArgs false

theorem Dk10.stab {lo hi b:Nat} {d:DkV} (h1:lo≤b) (h2:b<hi):Stab lo hi (fun W=>Dk10 W b d):=fun T W W' hp ho ht hl=>hp.only ho (ht b h1 h2)
theorem frA_ex (f:List Int→Option (List Int)) (d:DkV):∃ l:List Int,l.length≤24∧∀ e w r w',DkS e d→FrA f e w r w'→(∃ a c,r=.returned (.slice a l.length c)∧MinI w' w.heap.size w'.heap.size a c l)∧Below w.heap.size w w':=by
  by_cases hG:DkG f d
  · refine ⟨frL d (d.ss.length - 2),?_,fun e w r w' hs h=>⟨?_,h.2⟩⟩
    · have h1:=frL_len d (d.ss.length - 2)
      have h:=hG.geo
      unfold gmB at h
      have h:=of_decide_eq_true h
      omega
    · obtain ⟨a,c,l,h1,h2,⟨-,rfl⟩ | ⟨h3,-⟩⟩:=h.1
      · rw [frL_same hs,hs.ssl] at h1 h2
        exact ⟨a,c,h1,h2⟩
      · exact absurd (hG.same hs.symm) h3
  · refine ⟨[],by simp,fun e w r w' hs h=>⟨?_,h.2⟩⟩
    obtain ⟨a,c,l,h1,h2,⟨h3,-⟩ | ⟨-,rfl⟩⟩:=h.1
    · exact absurd (h3.same hs) hG
    · exact ⟨a,c,h1,h2⟩

set_option maxRecDepth 20000 in
set_option maxHeartbeats 16000000 in
theorem lawFree_any (d:DkV) (w:World) (hb:DkI w d) (hm:DkM d) (hS:SentB w) :
    Calls Tryz.prog 3 #[.agg #[Value.slice d.sa d.ss.length d.sc,Value.slice d.pa d.ps.length d.pc,Value.int IntKind.i64 d.E,Value.int IntKind.i64 d.O,Value.slice d.ma d.ms.length d.mc,Value.slice d.va d.vs.length d.vc,Value.slice d.ca d.cs.length d.cc,Value.int IntKind.i64 d.F,Value.int IntKind.i64 d.G,Value.slice d.oa d.os.length d.oc]] w fun e w'=>e=.returned (.bool true)∧Below w.heap.size w w':=by
  obtain ⟨f,hf⟩:=decF_ex
  have A0:Hid (Below w.heap.size w (w.alloc (Obj.cells #[Value.slice d.sa d.ss.length d.sc,Value.slice d.pa d.ps.length d.pc,Value.int IntKind.i64 d.E,Value.int IntKind.i64 d.O,Value.slice d.ma d.ms.length d.mc,Value.slice d.va d.vs.length d.vc,Value.slice d.ca d.cs.length d.cc,Value.int IntKind.i64 d.F,Value.int IntKind.i64 d.G,Value.slice d.oa d.os.length d.oc] 34))∧Dk10 (w.alloc (Obj.cells #[Value.slice d.sa d.ss.length d.sc,Value.slice d.pa d.ps.length d.pc,Value.int IntKind.i64 d.E,Value.int IntKind.i64 d.O,Value.slice d.ma d.ms.length d.mc,Value.slice d.va d.vs.length d.vc,Value.slice d.ca d.cs.length d.cc,Value.int IntKind.i64 d.F,Value.int IntKind.i64 d.G,Value.slice d.oa d.os.length d.oc] 34)) w.heap.size d):=⟨(Below.refl _ _).alloc (Nat.le_refl _) _,Dk10.new w d 34⟩
  have H1:=szDisk_any d _ (hb.below A0.out.1 (Nat.le_refl _)) hm
  have HB:Hid (DkI w d∧SentB w∧DecF f):=⟨hb,hS,hf⟩
  clear hb hS hf hm
  go_enter Tryz.func3,Tryz.ntmps3
  go_wp2_with fail
  generalize (w.alloc (Obj.cells #[Value.slice d.sa d.ss.length d.sc,Value.slice d.pa d.ps.length d.pc,Value.int IntKind.i64 d.E,Value.int IntKind.i64 d.O,Value.slice d.ma d.ms.length d.mc,Value.slice d.va d.vs.length d.vc,Value.slice d.ca d.cs.length d.cc,Value.int IntKind.i64 d.F,Value.int IntKind.i64 d.G,Value.slice d.oa d.os.length d.oc] 34))=W0 at *
  refine H1.mono ?_
  clear H1
  rintro e w1 ⟨⟨z,rfl,hz⟩,hb1⟩
  have A1:Hid (Below w.heap.size w w1∧Dk10 w1 w.heap.size d):=⟨A0.out.1.trans (hb1.mono A0.out.1.size),A0.out.2.step hb1⟩
  clear hb1 A0
  rcases hz with rfl | ⟨hz0,hfew⟩
  · go_wp2
    go_ret
    exact ⟨rfl,A1.out.1⟩
  have HF:Hid (DkF d):=hfew
  have hzn:¬ z<0:=by omega
  clear hfew
  obtain ⟨ls,hll,hLS⟩:=frA_ex f d
  have HSPEC:Hid (∀ (e:DkV) (B B1 B2 B3 B4 Z:Nat) (W:World),DkS e d→DkO W B B1 B2 B3 B4 Z e→Calls Tryz.prog 5 #[.agg #[Value.slice e.sa e.ss.length e.sc,Value.slice e.pa e.ps.length e.pc,Value.int IntKind.i64 e.E,Value.int IntKind.i64 e.O,Value.slice e.ma e.ms.length e.mc,Value.slice e.va e.vs.length e.vc,Value.slice e.ca e.cs.length e.cc,Value.int IntKind.i64 e.F,Value.int IntKind.i64 e.G,Value.slice e.oa e.os.length e.oc]] W fun r w'=>(∃ a c,r=.returned (.slice a ls.length c)∧MinI w' W.heap.size w'.heap.size a c ls)∧Below W.heap.size W w'):=fun e B B1 B2 B3 B4 Z W hs ho=>(specFree_any f HB.out.2.2 e W ho.inn ho.its (HF.out.same hs) ho.chn.capI).mono (fun r w' h=>hLS e W r w' hs h)
  have HIMPL:Hid (∀ (e:DkV) (B B1 B2 B3 B4 Z:Nat) (W:World),DkS e d→DkO W B B1 B2 B3 B4 Z e→SentB W→Calls Tryz.prog 7 #[.agg #[Value.slice e.sa e.ss.length e.sc,Value.slice e.pa e.ps.length e.pc,Value.int IntKind.i64 e.E,Value.int IntKind.i64 e.O,Value.slice e.ma e.ms.length e.mc,Value.slice e.va e.vs.length e.vc,Value.slice e.ca e.cs.length e.cc,Value.int IntKind.i64 e.F,Value.int IntKind.i64 e.G,Value.slice e.oa e.os.length e.oc]] W fun r w'=>(∃ a c,r=.returned (.slice a ls.length c)∧MinI w' W.heap.size w'.heap.size a c ls)∧Below W.heap.size W w'):=fun e B B1 B2 B3 B4 Z W hs ho hS=>(implFree_any f HB.out.2.2 e W ho.inn ho.its (HF.out.same hs) hS).mono (fun r w' h=>hLS e W r w' hs h)
  clear hLS
  obtain ⟨x0,x1,x2,x3,x4,x5,x6,x7,x8,x9,xl⟩:=A1.out.2
  have H2:=toDisk_any d w1 (HB.out.1.below A1.out.1 (Nat.le_refl _)) HF.out
  go_wp2_with fail
  refine H2.mono ?_
  clear H2
  rintro e w2 ⟨⟨e1,B1,B2,B3,B4,Z,rfl,hs1,ho1,-⟩,hb2⟩
  have A2:Hid (Below w.heap.size w w2∧Dk10 w2 w.heap.size d):=⟨A1.out.1.trans (hb2.mono A1.out.1.size),A1.out.2.step hb2⟩
  have H3:=HSPEC.out e1 _ _ _ _ _ _ w2 hs1 ho1
  clear hs1 ho1 hb2 A1 x0 x1 x2 x3 x4 x5 x6 x7 x8 x9 xl HSPEC
  go_wp2_with fail
  refine H3.mono ?_
  clear H3
  rintro e w3 ⟨⟨aw,cw,rfl,hmw⟩,hb3⟩
  have A3:Hid ((Below w.heap.size w w3∧Dk10 w3 w.heap.size d)∧MinI w3 (w.heap.size+1) w3.heap.size aw cw ls):=⟨⟨A2.out.1.trans (hb3.mono A2.out.1.size),A2.out.2.step hb3⟩,hmw.mono A2.out.2.lt (Nat.le_refl _)⟩
  clear hb3 hmw A2
  obtain ⟨x0,x1,x2,x3,x4,x5,x6,x7,x8,x9,xl⟩:=A3.out.1.2
  have H4:=toDisk_any d w3 (HB.out.1.below A3.out.1.1 (Nat.le_refl _)) HF.out
  go_wp2_with fail
  refine H4.mono ?_
  clear H4
  rintro e w4 ⟨⟨e2,B1,B2,B3,B4,Zx,rfl,hs2,ho2,hZ⟩,hb4⟩
  have hba:Below w4.heap.size w4 (w4.alloc (Obj.cells #[Value.slice e2.sa e2.ss.length e2.sc,Value.slice e2.pa e2.ps.length e2.pc,Value.int IntKind.i64 e2.E,Value.int IntKind.i64 e2.O,Value.slice e2.ma e2.ms.length e2.mc,Value.slice e2.va e2.vs.length e2.vc,Value.slice e2.ca e2.cs.length e2.cc,Value.int IntKind.i64 e2.F,Value.int IntKind.i64 e2.G,Value.slice e2.oa e2.os.length e2.oc] 47)):=(Below.refl _ _).alloc (Nat.le_refl _) _
  have hb5:=hb4.trans (hba.mono hb4.size)
  have A5:Hid (((Below w.heap.size w (w4.alloc (Obj.cells #[Value.slice e2.sa e2.ss.length e2.sc,Value.slice e2.pa e2.ps.length e2.pc,Value.int IntKind.i64 e2.E,Value.int IntKind.i64 e2.O,Value.slice e2.ma e2.ms.length e2.mc,Value.slice e2.va e2.vs.length e2.vc,Value.slice e2.ca e2.cs.length e2.cc,Value.int IntKind.i64 e2.F,Value.int IntKind.i64 e2.G,Value.slice e2.oa e2.os.length e2.oc] 47))∧Dk10 (w4.alloc (Obj.cells #[Value.slice e2.sa e2.ss.length e2.sc,Value.slice e2.pa e2.ps.length e2.pc,Value.int IntKind.i64 e2.E,Value.int IntKind.i64 e2.O,Value.slice e2.ma e2.ms.length e2.mc,Value.slice e2.va e2.vs.length e2.vc,Value.slice e2.ca e2.cs.length e2.cc,Value.int IntKind.i64 e2.F,Value.int IntKind.i64 e2.G,Value.slice e2.oa e2.os.length e2.oc] 47)) w.heap.size d)∧MinI (w4.alloc (Obj.cells #[Value.slice e2.sa e2.ss.length e2.sc,Value.slice e2.pa e2.ps.length e2.pc,Value.int IntKind.i64 e2.E,Value.int IntKind.i64 e2.O,Value.slice e2.ma e2.ms.length e2.mc,Value.slice e2.va e2.vs.length e2.vc,Value.slice e2.ca e2.cs.length e2.cc,Value.int IntKind.i64 e2.F,Value.int IntKind.i64 e2.G,Value.slice e2.oa e2.os.length e2.oc] 47)) (w.heap.size+1) w3.heap.size aw cw ls)∧(Dk10 (w4.alloc (Obj.cells #[Value.slice e2.sa e2.ss.length e2.sc,Value.slice e2.pa e2.ps.length e2.pc,Value.int IntKind.i64 e2.E,Value.int IntKind.i64 e2.O,Value.slice e2.ma e2.ms.length e2.mc,Value.slice e2.va e2.vs.length e2.vc,Value.slice e2.ca e2.cs.length e2.cc,Value.int IntKind.i64 e2.F,Value.int IntKind.i64 e2.G,Value.slice e2.oa e2.os.length e2.oc] 47)) w4.heap.size e2∧DkO (w4.alloc (Obj.cells #[Value.slice e2.sa e2.ss.length e2.sc,Value.slice e2.pa e2.ps.length e2.pc,Value.int IntKind.i64 e2.E,Value.int IntKind.i64 e2.O,Value.slice e2.ma e2.ms.length e2.mc,Value.slice e2.va e2.vs.length e2.vc,Value.slice e2.ca e2.cs.length e2.cc,Value.int IntKind.i64 e2.F,Value.int IntKind.i64 e2.G,Value.slice e2.oa e2.os.length e2.oc] 47)) w3.heap.size B1 B2 B3 B4 Zx e2)∧Zx≤w4.heap.size∧w4.heap.size<((w4.alloc (Obj.cells #[Value.slice e2.sa e2.ss.length e2.sc,Value.slice e2.pa e2.ps.length e2.pc,Value.int IntKind.i64 e2.E,Value.int IntKind.i64 e2.O,Value.slice e2.ma e2.ms.length e2.mc,Value.slice e2.va e2.vs.length e2.vc,Value.slice e2.ca e2.cs.length e2.cc,Value.int IntKind.i64 e2.F,Value.int IntKind.i64 e2.G,Value.slice e2.oa e2.os.length e2.oc] 47))).heap.size∧w.heap.size<w3.heap.size∧w3.heap.size≤w4.heap.size):=⟨⟨⟨A3.out.1.1.trans (hb5.mono A3.out.1.1.size),A3.out.1.2.step hb5⟩,A3.out.2.below hb5⟩,⟨Dk10.new w4 e2 47,(DkO.stab (Nat.le_refl _) (Nat.le_refl _)).below ho2 hba hZ⟩,hZ,by simp,A3.out.1.2.lt,hb4.size⟩
  have HS2:Hid (DkS e2 d):=hs2
  have H5:=HIMPL.out e2 _ _ _ _ _ _ _ hs2 A5.out.2.1.2 (HB.out.2.1.below A5.out.1.1.1)
  clear hs2 ho2 hZ hb4 hba hb5 A3 x0 x1 x2 x3 x4 x5 x6 x7 x8 x9 xl
  go_wp2_with fail
  generalize (w4.alloc (Obj.cells #[Value.slice e2.sa e2.ss.length e2.sc,Value.slice e2.pa e2.ps.length e2.pc,Value.int IntKind.i64 e2.E,Value.int IntKind.i64 e2.O,Value.slice e2.ma e2.ms.length e2.mc,Value.slice e2.va e2.vs.length e2.vc,Value.slice e2.ca e2.cs.length e2.cc,Value.int IntKind.i64 e2.F,Value.int IntKind.i64 e2.G,Value.slice e2.oa e2.os.length e2.oc] 47))=w5 at *
  generalize w4.heap.size=X at *
  generalize w3.heap.size=U at *
  refine H5.mono ?_
  clear H5
  rintro e w6 ⟨⟨ag,cg,rfl,hmg⟩,hb6⟩
  have HS6:Hid (Snp w w6 (w.heap.size+1) U (X+1) w6.heap.size (fun W=>Dk10 W w.heap.size d) (fun W=>MinI W (w.heap.size+1) U aw cw ls) (fun W=>DkO W U B1 B2 B3 B4 Zx e2∧Dk10 W X e2) (fun W=>MinI W (X+1) w6.heap.size ag cg ls)):=by
    obtain ⟨o1,o2,o3,o4⟩:=A5.out.2.2
    have h6:=hb6.size
    exact ⟨A5.out.1.1.1.trans (hb6.mono A5.out.1.1.1.size),by omega,Dk10.stab (Nat.le_refl _) (by omega),A5.out.1.1.2.step hb6,Stab.minI (Nat.le_refl _) (Nat.le_refl _),A5.out.1.2.below hb6,(DkO.stab (Nat.le_refl _) (by omega)).and (Dk10.stab o4 (by omega)),⟨(DkO.stab (Nat.le_refl _) (Nat.le_refl _)).below A5.out.2.1.2 hb6 (by omega),A5.out.2.1.1.step hb6⟩,Stab.minI (Nat.le_refl _) (Nat.le_refl _),hmg.mono (by omega) (Nat.le_refl _)⟩
  have HZX:Hid (Zx≤X):=A5.out.2.2.1
  clear hmg hb6 A5
  generalize w6.heap.size=Z at *
  go_wp2_with fail
  refine (eqIntS_yes ag aw cg cw ls w6 HS6.out.hg.byt HS6.out.hw.byt (by omega)).mono ?_
  rintro e w7 ⟨rfl,n7,rfl⟩
  have HS7:Hid _:=HS6.out.drew n7
  clear HS6
  generalize w6.drewN n7=w7 at *
  go_wp2_with fail
  go_region_held3 (fun W=>W.cell? ⟨X,0,none⟩=some (Value.slice e2.sa e2.ss.length e2.sc)∧W.cell? ⟨X,1,none⟩=some (Value.slice e2.pa e2.ps.length e2.pc)∧W.cell? ⟨X,2,none⟩=some (Value.int IntKind.i64 e2.E)∧W.cell? ⟨X,3,none⟩=some (Value.int IntKind.i64 e2.O)∧W.cell? ⟨X,4,none⟩=some (Value.slice e2.ma e2.ms.length e2.mc)∧W.cell? ⟨X,5,none⟩=some (Value.slice e2.va e2.vs.length e2.vc)∧W.cell? ⟨X,6,none⟩=some (Value.slice e2.ca e2.cs.length e2.cc)∧W.cell? ⟨X,7,none⟩=some (Value.int IntKind.i64 e2.F)∧W.cell? ⟨X,8,none⟩=some (Value.int IntKind.i64 e2.G)∧W.cell? ⟨X,9,none⟩=some (Value.slice e2.oa e2.os.length e2.oc)∧W.cell? ⟨w.heap.size,0,none⟩=some (Value.slice d.sa d.ss.length d.sc)∧W.cell? ⟨w.heap.size,1,none⟩=some (Value.slice d.pa d.ps.length d.pc)∧W.cell? ⟨w.heap.size,2,none⟩=some (Value.int IntKind.i64 d.E)∧W.cell? ⟨w.heap.size,3,none⟩=some (Value.int IntKind.i64 d.O)∧W.cell? ⟨w.heap.size,4,none⟩=some (Value.slice d.ma d.ms.length d.mc)∧W.cell? ⟨w.heap.size,5,none⟩=some (Value.slice d.va d.vs.length d.vc)∧W.cell? ⟨w.heap.size,6,none⟩=some (Value.slice d.ca d.cs.length d.cc)∧W.cell? ⟨w.heap.size,7,none⟩=some (Value.int IntKind.i64 d.F)∧W.cell? ⟨w.heap.size,8,none⟩=some (Value.int IntKind.i64 d.G)∧W.cell? ⟨w.heap.size,9,none⟩=some (Value.slice d.oa d.os.length d.oc))
    (first | exact ⟨HS7.out.hx.2.c0,HS7.out.hx.2.c1,HS7.out.hx.2.c2,HS7.out.hx.2.c3,HS7.out.hx.2.c4,HS7.out.hx.2.c5,HS7.out.hx.2.c6,HS7.out.hx.2.c7,HS7.out.hx.2.c8,HS7.out.hx.2.c9,HS7.out.hb.c0,HS7.out.hb.c1,HS7.out.hb.c2,HS7.out.hb.c3,HS7.out.hb.c4,HS7.out.hb.c5,HS7.out.hb.c6,HS7.out.hb.c7,HS7.out.hb.c8,HS7.out.hb.c9⟩ | exact ⟨HS8.out.hx.2.c0,HS8.out.hx.2.c1,HS8.out.hx.2.c2,HS8.out.hx.2.c3,HS8.out.hx.2.c4,HS8.out.hx.2.c5,HS8.out.hx.2.c6,HS8.out.hx.2.c7,HS8.out.hx.2.c8,HS8.out.hx.2.c9,HS8.out.hb.c0,HS8.out.hb.c1,HS8.out.hb.c2,HS8.out.hb.c3,HS8.out.hb.c4,HS8.out.hb.c5,HS8.out.hb.c6,HS8.out.hb.c7,HS8.out.hb.c8,HS8.out.hb.c9⟩ | exact ⟨HS9.out.hx.2.c0,HS9.out.hx.2.c1,HS9.out.hx.2.c2,HS9.out.hx.2.c3,HS9.out.hx.2.c4,HS9.out.hx.2.c5,HS9.out.hx.2.c6,HS9.out.hx.2.c7,HS9.out.hx.2.c8,HS9.out.hx.2.c9,HS9.out.hb.c0,HS9.out.hb.c1,HS9.out.hb.c2,HS9.out.hb.c3,HS9.out.hb.c4,HS9.out.hb.c5,HS9.out.hb.c6,HS9.out.hb.c7,HS9.out.hb.c8,HS9.out.hb.c9⟩)
    (first
      | (go_at_call 6; refine (toDisk_any d _ (HB.out.1.below HS7.out.bel.drew (Nat.le_refl _)) HF.out).mono ?_; rintro e w8 ⟨⟨e3, D1, D2, D3, D4, Y, rfl, hs3, ho3, hY⟩, hb8'⟩; have HS8 : Hid _ := HS7.out.step (Below.drewS hb8'); have HEQ := eqDisk_yes e2 e3 w8 HS8.out.hx.1.inn ho3.inn (HS2.out.trans hs3.symm) (HF.out.same HS2.out); clear hs3 ho3 hY hb8')
      | (go_at_call 9; refine HEQ.mono ?_; clear HEQ; rintro e w9 ⟨rfl, hb9⟩; have HS9 : Hid _ := HS8.out.step hb9; clear hb9))
  clear HS7 HS8
  obtain ⟨x0,x1,x2,x3,x4,x5,x6,x7,x8,x9,xl⟩:=HS9.out.hx.2
  have HMK:=markDisk_any e2 U B1 B2 B3 B4 Zx _ HS9.out.hx.1 (by have:=HS9.out.ord;have:=HZX.out;omega) (HF.out.same HS2.out)
  go_wp2_with fail
  refine HMK.mono ?_
  clear HMK x0 x1 x2 x3 x4 x5 x6 x7 x8 x9 xl
  rintro e w10 ⟨⟨zk,rfl,hzk⟩,ho10⟩
  have HS10:Hid _:=HS9.out.markX ho10 (fun k hk=>by have:=HZX.out;omega) (Stab.true _ _) trivial
  have hzk':¬ zk<0:=by omega
  clear ho10 HS9
  go_wp2_with fail
  refine (eqIntS_yes ag aw cg cw ls w10 HS10.out.hg.byt HS10.out.hw.byt (by omega)).mono ?_
  rintro e w11 ⟨rfl,n11,rfl⟩
  have HS11:Hid _:=HS10.out.drew n11
  clear HS10
  generalize w10.drewN n11=w11 at *
  go_wp2_with fail
  refine (markIntS_any ag (X+1) Z cg ls 1 _ HS11.out.hg (by omega) (by omega) (by omega)).mono ?_
  rintro e w12 ⟨rfl,hm12,ho12⟩
  have HS12:Hid _:=HS11.out.markG ho12 (fun k hk=>hm12.rowT hk) (Stab.minI (B:=X+1) (U:=Z) (a:=ag) (c:=cg) (zs:=marksI 1 ls.length) (Nat.le_refl _) (Nat.le_refl _)) hm12
  clear hm12 ho12 HS11
  go_wp2_with fail
  refine (heldIntS_any ag cg ls.length 1 _ HS12.out.hg.byt (by omega) (by omega) (by omega)).mono ?_
  rintro e w13 ⟨rfl,rfl⟩
  obtain ⟨x0,x1,x2,x3,x4,x5,x6,x7,x8,x9,xl⟩:=HS12.out.hb
  have H14:=toDisk_any d _ (HB.out.1.below HS12.out.bel (Nat.le_refl _)) HF.out
  go_wp2_with fail
  refine H14.mono ?_
  clear H14 x0 x1 x2 x3 x4 x5 x6 x7 x8 x9 xl
  rintro e w14 ⟨⟨e4,B1',B2',B3',B4',Z',rfl,hs4,ho4,-⟩,hb14⟩
  have HS14:Hid _:=HS12.out.step hb14
  have HIM:=HIMPL.out e4 _ _ _ _ _ _ w14 hs4 ho4 (HB.out.2.1.below HS14.out.bel)
  clear hb14 ho4 hs4 HS12 HIMPL
  go_wp2_with fail
  refine HIM.mono ?_
  clear HIM
  rintro e w15 ⟨⟨ah,ch,rfl,hmh⟩,hb15⟩
  have HS15:Hid _:=HS14.out.step hb15
  have HMH:Hid (Ins w15 ah ls):=hmh.byt
  clear hmh hb15 HS14
  go_wp2_with fail
  refine (eqIntS_yes ah aw ch cw ls w15 HMH.out HS15.out.hw.byt (by omega)).mono ?_
  rintro e w16 ⟨rfl,n16,rfl⟩
  have HS16:Hid _:=HS15.out.drew n16
  clear HS15 HMH
  generalize w15.drewN n16=w16 at *
  go_wp2_with fail
  refine (heldIntS_any ag cg ls.length 1 _ HS16.out.hg.byt (by omega) (by omega) (by omega)).mono ?_
  rintro e w17 ⟨rfl,rfl⟩
  go_wp2
  go_ret
  exact ⟨rfl,HS16.out.bel⟩
end Go.Proofs.YtbapdnhmodklbaaGreatDoor
namespace Go.Proofs.YtbapdnhmodklbaaGreatDoor
open Go.ChangeShapes Go.WideShapes Go.ChangeAt Go.RowKit Go.Joins
set_option linter.unusedVariables false

theorem vars_nil {H:Type} (enc:TypeId × Value→H) {P:Program} {W:World} (sp:Nat→Bool):DataW.TrodVars enc P W sp [] [] []:=rfl
theorem vars_consC {H:Type} (enc:TypeId × Value→H) {P:Program} {W:World} {n:String} {g:Nat} {t:TypeId} {ms:Array (String × TypeId)} {x:Value} {ns:List String} {ds:List (DataW H)} {ps:List MemPlace} {sp:Nat→Bool}
    (hg:P.globalNamed n=some g) (ht:(P.globals[g]?).map (·.type)=some t) (hi:P.underlying t=some (.interface ms)) (h:W.var? P n=some #[x]) (ix:IsIface x) (hr:DataW.TrodVars enc P W sp ns ds ps) :
    DataW.TrodVars enc P W sp (n :: ns) (tok enc x :: ds) (.cell g 0 :: ps):=⟨g,t,#[x],1,[],ps,hg,ht,h,trod_held hi ix 0,hr,rfl⟩
end Go.Proofs.YtbapdnhmodklbaaGreatDoor
namespace Go.Proofs.YtbapdnhmodklbaaGreatDoor.cardFree
open Go.ChangeShapes Go.WideShapes Go.ChangeAt Go.RowKit Go.Joins
set_option linter.unusedVariables false

theorem g_errOver : Tryz.prog.globalNamed "loop.example/g00528/impl.errOver" = some 8 := by kernel_rfl
theorem t_errOver :(Tryz.prog.globals[8]?).map (·.type)=some 170:=by kernel_rfl
theorem g_errFull : Tryz.prog.globalNamed "loop.example/g00528/impl.errFull" = some 18 := by kernel_rfl
theorem t_errFull :(Tryz.prog.globals[18]?).map (·.type)=some 170:=by kernel_rfl
theorem g_errRange : Tryz.prog.globalNamed "loop.example/g00528/impl.errRange" = some 7 := by kernel_rfl
theorem t_errRange :(Tryz.prog.globals[7]?).map (·.type)=some 170:=by kernel_rfl
theorem g_errSyms : Tryz.prog.globalNamed "loop.example/g00528/impl.errSyms" = some 13 := by kernel_rfl
theorem t_errSyms :(Tryz.prog.globals[13]?).map (·.type)=some 170:=by kernel_rfl
theorem g_errLength : Tryz.prog.globalNamed "loop.example/g00528/impl.errLength" = some 14 := by kernel_rfl
theorem t_errLength :(Tryz.prog.globals[14]?).map (·.type)=some 170:=by kernel_rfl
theorem g_errNoCodes : Tryz.prog.globalNamed "loop.example/g00528/impl.errNoCodes" = some 15 := by kernel_rfl
theorem t_errNoCodes :(Tryz.prog.globals[15]?).map (·.type)=some 170:=by kernel_rfl
theorem g_errShares : Tryz.prog.globalNamed "loop.example/g00528/impl.errShares" = some 16 := by kernel_rfl
theorem t_errShares :(Tryz.prog.globals[16]?).map (·.type)=some 170:=by kernel_rfl
theorem g_errRun : Tryz.prog.globalNamed "loop.example/g00528/impl.errRun" = some 9 := by kernel_rfl
theorem t_errRun :(Tryz.prog.globals[9]?).map (·.type)=some 170:=by kernel_rfl
theorem g_errNoSymbol : Tryz.prog.globalNamed "loop.example/g00528/impl.errNoSymbol" = some 17 := by kernel_rfl
theorem t_errNoSymbol :(Tryz.prog.globals[17]?).map (·.type)=some 170:=by kernel_rfl
theorem g_errShare : Tryz.prog.globalNamed "loop.example/g00528/impl.errShare" = some 10 := by kernel_rfl
theorem t_errShare :(Tryz.prog.globals[10]?).map (·.type)=some 170:=by kernel_rfl
theorem g_errOtherText : Tryz.prog.globalNamed "loop.example/g00528/impl.errOtherText" = some 11 := by kernel_rfl
theorem t_errOtherText :(Tryz.prog.globals[11]?).map (·.type)=some 170:=by kernel_rfl
theorem g_errBlobSize : Tryz.prog.globalNamed "loop.example/g00528/impl.errBlobSize" = some 0 := by kernel_rfl
theorem t_errBlobSize :(Tryz.prog.globals[0]?).map (·.type)=some 170:=by kernel_rfl
theorem g_errBlockSize : Tryz.prog.globalNamed "loop.example/g00528/impl.errBlockSize" = some 2 := by kernel_rfl
theorem t_errBlockSize :(Tryz.prog.globals[2]?).map (·.type)=some 170:=by kernel_rfl
theorem g_errMode : Tryz.prog.globalNamed "loop.example/g00528/impl.errMode" = some 1 := by kernel_rfl
theorem t_errMode :(Tryz.prog.globals[1]?).map (·.type)=some 170:=by kernel_rfl
theorem g_errUnsealed : Tryz.prog.globalNamed "loop.example/g00528/impl.errUnsealed" = some 3 := by kernel_rfl
theorem t_errUnsealed :(Tryz.prog.globals[3]?).map (·.type)=some 170:=by kernel_rfl
theorem g_errPiece : Tryz.prog.globalNamed "loop.example/g00528/impl.errPiece" = some 12 := by kernel_rfl
theorem t_errPiece :(Tryz.prog.globals[12]?).map (·.type)=some 170:=by kernel_rfl
theorem g_errLeft : Tryz.prog.globalNamed "loop.example/g00528/impl.errLeft" = some 6 := by kernel_rfl
theorem t_errLeft :(Tryz.prog.globals[6]?).map (·.type)=some 170:=by kernel_rfl
theorem g_errSeqs : Tryz.prog.globalNamed "loop.example/g00528/impl.errSeqs" = some 4 := by kernel_rfl
theorem t_errSeqs :(Tryz.prog.globals[4]?).map (·.type)=some 170:=by kernel_rfl
theorem door_met (os:Os) (args:Array Value):laidMetH Tryz.prog Rows.fnExactFreeRow.laid ((World.doorLaid Tryz.prog 351 os).forCall (fun _ _=>0) ⟨#[],args,[]⟩).memory:=
  laidMetH_of_parts3 (fuel:=8) (laidMet_of_run' 8 (by kernel_rfl) (by kernel_rfl)) (by kernel_rfl) (by kernel_rfl)

set_option maxRecDepth 100000 in
theorem lifted (os:Os) (started:os.Started) (H:Type) (enc:TypeId × Value→H) :
    ReturnsInHanded {} Tryz.checked os 3 .any (fun w args=>(Rows.fnExactFreeSpec.pre enc Tryz.prog Tryz.f3 [] false w args∧laidMetH Tryz.prog Rows.fnExactFreeRow.laid w)∧sizedMet enc Tryz.prog Tryz.f3 (OpenSpec.ofChange Rows.fnExactFreeSpec) false w args)
      (Rows.fnExactFreeSpec.post enc Tryz.prog Tryz.f3 false true false false):=by
  refine returnsInHanded_of_change_and (C:=Tryz.checked) (X:=fun w _=>laidMetH Tryz.prog Rows.fnExactFreeRow.laid w) (fun _ _ _ hh h=>h.of_heap hh) Tryz.own started (by kernel_rfl) Tryz.func3
    (ChangeSpec.witness_shaped (enc:=enc) (C:=Tryz.checked) (os:=os) (X:=fun w _=>laidMetH Tryz.prog Rows.fnExactFreeRow.laid w) false (World.doorLaid Tryz.prog 351 os) #[.agg #[.slice .none 0 0,.slice .none 0 0,.int .i64 0,.int .i64 0,.slice .none 0 0,.slice .none 0 0,.slice .none 0 0,.int .i64 0,.int .i64 0,.slice .none 0 0]] 8 rfl (World.shaped_of_RefB (by kernel_rfl) (by kernel_rfl)) (by kernel_rfl) (by kernel_rfl) (by kernel_rfl) (door_met os _)) ?_
  intro W base args ds gs before hval0 hW _ _ hL _
  have hval:∀ (j:Nat) t v,Tryz.f3.params[j]?=some t→args[j]?=some v→Value.okWide Tryz.prog W .any base t v:=hval0
  have hW':=hW
  obtain ⟨p,q,hA0,hV0,rfl,hfz,hnd⟩:=hW
  have hA:DataW.TrodAll enc Tryz.prog W 0 (fun _=>true) true Tryz.f3.params.toList args.toList ds p:=hA0
  have hV : DataW.TrodVars enc Tryz.prog W (fun _ => true) ["loop.example/g00528/impl.errBlobSize", "loop.example/g00528/impl.errMode", "loop.example/g00528/impl.errBlockSize", "loop.example/g00528/impl.errUnsealed", "loop.example/g00528/impl.errSeqs", "loop.example/g00528/impl.errRange", "loop.example/g00528/impl.errOver", "loop.example/g00528/impl.errRun", "loop.example/g00528/impl.errSyms", "loop.example/g00528/impl.errLength", "loop.example/g00528/impl.errNoCodes", "loop.example/g00528/impl.errShares", "loop.example/g00528/impl.errNoSymbol", "loop.example/g00528/impl.errFull", "loop.example/g00528/impl.errShare", "loop.example/g00528/impl.errOtherText", "loop.example/g00528/impl.errLeft", "loop.example/g00528/impl.errPiece"] gs q := hV0
  rw [Tryz.params3] at hA hval
  obtain ⟨v0,vs0,d0,ds0,p0,q0,hargs,rfl,rfl,h0,r0⟩:=trodAll_cons hA
  obtain ⟨rfl,rfl,rfl⟩:=trodAll_nil r0
  obtain rfl:args=#[v0]:=by cases args;simp_all
  have k0:=h0
  have lt0:∀ x ∈ p0,x.block<W.heap.size:=by obtain ⟨m,hm⟩:=k0;exact DataW.trod_lt m _ _ _ hm
  obtain ⟨d0,rfl,hb0,hm0⟩:=open_disk (hval 0 34 v0 rfl rfl) h0
  rw [MakeChecks.laidMetH_plain _ _ _ (by kernel_rfl)] at hL
  obtain ⟨s_errOver,hv_errOver,hc_errOver⟩:=sentinel hL g_errOver t_errOver
  have hG_errOver:8<W.heap.size:=World.block_lt_of_cell? _ _ hc_errOver
  obtain ⟨s_errFull,hv_errFull,hc_errFull⟩:=sentinel hL.tail g_errFull t_errFull
  have hG_errFull:18<W.heap.size:=World.block_lt_of_cell? _ _ hc_errFull
  obtain ⟨s_errRange,hv_errRange,hc_errRange⟩:=sentinel hL.tail.tail g_errRange t_errRange
  have hG_errRange:7<W.heap.size:=World.block_lt_of_cell? _ _ hc_errRange
  obtain ⟨s_errSyms,hv_errSyms,hc_errSyms⟩:=sentinel hL.tail.tail.tail g_errSyms t_errSyms
  have hG_errSyms:13<W.heap.size:=World.block_lt_of_cell? _ _ hc_errSyms
  obtain ⟨s_errLength,hv_errLength,hc_errLength⟩:=sentinel hL.tail.tail.tail.tail g_errLength t_errLength
  have hG_errLength:14<W.heap.size:=World.block_lt_of_cell? _ _ hc_errLength
  obtain ⟨s_errNoCodes,hv_errNoCodes,hc_errNoCodes⟩:=sentinel hL.tail.tail.tail.tail.tail g_errNoCodes t_errNoCodes
  have hG_errNoCodes:15<W.heap.size:=World.block_lt_of_cell? _ _ hc_errNoCodes
  obtain ⟨s_errShares,hv_errShares,hc_errShares⟩:=sentinel hL.tail.tail.tail.tail.tail.tail g_errShares t_errShares
  have hG_errShares:16<W.heap.size:=World.block_lt_of_cell? _ _ hc_errShares
  obtain ⟨s_errRun,hv_errRun,hc_errRun⟩:=sentinel hL.tail.tail.tail.tail.tail.tail.tail g_errRun t_errRun
  have hG_errRun:9<W.heap.size:=World.block_lt_of_cell? _ _ hc_errRun
  obtain ⟨s_errNoSymbol,hv_errNoSymbol,hc_errNoSymbol⟩:=sentinel hL.tail.tail.tail.tail.tail.tail.tail.tail g_errNoSymbol t_errNoSymbol
  have hG_errNoSymbol:17<W.heap.size:=World.block_lt_of_cell? _ _ hc_errNoSymbol
  obtain ⟨s_errShare,hv_errShare,hc_errShare⟩:=sentinel hL.tail.tail.tail.tail.tail.tail.tail.tail.tail g_errShare t_errShare
  have hG_errShare:10<W.heap.size:=World.block_lt_of_cell? _ _ hc_errShare
  obtain ⟨s_errOtherText,hv_errOtherText,hc_errOtherText⟩:=sentinel hL.tail.tail.tail.tail.tail.tail.tail.tail.tail.tail g_errOtherText t_errOtherText
  have hG_errOtherText:11<W.heap.size:=World.block_lt_of_cell? _ _ hc_errOtherText
  obtain ⟨s_errBlobSize,hv_errBlobSize,hc_errBlobSize⟩:=sentinel hL.tail.tail.tail.tail.tail.tail.tail.tail.tail.tail.tail g_errBlobSize t_errBlobSize
  have hG_errBlobSize:0<W.heap.size:=World.block_lt_of_cell? _ _ hc_errBlobSize
  obtain ⟨s_errBlockSize,hv_errBlockSize,hc_errBlockSize⟩:=sentinel hL.tail.tail.tail.tail.tail.tail.tail.tail.tail.tail.tail.tail g_errBlockSize t_errBlockSize
  have hG_errBlockSize:2<W.heap.size:=World.block_lt_of_cell? _ _ hc_errBlockSize
  obtain ⟨s_errMode,hv_errMode,hc_errMode⟩:=sentinel hL.tail.tail.tail.tail.tail.tail.tail.tail.tail.tail.tail.tail.tail g_errMode t_errMode
  have hG_errMode:1<W.heap.size:=World.block_lt_of_cell? _ _ hc_errMode
  obtain ⟨s_errUnsealed,hv_errUnsealed,hc_errUnsealed⟩:=sentinel hL.tail.tail.tail.tail.tail.tail.tail.tail.tail.tail.tail.tail.tail.tail g_errUnsealed t_errUnsealed
  have hG_errUnsealed:3<W.heap.size:=World.block_lt_of_cell? _ _ hc_errUnsealed
  obtain ⟨s_errPiece,hv_errPiece,hc_errPiece⟩:=sentinel hL.tail.tail.tail.tail.tail.tail.tail.tail.tail.tail.tail.tail.tail.tail.tail g_errPiece t_errPiece
  have hG_errPiece:12<W.heap.size:=World.block_lt_of_cell? _ _ hc_errPiece
  obtain ⟨s_errLeft,hv_errLeft,hc_errLeft⟩:=sentinel hL.tail.tail.tail.tail.tail.tail.tail.tail.tail.tail.tail.tail.tail.tail.tail.tail g_errLeft t_errLeft
  have hG_errLeft:6<W.heap.size:=World.block_lt_of_cell? _ _ hc_errLeft
  obtain ⟨s_errSeqs,hv_errSeqs,hc_errSeqs⟩:=sentinel hL.tail.tail.tail.tail.tail.tail.tail.tail.tail.tail.tail.tail.tail.tail.tail.tail.tail g_errSeqs t_errSeqs
  have hG_errSeqs:4<W.heap.size:=World.block_lt_of_cell? _ _ hc_errSeqs
  have read : ∀ (W' : World) (sp : Nat → Bool), Below W.heap.size W W' → DataW.TrodVars enc Tryz.prog W' sp ["loop.example/g00528/impl.errBlobSize", "loop.example/g00528/impl.errMode", "loop.example/g00528/impl.errBlockSize", "loop.example/g00528/impl.errUnsealed", "loop.example/g00528/impl.errSeqs", "loop.example/g00528/impl.errRange", "loop.example/g00528/impl.errOver", "loop.example/g00528/impl.errRun", "loop.example/g00528/impl.errSyms", "loop.example/g00528/impl.errLength", "loop.example/g00528/impl.errNoCodes", "loop.example/g00528/impl.errShares", "loop.example/g00528/impl.errNoSymbol", "loop.example/g00528/impl.errFull", "loop.example/g00528/impl.errShare", "loop.example/g00528/impl.errOtherText", "loop.example/g00528/impl.errLeft", "loop.example/g00528/impl.errPiece"] _ _ := fun W' sp bel =>
    vars_consC enc g_errBlobSize t_errBlobSize Tryz.underlying170 (var?_below bel g_errBlobSize hG_errBlobSize hv_errBlobSize) trivial (vars_consC enc g_errMode t_errMode Tryz.underlying170 (var?_below bel g_errMode hG_errMode hv_errMode) trivial (vars_consC enc g_errBlockSize t_errBlockSize Tryz.underlying170 (var?_below bel g_errBlockSize hG_errBlockSize hv_errBlockSize) trivial (vars_consC enc g_errUnsealed t_errUnsealed Tryz.underlying170 (var?_below bel g_errUnsealed hG_errUnsealed hv_errUnsealed) trivial (vars_consC enc g_errSeqs t_errSeqs Tryz.underlying170 (var?_below bel g_errSeqs hG_errSeqs hv_errSeqs) trivial (vars_consC enc g_errRange t_errRange Tryz.underlying170 (var?_below bel g_errRange hG_errRange hv_errRange) trivial (vars_consC enc g_errOver t_errOver Tryz.underlying170 (var?_below bel g_errOver hG_errOver hv_errOver) trivial (vars_consC enc g_errRun t_errRun Tryz.underlying170 (var?_below bel g_errRun hG_errRun hv_errRun) trivial (vars_consC enc g_errSyms t_errSyms Tryz.underlying170 (var?_below bel g_errSyms hG_errSyms hv_errSyms) trivial (vars_consC enc g_errLength t_errLength Tryz.underlying170 (var?_below bel g_errLength hG_errLength hv_errLength) trivial (vars_consC enc g_errNoCodes t_errNoCodes Tryz.underlying170 (var?_below bel g_errNoCodes hG_errNoCodes hv_errNoCodes) trivial (vars_consC enc g_errShares t_errShares Tryz.underlying170 (var?_below bel g_errShares hG_errShares hv_errShares) trivial (vars_consC enc g_errNoSymbol t_errNoSymbol Tryz.underlying170 (var?_below bel g_errNoSymbol hG_errNoSymbol hv_errNoSymbol) trivial (vars_consC enc g_errFull t_errFull Tryz.underlying170 (var?_below bel g_errFull hG_errFull hv_errFull) trivial (vars_consC enc g_errShare t_errShare Tryz.underlying170 (var?_below bel g_errShare hG_errShare hv_errShare) trivial (vars_consC enc g_errOtherText t_errOtherText Tryz.underlying170 (var?_below bel g_errOtherText hG_errOtherText hv_errOtherText) trivial (vars_consC enc g_errLeft t_errLeft Tryz.underlying170 (var?_below bel g_errLeft hG_errLeft hv_errLeft) trivial (vars_consC enc g_errPiece t_errPiece Tryz.underlying170 (var?_below bel g_errPiece hG_errPiece hv_errPiece) trivial (vars_nil enc _))))))))))))))))))
  obtain ⟨rfl,rfl⟩:=hV.unique (read W _ (Below.refl _ _))
  clear hA0 hV0 hval0
  refine (lawFree_any d0 W hb0 hm0 (SentB.mk (SentD.mk (SentT.mk ⟨_,hc_errOver⟩ ⟨_,_,hc_errFull⟩ ⟨hG_errOver,hG_errFull⟩) (SentF.mk ⟨_,_,hc_errRange⟩ ⟨_,_,hc_errOver⟩ ⟨_,_,hc_errOtherText⟩ ⟨hG_errRange,hG_errOver,hG_errOtherText⟩) ⟨_,_,hc_errRun⟩ ⟨_,_,hc_errNoSymbol⟩ ⟨_,_,hc_errShare⟩ ⟨_,_,hc_errPiece⟩ ⟨_,_,hc_errLeft⟩ ⟨_,_,hc_errSeqs⟩ ⟨⟨_,_,hc_errSyms⟩,⟨_,_,hc_errLength⟩,⟨_,_,hc_errNoCodes⟩,⟨_,_,hc_errShares⟩⟩ ⟨hG_errRun,hG_errNoSymbol,hG_errShare,hG_errPiece,hG_errLeft,hG_errSeqs⟩) ⟨_,_,hc_errUnsealed⟩ ⟨_,_,hc_errMode⟩ ⟨_,_,hc_errBlockSize⟩ ⟨_,_,hc_errBlobSize⟩ ⟨hG_errUnsealed,hG_errMode,hG_errBlockSize,hG_errBlobSize⟩)).mono fun e W' ⟨he,bel⟩=>?_
  subst he
  exact ⟨_,rfl,_,_,_,[],_,_,hW',trodAll_mk1 (shut_bool Tryz.underlying4 _),
    (trodAll_cons_mk (Below.trod Tryz.laidOut (by kernel_rfl) (of_decide_eq_true (by kernel_rfl)) k0 bel lt0) trodAll_mk0),
    read W' _ bel,bel.frame _,fun h=>by cases h⟩

theorem said :Rows.FnExactFreeSaid:=
  OpenClaim.holds_of_wide 3 Tryz.f3 rfl rfl rfl rfl rfl rfl rfl ⟨rfl,rfl,rfl,rfl,rfl⟩ rfl rfl rfl rfl rfl (by kernel_rfl) Tryz.func3 (by kernel_rfl)
    (of_decide_eq_true (by kernel_rfl)) (by unfold Func.isWrapper;first | (rw [if_pos (by decide +kernel)];kernel_rfl) | (rw [if_neg (by decide +kernel)];exact ⟨rfl,rfl⟩))
    (fun os started H enc _=>lifted os started H enc)

theorem plain (f : FuncId) (fn : Func) (hf : Tryz.pinned.checked.prog.funcNamed "loop.example/g00528/laws.FnExactFree" = some f) (hfn : Tryz.pinned.checked.prog.funcs[f]? = some fn) :
    true=Tryz.pinned.checked.prog.looks []∧∀ (j:Nat) t,fn.params[j]?=some t→Tryz.pinned.checked.prog.wantsStandIn t=false:=by
  obtain rfl : f = 3 := Option.some.inj ((show Tryz.prog.funcNamed "loop.example/g00528/laws.FnExactFree" = some 3 by kernel_rfl).symm.trans hf) |>.symm
  obtain rfl:fn=Tryz.f3:=(Option.some.inj (Tryz.func3.symm.trans hfn)).symm
  refine ⟨by kernel_rfl,fun j t ht=>?_⟩
  rw [Tryz.params3] at ht
  have hmem:=Array.mem_of_getElem? ht
  have h':t=34:=by simpa using hmem
  rcases h' with rfl
  · exact (show Tryz.prog.wantsStandIn 34=false by kernel_rfl)

end cardFree

theorem free_card :Rows.FnExactFreeCardSaid:=
  Claim7.holds_tied_plain_at .later [] _ _ _ _ cardFree.said (fun _ h=>by cases h) (by kernel_rfl) (fun _ h=>by cases h) fnExactFree_row_tie rfl ⟨rfl,rfl⟩ (by kernel_rfl) rfl cardFree.plain (by kernel_rfl)
#print axioms free_card
end Go.Proofs.YtbapdnhmodklbaaGreatDoor
