/-
  Free sectors: as numbers, and l9free of the model. (Typed by wip/mkdk.py.)
-/
import Derived.Test.YtaibkchbkedjnaaGreatDoorDkS2
import Derived.Test.YtaibkchbkedjnaaGreatDoorMpLvS
import Derived.Test.YtaibkchbkedjnaaGreatDoorILens
namespace Go.Proofs.YtaibkchbkedjnaaGreatDoor
open Go.RowKit
set_option linter.unusedVariables false
set_option linter.unusedSimpArgs false

def frB (d:DkV) (s:Int):Bool:=!(d.cs.any (fun z=>z == s)) && (!(d.ms.any (fun p=>p.1 == s)) && !(d.vs.any (fun p=>p.1 == s)))
def frL (d:DkV):Nat→List Int
 | 0=>[]
 | k+1=>if frB d ((k+2:Nat):Int) then frL d k++[((k+2:Nat):Int)] else frL d k
theorem frL_len (d:DkV) (k:Nat):(frL d k).length≤k:=by
 induction k with
 | zero=>simp [frL]
 | succ k ih=>
  simp only [frL]
  split
  ·simp;omega
  ·omega
theorem any_cs {cs:List Int} {s:Int}:cs.any (fun z=>z == s)=true↔∃ i,i<cs.length∧cs.getD i 0=s:=by
 rw [List.any_eq_true]
 constructor
 ·rintro ⟨z,hz,h⟩
  obtain ⟨i,hi,rfl⟩:=List.mem_iff_getElem.1 hz
  exact ⟨i,hi,by simpa [List.getD_eq_getElem?_getD,List.getElem?_eq_getElem hi] using h⟩
 ·rintro ⟨i,hi,h⟩
  refine ⟨cs[i],List.getElem_mem hi,?_⟩
  simpa [List.getD_eq_getElem?_getD,List.getElem?_eq_getElem hi] using h
theorem any_ms {ps:List (Int × Int)} {s:Int}:ps.any (fun p=>p.1 == s)=true↔∃ i,i<ps.length∧(ps.getD i dp).1=s:=by
 rw [List.any_eq_true]
 constructor
 ·rintro ⟨z,hz,h⟩
  obtain ⟨i,hi,rfl⟩:=List.mem_iff_getElem.1 hz
  exact ⟨i,hi,by simpa [List.getD_eq_getElem?_getD,List.getElem?_eq_getElem hi] using h⟩
 ·rintro ⟨i,hi,h⟩
  refine ⟨ps[i],List.getElem_mem hi,?_⟩
  simpa [List.getD_eq_getElem?_getD,List.getElem?_eq_getElem hi] using h
theorem liv_nil {ps:List (Int × Int)} {s:Int} (hs:2≤s):(liv ps ps.length s).length=0↔ps.any (fun p=>p.1 == s)=false:=by
 rw [List.length_eq_zero_iff]
 constructor
 ·intro h
  rw [←Bool.not_eq_true,any_ms]
  rintro ⟨i,hi,h2⟩
  have:(i:Int) ∈ liv ps ps.length s:=(liv_mem ps ps.length s i).2 ⟨i,hi,rfl,by
   unfold nwh
   have h3:((ps.getD i dp).1 == 0)=false:=by rw [beq_eq_false_iff_ne];omega
   rw [h3];rfl,h2⟩
  rw [h] at this
  cases this
 ·intro h
  rw [←Bool.not_eq_true,any_ms] at h
  rw [List.eq_nil_iff_forall_not_mem]
  intro z hz
  obtain ⟨i,hi,-,-,h2⟩:=(liv_mem ps ps.length s z).1 hz
  exact h ⟨i,hi,h2⟩

set_option maxRecDepth 20000 in
set_option maxHeartbeats 4000000 in
theorem l9free_any (d:DkV) (w:World) (hb:DkI w d) (hr:2≤d.ss.length∧d.ss.length≤1000) (h1:mapB d.ms=true) (h2:mapB d.vs=true) (hm:d.cs.length≤1048576) :
  Calls Tryz.prog 70 #[.agg #[Value.slice d.sa d.ss.length d.sc,Value.slice d.pa d.ps.length d.pc,Value.int IntKind.i64 d.E,Value.int IntKind.i64 d.O,Value.slice d.ma d.ms.length d.mc,Value.slice d.va d.vs.length d.vc,Value.slice d.ca d.cs.length d.cc,Value.int IntKind.i64 d.F,Value.int IntKind.i64 d.G,Value.slice d.oa d.os.length d.oc]] w fun e w'=>(∃ a c,e=.returned (.slice a (frL d (d.ss.length - 2)).length c)∧MinI w' w.heap.size w'.heap.size a c (frL d (d.ss.length - 2)))∧Below w.heap.size w w':=by
 obtain ⟨i0,hi,hz0,hz1,hz2⟩:=info_parts Tryz.infoI64
 have HB:Hid (DkI w d∧mapB d.ms=true∧mapB d.vs=true):=⟨hb,h1,h2⟩
 have HLN:Hid (∀ k,(frL d k).length≤k):=frL_len d
 have HX:Hid (Dk10 (w.alloc (Obj.cells #[Value.slice d.sa d.ss.length d.sc,Value.slice d.pa d.ps.length d.pc,Value.int IntKind.i64 d.E,Value.int IntKind.i64 d.O,Value.slice d.ma d.ms.length d.mc,Value.slice d.va d.vs.length d.vc,Value.slice d.ca d.cs.length d.cc,Value.int IntKind.i64 d.F,Value.int IntKind.i64 d.G,Value.slice d.oa d.os.length d.oc] 49)) w.heap.size d∧Below w.heap.size w (w.alloc (Obj.cells #[Value.slice d.sa d.ss.length d.sc,Value.slice d.pa d.ps.length d.pc,Value.int IntKind.i64 d.E,Value.int IntKind.i64 d.O,Value.slice d.ma d.ms.length d.mc,Value.slice d.va d.vs.length d.vc,Value.slice d.ca d.cs.length d.cc,Value.int IntKind.i64 d.F,Value.int IntKind.i64 d.G,Value.slice d.oa d.os.length d.oc] 49))∧w.heap.size+1=((w.alloc (Obj.cells #[Value.slice d.sa d.ss.length d.sc,Value.slice d.pa d.ps.length d.pc,Value.int IntKind.i64 d.E,Value.int IntKind.i64 d.O,Value.slice d.ma d.ms.length d.mc,Value.slice d.va d.vs.length d.vc,Value.slice d.ca d.cs.length d.cc,Value.int IntKind.i64 d.F,Value.int IntKind.i64 d.G,Value.slice d.oa d.os.length d.oc] 49))).heap.size):=⟨Dk10.new w d 49,(Below.refl _ _).alloc (Nat.le_refl _) _,by simp⟩
 clear hb h1 h2
 go_enter Tryz.func70,Tryz.ntmps70
 go_wp2
 generalize (w.alloc (Obj.cells #[Value.slice d.sa d.ss.length d.sc,Value.slice d.pa d.ps.length d.pc,Value.int IntKind.i64 d.E,Value.int IntKind.i64 d.O,Value.slice d.ma d.ms.length d.mc,Value.slice d.va d.vs.length d.vc,Value.slice d.ca d.cs.length d.cc,Value.int IntKind.i64 d.F,Value.int IntKind.i64 d.G,Value.slice d.oa d.os.length d.oc] 49))=W at *
 go_loopw [3,4] (fun v i wr=>∃ (k:Nat) (s:Int) (va:Option Addr) (vc:Nat),k+2≤d.ss.length∧s=((k+2:Nat):Int)∧i=.int .i64 s∧v=.slice va (frL d k).length vc∧OVI wr (w.heap.size+1) (.slice va (frL d k).length vc) (frL d k)∧Below (w.heap.size+1) W wr∧Dk10 wr w.heap.size d) (fun _ i _=>d.ss.length - (intOf i).toNat)
 case atStart=>exact ⟨0,2,none,0,hr.1,rfl,rfl,rfl,OVI.nil _ _,Below.refl _ _,HX.out.1⟩
 case round=>
  obtain ⟨k,s,va,vc,hk,hs,rfl,rfl,hov,hbel,hx⟩:=hrel
  have HSE:Hid (s=((k+2:Nat):Int)∧True):=⟨hs,trivial⟩
  have hs2:2≤s∧s≤1000:=by omega
  have HR:Hid (Below (w.heap.size+1) W wr∧Below w.heap.size w wr∧w.heap.size+1≤wr.heap.size∧Dk10 wr w.heap.size d):=⟨hbel,HX.out.2.1.trans (hbel.mono (by omega)),by rw [HX.out.2.2];exact hbel.size,hx⟩
  have HOV:Hid (OVI wr (w.heap.size+1) (.slice va (frL d k).length vc) (frL d k)):=hov
  obtain ⟨x0,x1,x2,x3,x4,x5,x6,x7,x8,x9,xl⟩:=hx
  have hll:=HLN.out k
  clear hbel hov hs
  by_cases hlt:s<(d.ss.length:Int)
  ·have H1:Calls Tryz.prog 81 #[.slice d.ca d.cs.length d.cc,.int .i64 s] wr (fun e w'=>e=.returned (.bool (d.cs.any (fun z=>z == s)))∧w'=wr):=(l9has_any d.ca d.cc d.cs s wr (HB.out.1.chn.below HR.out.2.1 (Nat.le_refl _)) hm).mono (fun e w' h=>⟨by
    rcases h.1 with ⟨h9,rfl⟩ | ⟨h9,rfl⟩
    ·rw [any_cs.2 h9]
    ·rw [show d.cs.any (fun z=>z == s)=false from by rw [←Bool.not_eq_true,any_cs];rintro ⟨i,hi,e⟩;exact h9 i hi e],h.2⟩)
   have HL2:Hid (∀ W,Pls W d.ma d.ms→Calls Tryz.prog 107 #[.agg #[.slice d.ma d.ms.length d.mc],.int .i64 s] W (fun e w'=>(∃ a n c,e=.returned (.slice a n c)∧(n=0↔d.ms.any (fun p=>p.1 == s)=false)∧n≤1000)∧Below W.heap.size W w')):=fun W h=>(l8live_any d.ma d.mc d.ms s W h HB.out.2.1 (by omega)).mono (fun e w' h=>by
    obtain ⟨⟨a,c,rfl,-⟩,hb⟩:=h
    exact ⟨⟨a,_,c,rfl,liv_nil hs2.1,by have h3:=liv_len d.ms d.ms.length s;have h4:=(mapB_len d.ms HB.out.2.1).2;omega⟩,hb⟩)
   have HL3:Hid (∀ W,Pls W d.va d.vs→Calls Tryz.prog 107 #[.agg #[.slice d.va d.vs.length d.vc],.int .i64 s] W (fun e w'=>(∃ a n c,e=.returned (.slice a n c)∧(n=0↔d.vs.any (fun p=>p.1 == s)=false)∧n≤1000)∧Below W.heap.size W w')):=fun W h=>(l8live_any d.va d.vc d.vs s W h HB.out.2.2 (by omega)).mono (fun e w' h=>by
    obtain ⟨⟨a,c,rfl,-⟩,hb⟩:=h
    exact ⟨⟨a,_,c,rfl,liv_nil hs2.1,by have h3:=liv_len d.vs d.vs.length s;have h4:=(mapB_len d.vs HB.out.2.2).2;omega⟩,hb⟩)
   have HFL:Hid (frL d (k+1)=if !(d.cs.any (fun z=>z == s)) && (!(d.ms.any (fun p=>p.1 == s)) && !(d.vs.any (fun p=>p.1 == s))) then frL d k++[s] else frL d k):=by rw [HSE.out.1];rfl
   generalize d.cs.any (fun z=>z == s)=b1 at *
   generalize d.ms.any (fun p=>p.1 == s)=b2 at *
   generalize d.vs.any (fun p=>p.1 == s)=b3 at *
   have HNEXT:Hid (frL d (k+1)=frL d k→∀ W',Below wr.heap.size wr W'→∃ (k':Nat) (s':Int) (va':Option Addr) (vc':Nat),k'+2≤d.ss.length∧s'=((k'+2:Nat):Int)∧Value.int .i64 (s+1)=.int .i64 s'∧Value.slice va (frL d k).length vc=.slice va' (frL d k').length vc'∧OVI W' (w.heap.size+1) (.slice va' (frL d k').length vc') (frL d k')∧Below (w.heap.size+1) W W'∧Dk10 W' w.heap.size d):=fun he W' hb=>by
    have hs:=HSE.out.1
    refine ⟨k+1,s+1,va,vc,by omega,by omega,rfl,by rw [he],by rw [he];exact HOV.out.below hb,HR.out.1.trans (hb.mono HR.out.2.2.1),HR.out.2.2.2.step hb⟩
   go_wp2_with fail
   refine H1.mono ?_
   clear H1
   rintro e w1 ⟨rfl,rfl⟩
   cases b1 with
   | true=>
    have HN:=HNEXT.out (by rw [HFL.out];rfl) _ (Below.refl _ _)
    have HN':Hid _:=HN
    clear HN HNEXT HFL HL2 HL3
    go_wp2
    go_roundw
    case rel=>exact HN'.out
    case measure=>simp [intOf];omega
   | false=>
    have H2:=HL2.out _ (HB.out.1.map.below HR.out.2.1 (Nat.le_refl _))
    go_wp2_with fail
    refine H2.mono ?_
    clear H2 HL2
    rintro e w2 ⟨⟨a2,n2,c2,rfl,hn2,hl2⟩,hb2⟩
    cases b2 with
    | true=>
     have hn:¬n2=0:=fun h=>by have:=hn2.1 h;cases this
     have hne:((n2:Int) == 0)=false:=by rw [beq_eq_false_iff_ne];omega
     have HN':Hid _:=HNEXT.out (by rw [HFL.out];rfl) _ hb2
     clear HNEXT HFL HL3 hn2 hb2
     go_wp2
     go_roundw
     case rel=>exact HN'.out
     case measure=>simp [intOf];omega
    | false=>
     obtain rfl:n2=0:=hn2.2 rfl
     obtain ⟨x0,x1,x2,x3,x4,x5,x6,x7,x8,x9,xl⟩:=HR.out.2.2.2.step hb2
     have H3:=HL3.out w2 ((HB.out.1.sav.below HR.out.2.1 (Nat.le_refl _)).below hb2 (Nat.le_refl _))
     have HB2:Hid _:=hb2
     clear hn2 hb2 HL3
     go_wp2_with fail
     refine H3.mono ?_
     clear H3
     rintro e w3 ⟨⟨a3,n3,c3,rfl,hn3,hl3⟩,hb3⟩
     have HB3:Hid _:=HB2.out.trans (hb3.mono HB2.out.size)
     cases b3 with
     | true=>
      have hn:¬n3=0:=fun h=>by have:=hn3.1 h;cases this
      have hne:((n3:Int) == 0)=false:=by rw [beq_eq_false_iff_ne];omega
      have HN':Hid _:=HNEXT.out (by rw [HFL.out];rfl) _ HB3.out
      clear HNEXT HFL hn3 hb3
      go_wp2
      go_roundw
      case rel=>exact HN'.out
      case measure=>simp [intOf];omega
     | false=>
      obtain rfl:n3=0:=hn3.2 rfl
      have HE:Hid (frL d (k+1)=frL d k++[s]∧True):=⟨by rw [HFL.out];rfl,trivial⟩
      have HOV3:Hid (OVI w3 (w.heap.size+1) (.slice va (frL d k).length vc) (frL d k)):=HOV.out.below HB3.out
      have HR3:Hid (Below (w.heap.size+1) W w3∧w.heap.size+1≤w3.heap.size∧Dk10 w3 w.heap.size d):=⟨HR.out.1.trans (HB3.out.mono HR.out.2.2.1),by have:=HB3.out.size;have:=HR.out.2.2.1;omega,HR.out.2.2.2.step HB3.out⟩
      clear HNEXT HFL hn3 hb3 HOV
      generalize frL d k=ls at *
      go_wp2_with (at_builtin;refine wpList_append_own_at _ rfl _ _ 29 rfl (w.heap.size+1) 3 i0 (.int .i64 0) 1 8 Tryz.underlying29 hi hz0 hz1 hz2 rfl (by decide) _ ls.length (ls.map (Value.int .i64)) rfl (HOV3.out.1.alloc _) ⟨w3.heap.size,0,none⟩ 1 1 [.int .i64 s] rfl rfl (cell_one_new _ _ _) (ints_oneCell .i64 [s]) (by unfold maxLen;omega) (by omega) (by have:=HR3.out.2.1;simp;omega) ?_;intro v1 w4 hown1 hgrow1 hnil1 hloc1)
      have hov1:OVI w4 (w.heap.size+1) v1 (ls++[s]):=⟨by rw [List.length_append,List.map_append];exact hown1,fun z hz=>by
       rcases List.mem_append.1 hz with hz | hz
       ·exact HOV3.out.2 z hz
       ·simp at hz;omega⟩
      have hb1':Below (w.heap.size+1) W w4:=app_below HR3.out.1 HR3.out.2.1 HOV3.out hgrow1
      have hb34:Below (w.heap.size+1) w3 w4:=app_below (Below.refl _ _) HR3.out.2.1 HOV3.out hgrow1
      obtain ⟨va1,vc1,hv1⟩:=hov1.form
      rw [←HE.out.1] at hov1 hv1
      subst hv1
      have HN1:Hid (OVI w4 (w.heap.size+1) (.slice va1 (frL d (k+1)).length vc1) (frL d (k+1))∧Below (w.heap.size+1) W w4∧Dk10 w4 w.heap.size d):=⟨hov1,hb1',HR3.out.2.2.keep hb34 (by omega)⟩
      clear hown1 hgrow1 hnil1 hloc1 hov1 hb1' hb34 HOV3
      go_roundw
      case rel=>exact ⟨k+1,s+1,va1,vc1,by have:=HSE.out.1;omega,by have:=HSE.out.1;omega,by go_num,rfl,HN1.out.1,HN1.out.2.1,HN1.out.2.2⟩
      case measure=>simp [intOf];omega
  ·have hkn:k=d.ss.length - 2:=by have:=HSE.out.1;omega
   subst hkn
   obtain ⟨a2,c2,e2,hm2⟩:=HOV.out.mine
   obtain ⟨rfl,-,rfl⟩:va=a2∧(frL d (d.ss.length - 2)).length=(frL d (d.ss.length - 2)).length∧vc=c2:=by simpa using e2
   have HF:Hid (MinI wr w.heap.size wr.heap.size va vc (frL d (d.ss.length - 2))):=hm2.mono (by omega) (Nat.le_refl _)
   clear hm2 e2
   go_wp2
   go_ret
   exact ⟨⟨_,_,rfl,HF.out⟩,HR.out.2.1⟩
end Go.Proofs.YtaibkchbkedjnaaGreatDoor
