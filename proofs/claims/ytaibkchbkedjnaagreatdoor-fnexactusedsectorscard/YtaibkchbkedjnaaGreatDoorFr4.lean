/-
  Free sectors of the program: flags of all that are taken. (Typed by hand.)
-/
import Derived.Test.YtaibkchbkedjnaaGreatDoorFr1
import Derived.Test.YtaibkchbkedjnaaGreatDoorFr3
import Derived.Test.YtaibkchbkedjnaaGreatDoorDkI2
namespace Go.Proofs.YtaibkchbkedjnaaGreatDoor
open Go.RowKit
set_option linter.unusedVariables false
set_option linter.unusedSimpArgs false

def ThF (W:World) (X:Nat) (P:Nat→Prop):Prop:=X<W.heap.size∧∀ i:Nat,i<24→W.frozen? ⟨X,i,none⟩=false∧∃ t,W.cell? ⟨X,i,none⟩=some (.bool t)∧(t=true↔P i)
theorem ThF.keep {W W':World} {X B:Nat} {P:Nat→Prop} (h:ThF W X P) (hb:Below B W W') (hX:X<B):ThF W' X P:=
 ⟨Nat.lt_of_lt_of_le h.1 hb.size,fun i hi=>⟨(hb.frozen (p:=⟨X,i,none⟩) hX).trans (h.2 i hi).1,by
  obtain ⟨t,h1,h2⟩:=(h.2 i hi).2
  exact ⟨t,Go.Proofs.YtaibkchbkedjnaaGreatDoor.keep hb hX h1,h2⟩⟩⟩
theorem ThF.imp {W:World} {X:Nat} {P Q:Nat→Prop} (h:ThF W X P) (hq:∀ i,i<24→(P i↔Q i)):ThF W X Q:=
 ⟨h.1,fun i hi=>⟨(h.2 i hi).1,by
  obtain ⟨t,h1,h2⟩:=(h.2 i hi).2
  exact ⟨t,h1,h2.trans (hq i hi)⟩⟩⟩
theorem ThF.put {W:World} {X q:Nat} {P:Nat→Prop} (h:ThF W X P) (hq24:q<24):ThF (W.setCell ⟨X,q,none⟩ (.bool true)) X (fun i=>P i∨i=q):=by
 refine ⟨by simpa using h.1,fun i hi=>⟨by have:=(h.2 i hi).1;simpa using this,?_⟩⟩
 obtain ⟨t,h1,h2⟩:=(h.2 i hi).2
 by_cases e:i=q
 ·subst e
  exact ⟨true,World.cell?_setCell_same W _ _ h1,by simp⟩
 ·exact ⟨t,(World.cell?_setCell_other W _ _ _ (by simp <;> omega)).trans h1,h2.trans ⟨.inl,fun h=>h.elim id (fun h=>absurd h e)⟩⟩
theorem ThF.new (W:World) (T:TypeId):ThF (W.alloc (Obj.cells #[Value.bool false,Value.bool false,Value.bool false,Value.bool false,Value.bool false,Value.bool false,Value.bool false,Value.bool false,Value.bool false,Value.bool false,Value.bool false,Value.bool false,Value.bool false,Value.bool false,Value.bool false,Value.bool false,Value.bool false,Value.bool false,Value.bool false,Value.bool false,Value.bool false,Value.bool false,Value.bool false,Value.bool false] T)) W.heap.size (fun _=>False):=by
 refine ⟨by simp,fun i hi=>⟨by simp,false,?_,by simp⟩⟩
 have h:i=0∨i=1∨i=2∨i=3∨i=4∨i=5∨i=6∨i=7∨i=8∨i=9∨i=10∨i=11∨i=12∨i=13∨i=14∨i=15∨i=16∨i=17∨i=18∨i=19∨i=20∨i=21∨i=22∨i=23:=by omega
 rcases h with rfl | rfl | rfl | rfl | rfl | rfl | rfl | rfl | rfl | rfl | rfl | rfl | rfl | rfl | rfl | rfl | rfl | rfl | rfl | rfl | rfl | rfl | rfl | rfl <;> simp
def tkC (cs:List Int) (k i:Nat):Prop:=∃ j,j<k∧cs.getD j 0=(i:Int)
def tkP (cs:List Int) (ps:List (Int × Int)) (k i:Nat):Prop:=tkC cs cs.length i∨∃ j,j<k∧(ps.getD j dp).1=(i:Int)
theorem tkC_zero (cs:List Int) (i:Nat):False↔tkC cs 0 i:=⟨False.elim,fun ⟨j,hj,_⟩=>by omega⟩
theorem tkC_succ {cs:List Int} {k q:Nat} (hq:cs.getD k 0=(q:Int)) (i:Nat):(tkC cs k i∨i=q)↔tkC cs (k+1) i:=by
 unfold tkC
 constructor
 ·rintro (⟨j,h1,h2⟩ | rfl)
  ·exact ⟨j,by omega,h2⟩
  ·exact ⟨k,by omega,hq⟩
 ·rintro ⟨j,h1,h2⟩
  by_cases e:j=k
  ·subst e
   rw [hq] at h2
   exact .inr (by omega)
  ·exact .inl ⟨j,by omega,h2⟩
theorem tkP_zero (cs:List Int) (ps:List (Int × Int)) (i:Nat):tkC cs cs.length i↔tkP cs ps 0 i:=⟨.inl,fun h=>h.elim id (fun ⟨j,hj,_⟩=>by omega)⟩
theorem tkP_succ {cs:List Int} {ps:List (Int × Int)} {k q:Nat} (hq:(ps.getD k dp).1=(q:Int)) (i:Nat):(tkP cs ps k i∨i=q)↔tkP cs ps (k+1) i:=by
 unfold tkP
 constructor
 ·rintro ((h | ⟨j,h1,h2⟩) | rfl)
  ·exact .inl h
  ·exact .inr ⟨j,by omega,h2⟩
  ·exact .inr ⟨k,by omega,hq⟩
 ·rintro (h | ⟨j,h1,h2⟩)
  ·exact .inl (.inl h)
  ·by_cases e:j=k
   ·subst e
    rw [hq] at h2
    exact .inr (by omega)
   ·exact .inl (.inr ⟨j,by omega,h2⟩)
theorem getD_app {ps qs:List (Int × Int)} {j:Nat}:(ps++qs).getD j dp=if j<ps.length then ps.getD j dp else qs.getD (j - ps.length) dp:=by
 simp only [List.getD_eq_getElem?_getD]
 split
 ·rw [List.getElem?_append_left (by assumption)]
 ·rw [List.getElem?_append_right (by omega)]
theorem frB_tk (d:DkV) (i:Nat) {t:Bool} (h:t=true↔tkP d.cs (d.ms++d.vs) (d.ms++d.vs).length i):frB d (i:Int)=!t:=by
 have h1:t=(d.cs.any (fun z=>z == (i:Int)) || (d.ms.any (fun p=>p.1 == (i:Int)) || d.vs.any (fun p=>p.1 == (i:Int)))):=by
  rw [Bool.eq_iff_iff,h]
  simp only [Bool.or_eq_true,any_cs,any_ms]
  unfold tkP tkC
  constructor
  ·rintro (h | ⟨j,h1,h2⟩)
   ·exact .inl h
   ·rw [getD_app] at h2
    rw [List.length_append] at h1
    split at h2
    ·exact .inr (.inl ⟨j,by assumption,h2⟩)
    ·exact .inr (.inr ⟨j - d.ms.length,by omega,h2⟩)
  ·rintro (h | ⟨j,h1,h2⟩ | ⟨j,h1,h2⟩)
   ·exact .inl h
   ·exact .inr ⟨j,by rw [List.length_append];omega,by rw [getD_app,if_pos h1];exact h2⟩
   ·exact .inr ⟨d.ms.length+j,by rw [List.length_append];omega,by rw [getD_app,if_neg (by omega),Nat.add_sub_cancel_left];exact h2⟩
 rw [h1]
 unfold frB
 cases d.cs.any (fun z=>z == (i:Int)) <;> cases d.ms.any (fun p=>p.1 == (i:Int)) <;> cases d.vs.any (fun p=>p.1 == (i:Int)) <;> rfl
theorem plc_rng {ps:List (Int × Int)} (h:mapB ps=true) (i:Nat) (hi:i<ps.length):0≤(ps.getD i dp).1∧(ps.getD i dp).1<24:=by
 rcases okT_get ps _ i (mapB_okT ps h) hi with h1 | h1
 ·unfold nwh at h1
  simp only [Bool.and_eq_true,beq_iff_eq] at h1
  omega
 ·unfold rgt at h1
  have h2:=of_decide_eq_true h1
  omega

set_option maxRecDepth 20000 in
set_option maxHeartbeats 8000000 in
theorem free_any (d:DkV) (w:World) (hb:DkI w d) (hr:2≤d.ss.length∧d.ss.length≤24) (h1:mapB d.ms=true) (h2:mapB d.vs=true) (hch:chK d.cs d.ss.length d.cs.length) (hm:d.cs.length≤1048576) :
  Calls Tryz.prog 71 #[.agg #[Value.slice d.sa d.ss.length d.sc,Value.slice d.pa d.ps.length d.pc,Value.int IntKind.i64 d.E,Value.int IntKind.i64 d.O,Value.slice d.ma d.ms.length d.mc,Value.slice d.va d.vs.length d.vc,Value.slice d.ca d.cs.length d.cc,Value.int IntKind.i64 d.F,Value.int IntKind.i64 d.G,Value.slice d.oa d.os.length d.oc]] w fun e w'=>(∃ a c,e=.returned (.slice a (frL d (d.ss.length - 2)).length c)∧MinI w' w.heap.size w'.heap.size a c (frL d (d.ss.length - 2)))∧Below w.heap.size w w':=by
 obtain ⟨i0,hi,hz0,hz1,hz2⟩:=info_parts Tryz.infoI64
 have HB:Hid (DkI w d∧mapB d.ms=true∧mapB d.vs=true∧chK d.cs d.ss.length d.cs.length):=⟨hb,h1,h2,hch⟩
 have HLN:Hid (∀ k,(frL d k).length≤k):=frL_len d
 clear hb h1 h2 hch
 have hw:Below w.heap.size w (w.alloc (Obj.cells #[Value.slice d.sa d.ss.length d.sc,Value.slice d.pa d.ps.length d.pc,Value.int IntKind.i64 d.E,Value.int IntKind.i64 d.O,Value.slice d.ma d.ms.length d.mc,Value.slice d.va d.vs.length d.vc,Value.slice d.ca d.cs.length d.cc,Value.int IntKind.i64 d.F,Value.int IntKind.i64 d.G,Value.slice d.oa d.os.length d.oc] 49)):=(Below.refl _ _).alloc (Nat.le_refl _) _
 have hx:=(Dk10.new w d 49).alloc (Obj.cells #[Value.bool false,Value.bool false,Value.bool false,Value.bool false,Value.bool false,Value.bool false,Value.bool false,Value.bool false,Value.bool false,Value.bool false,Value.bool false,Value.bool false,Value.bool false,Value.bool false,Value.bool false,Value.bool false,Value.bool false,Value.bool false,Value.bool false,Value.bool false,Value.bool false,Value.bool false,Value.bool false,Value.bool false] 146)
 have hT0:=ThF.new (w.alloc (Obj.cells #[Value.slice d.sa d.ss.length d.sc,Value.slice d.pa d.ps.length d.pc,Value.int IntKind.i64 d.E,Value.int IntKind.i64 d.O,Value.slice d.ma d.ms.length d.mc,Value.slice d.va d.vs.length d.vc,Value.slice d.ca d.cs.length d.cc,Value.int IntKind.i64 d.F,Value.int IntKind.i64 d.G,Value.slice d.oa d.os.length d.oc] 49)) 146
 have HW:Hid (Below w.heap.size w ((w.alloc (Obj.cells #[Value.slice d.sa d.ss.length d.sc,Value.slice d.pa d.ps.length d.pc,Value.int IntKind.i64 d.E,Value.int IntKind.i64 d.O,Value.slice d.ma d.ms.length d.mc,Value.slice d.va d.vs.length d.vc,Value.slice d.ca d.cs.length d.cc,Value.int IntKind.i64 d.F,Value.int IntKind.i64 d.G,Value.slice d.oa d.os.length d.oc] 49)).alloc (Obj.cells #[Value.bool false,Value.bool false,Value.bool false,Value.bool false,Value.bool false,Value.bool false,Value.bool false,Value.bool false,Value.bool false,Value.bool false,Value.bool false,Value.bool false,Value.bool false,Value.bool false,Value.bool false,Value.bool false,Value.bool false,Value.bool false,Value.bool false,Value.bool false,Value.bool false,Value.bool false,Value.bool false,Value.bool false] 146))∧w.heap.size+1<(((w.alloc (Obj.cells #[Value.slice d.sa d.ss.length d.sc,Value.slice d.pa d.ps.length d.pc,Value.int IntKind.i64 d.E,Value.int IntKind.i64 d.O,Value.slice d.ma d.ms.length d.mc,Value.slice d.va d.vs.length d.vc,Value.slice d.ca d.cs.length d.cc,Value.int IntKind.i64 d.F,Value.int IntKind.i64 d.G,Value.slice d.oa d.os.length d.oc] 49)).alloc (Obj.cells #[Value.bool false,Value.bool false,Value.bool false,Value.bool false,Value.bool false,Value.bool false,Value.bool false,Value.bool false,Value.bool false,Value.bool false,Value.bool false,Value.bool false,Value.bool false,Value.bool false,Value.bool false,Value.bool false,Value.bool false,Value.bool false,Value.bool false,Value.bool false,Value.bool false,Value.bool false,Value.bool false,Value.bool false] 146))).heap.size):=⟨hw.alloc (by simp) _,by simp⟩
 simp only [World.size_alloc] at hT0
 have HT0:Hid _:=(⟨hT0,hx⟩:_∧_)
 obtain ⟨x0,x1,x2,x3,x4,x5,x6,x7,x8,x9,xl⟩:=hx
 clear hT0 hw
 go_enter Tryz.func71,Tryz.ntmps71
 go_wp2
 generalize ((w.alloc (Obj.cells #[Value.slice d.sa d.ss.length d.sc,Value.slice d.pa d.ps.length d.pc,Value.int IntKind.i64 d.E,Value.int IntKind.i64 d.O,Value.slice d.ma d.ms.length d.mc,Value.slice d.va d.vs.length d.vc,Value.slice d.ca d.cs.length d.cc,Value.int IntKind.i64 d.F,Value.int IntKind.i64 d.G,Value.slice d.oa d.os.length d.oc] 49)).alloc (Obj.cells #[Value.bool false,Value.bool false,Value.bool false,Value.bool false,Value.bool false,Value.bool false,Value.bool false,Value.bool false,Value.bool false,Value.bool false,Value.bool false,Value.bool false,Value.bool false,Value.bool false,Value.bool false,Value.bool false,Value.bool false,Value.bool false,Value.bool false,Value.bool false,Value.bool false,Value.bool false,Value.bool false,Value.bool false] 146))=W0 at *
 go_loopw [13] (fun i wr=>∃ k:Nat,k≤d.cs.length∧i=.int .i64 k∧ThF wr (w.heap.size+1) (tkC d.cs k)∧Dk10 wr w.heap.size d∧Below w.heap.size w wr) (fun i _=>d.cs.length - (intOf i).toNat)
 case atStart=>exact ⟨0,Nat.zero_le _,rfl,HT0.out.1.imp (fun i _=>tkC_zero _ i),HT0.out.2,HW.out.1⟩
 case round=>
  clear HT0 HW x0 x1 x2 x3 x4 x5 x6 x7 x8 x9 xl
  obtain ⟨k,hk,rfl,hth,hx,hbel⟩:=hrel
  have HAP:Hid (ThF wr (w.heap.size+1) (tkC d.cs k)∧Dk10 wr w.heap.size d∧Below w.heap.size w wr):=⟨hth,hx,hbel⟩
  obtain ⟨x0,x1,x2,x3,x4,x5,x6,x7,x8,x9,xl⟩:=hx
  clear hth
  by_cases hlt:k<d.cs.length
  ·obtain ⟨b,off,hca,hbl,hc⟩:=(HB.out.1.chn.below hbel (Nat.le_refl _)).2 (by omega)
   have c0:=hc k hlt
   have hyr:=(HB.out.2.2.2 k hlt).1
   obtain ⟨y,hy⟩:∃ y,d.cs.getD k 0=y:=⟨_,rfl⟩
   rw [hy] at c0 hyr
   obtain ⟨q,rfl⟩:=Int.eq_ofNat_of_zero_le (show 0≤y by omega)
   have HYE:Hid (d.cs.getD k 0=(q:Int)∧True):=⟨hy,trivial⟩
   have hq24:q<24:=by omega
   have hqi:(0:Int)≤(q:Int)∧(q:Int)<24:=by omega
   rw [hca] at x6 ⊢
   obtain ⟨hfz,t,hct,-⟩:=HAP.out.1.2 q hq24
   have hon:Only (fun x=>x=w.heap.size+1) wr (wr.setCell ⟨w.heap.size+1,q,none⟩ (.bool true)):=(Only.refl (fun x=>x=w.heap.size+1) wr).setCell (p:=⟨w.heap.size+1,q,none⟩) (.inl rfl) _
   have HN:Hid (ThF (wr.setCell ⟨w.heap.size+1,q,none⟩ (.bool true)) (w.heap.size+1) (tkC d.cs (k+1))∧Dk10 (wr.setCell ⟨w.heap.size+1,q,none⟩ (.bool true)) w.heap.size d∧Below w.heap.size w (wr.setCell ⟨w.heap.size+1,q,none⟩ (.bool true))):=
    ⟨(HAP.out.1.put hq24).imp (fun i _=>tkC_succ HYE.out.1 i),HAP.out.2.1.keep (hon.below (B:=w.heap.size+1) (by have:=HAP.out.1.1;omega) (fun k hk=>by omega)) (by omega),HAP.out.2.2.setCell (by simp) _⟩
   clear hc hy hon hbel hyr
   go_wp2
   go_roundw
   case rel=>exact ⟨k+1,by omega,by go_num,HN.out.1,HN.out.2.1,HN.out.2.2⟩
   case measure=>simp [intOf];omega
  ·have hkn:k=d.cs.length:=by omega
   subst hkn
   have hl1:=mapB_len d.ms HB.out.2.1
   have hl2:=mapB_len d.vs HB.out.2.2.1
   obtain ⟨ba,oa',hma,hmb,-⟩:=(HB.out.1.map.below hbel (Nat.le_refl _)).2 (by omega)
   obtain ⟨bv,ov',hva,hvb,-⟩:=(HB.out.1.sav.below hbel (Nat.le_refl _)).2 (by omega)
   have hba:Below wr.heap.size wr (wr.alloc (Obj.cells #[Value.slice d.ma d.ms.length d.mc,Value.slice d.va d.vs.length d.vc] 42)):=(Below.refl _ _).alloc (Nat.le_refl _) _
   have HCC:=concatPl_any wr.heap.size ⟨ba,oa',none⟩ ⟨bv,ov',none⟩ d.mc d.vc d.ms d.vs (wr.alloc (Obj.cells #[Value.slice d.ma d.ms.length d.mc,Value.slice d.va d.vs.length d.vc] 42)) (by simp) (by rw [←hma];simp) (by rw [←hva];simp) (by rw [←hma];exact (HB.out.1.map.below hbel (Nat.le_refl _)).below hba (Nat.le_refl _)) (by rw [←hva];exact (HB.out.1.sav.below hbel (Nat.le_refl _)).below hba (Nat.le_refl _)) (by omega) (by omega)
   have HAP1:Hid (ThF (wr.alloc (Obj.cells #[Value.slice d.ma d.ms.length d.mc,Value.slice d.va d.vs.length d.vc] 42)) (w.heap.size+1) (tkC d.cs d.cs.length)∧Dk10 (wr.alloc (Obj.cells #[Value.slice d.ma d.ms.length d.mc,Value.slice d.va d.vs.length d.vc] 42)) w.heap.size d∧Below w.heap.size w (wr.alloc (Obj.cells #[Value.slice d.ma d.ms.length d.mc,Value.slice d.va d.vs.length d.vc] 42))):=⟨HAP.out.1.keep hba HAP.out.1.1,HAP.out.2.1.step hba,HAP.out.2.2.trans (hba.mono HAP.out.2.2.size)⟩
   clear hma hva hmb hvb hba hbel hlt HAP
   go_wp2_with fail
   generalize (wr.alloc (Obj.cells #[Value.slice d.ma d.ms.length d.mc,Value.slice d.va d.vs.length d.vc] 42))=W1 at *
   refine HCC.mono ?_
   clear HCC
   rintro e w1 ⟨⟨qa,qc,rfl,hov⟩,hb1⟩
   have HC1:Hid (OVp w1 W1.heap.size (.slice qa (d.ms++d.vs).length qc) (d.ms++d.vs)∧ThF w1 (w.heap.size+1) (tkP d.cs (d.ms++d.vs) 0)∧Dk10 w1 w.heap.size d∧Below w.heap.size w w1):=⟨hov,(HAP1.out.1.keep hb1 HAP1.out.1.1).imp (fun i _=>tkP_zero _ _ i),HAP1.out.2.1.step hb1,HAP1.out.2.2.trans (hb1.mono HAP1.out.2.2.size)⟩
   have hY:w.heap.size+1<W1.heap.size:=HAP1.out.1.1
   have HRG:Hid (∀ j,j<(d.ms++d.vs).length→0≤((d.ms++d.vs).getD j dp).1∧((d.ms++d.vs).getD j dp).1<24):=fun j hj=>by
    rw [getD_app]
    rw [List.length_append] at hj
    split
    ·exact plc_rng HB.out.2.1 j (by assumption)
    ·exact plc_rng HB.out.2.2.1 _ (by omega)
   have HFT:Hid (∀ (i:Nat) (t:Bool),(t=true↔tkP d.cs (d.ms++d.vs) (d.ms++d.vs).length i)→frB d (i:Int)=!t):=fun i t h=>frB_tk d i h
   have hLb:(d.ms++d.vs).length≤1000:=by rw [List.length_append];omega
   clear hov hb1 HAP1 x0 x1 x2 x3 x4 x5 x6 x7 x8 x9 xl
   generalize d.ms++d.vs=PQ at *
   generalize W1.heap.size=Y at *
   have HPL:Hid (PQ.length=PQ.length∧True):=⟨rfl,trivial⟩
   generalize hLL:PQ.length=L at *
   have HL:Hid (PQ.length=L∧True):=⟨hLL,trivial⟩
   clear hLL HPL
   go_wp2
   go_loopw [29] (fun i W=>∃ k:Nat,k≤L∧i=.int .i64 k∧ThF W (w.heap.size+1) (tkP d.cs PQ k)∧OVp W Y (.slice qa L qc) PQ∧Dk10 W w.heap.size d∧Below w.heap.size w W) (fun i _=>L - (intOf i).toNat)
   case atStart=>exact ⟨0,Nat.zero_le _,rfl,HC1.out.2.1,HC1.out.1,HC1.out.2.2.1,HC1.out.2.2.2⟩
   case round=>
    clear HC1
    obtain ⟨k,hk,rfl,hth,hov,hx,hbel⟩:=hrel
    have HAP:Hid (ThF wr (w.heap.size+1) (tkP d.cs PQ k)∧OVp wr Y (.slice qa L qc) PQ∧Dk10 wr w.heap.size d∧Below w.heap.size w wr):=⟨hth,hov,hx,hbel⟩
    obtain ⟨x0,x1,x2,x3,x4,x5,x6,x7,x8,x9,xl⟩:=hx
    clear hth hbel
    by_cases hlt:k<L
    ·obtain ⟨b,off,rfl,hbl,hc⟩:=hov.pls.len_pos k (by rw [HL.out.1];exact hlt)
     obtain ⟨c0,c1⟩:=hc k (by rw [HL.out.1];exact hlt)
     have hyr:=HRG.out k hlt
     obtain ⟨y,hy⟩:∃ y,(PQ.getD k dp).1=y:=⟨_,rfl⟩
     rw [hy] at c0 hyr
     generalize (PQ.getD k dp).2=z at *
     obtain ⟨q,rfl⟩:=Int.eq_ofNat_of_zero_le (show 0≤y by omega)
     have HYE:Hid ((PQ.getD k dp).1=(q:Int)∧True):=⟨hy,trivial⟩
     have hq24:q<24:=by omega
     have hqi:(0:Int)≤(q:Int)∧(q:Int)<24:=by omega
     obtain ⟨hfz,t,hct,-⟩:=HAP.out.1.2 q hq24
     have hX:w.heap.size+1<wr.heap.size:=HAP.out.1.1
     have HN:Hid (∀ T u,∃ k':Nat,k'≤L∧Value.int .i64 ((k:Int)+1)=.int .i64 k'∧ThF ((wr.setCell ⟨w.heap.size+1,q,none⟩ (.bool true)).alloc (Obj.cells u T)) (w.heap.size+1) (tkP d.cs PQ k')∧OVp ((wr.setCell ⟨w.heap.size+1,q,none⟩ (.bool true)).alloc (Obj.cells u T)) Y (.slice (some ⟨b,off,none⟩) L qc) PQ∧Dk10 ((wr.setCell ⟨w.heap.size+1,q,none⟩ (.bool true)).alloc (Obj.cells u T)) w.heap.size d∧Below w.heap.size w ((wr.setCell ⟨w.heap.size+1,q,none⟩ (.bool true)).alloc (Obj.cells u T))):=fun T u=>by
      have hon:Only (fun x=>x=w.heap.size+1) wr (wr.setCell ⟨w.heap.size+1,q,none⟩ (.bool true)):=(Only.refl (fun x=>x=w.heap.size+1) wr).setCell (p:=⟨w.heap.size+1,q,none⟩) (.inl rfl) _
      have hba:Below (wr.setCell ⟨w.heap.size+1,q,none⟩ (.bool true)).heap.size (wr.setCell ⟨w.heap.size+1,q,none⟩ (.bool true)) ((wr.setCell ⟨w.heap.size+1,q,none⟩ (.bool true)).alloc (Obj.cells u T)):=(Below.refl _ _).alloc (Nat.le_refl _) _
      have h1:=(HAP.out.1.put hq24).imp (fun i _=>tkP_succ HYE.out.1 i)
      have h3:=HAP.out.2.2.1.keep (hon.below (B:=w.heap.size+1) (by omega) (fun k hk=>by omega)) (by omega)
      have h4:=HAP.out.2.2.2.setCell (p:=⟨w.heap.size+1,q,none⟩) (by simp) (.bool true)
      exact ⟨k+1,by omega,by simp,h1.keep hba h1.1,(HAP.out.2.1.stay hon (fun j hj e=>by have:=(HAP.out.2.1.blk hj).1;omega)).below hba,h3.step hba,h4.trans (hba.mono h4.size)⟩
     clear hc hy hov hyr
     go_wp2
     go_roundw
     case rel=>exact HN.out _ _
     case measure=>simp [intOf];omega
    ·have hkn:k=L:=by omega
     subst hkn
     have HBL0:Hid (∀ B,Below B wr wr):=fun B=>Below.refl _ _
     have hX:w.heap.size+1<wr.heap.size:=HAP.out.1.1
     have HTH:Hid (ThF wr (w.heap.size+1) (tkP d.cs PQ k)∧Dk10 wr w.heap.size d∧Below w.heap.size w wr):=⟨HAP.out.1,HAP.out.2.2⟩
     clear HAP hov HRG
     generalize hWE:wr=W2 at *
     clear hWE
     go_wp2
     go_loopw [8,9] (fun v i W=>∃ (k q:Nat) (va:Option Addr) (vc:Nat),k+2≤d.ss.length∧q=k+2∧i=.int .i64 (q:Int)∧v=.slice va (frL d k).length vc∧OVI W W2.heap.size (.slice va (frL d k).length vc) (frL d k)∧Below W2.heap.size W2 W) (fun _ i _=>d.ss.length - (intOf i).toNat)
     case atStart=>exact ⟨0,2,none,0,hr.1,rfl,rfl,rfl,OVI.nil _ _,Below.refl _ _⟩
     case round=>
      clear x0 x1 x2 x3 x4 x5 x6 x7 x8 x9 xl
      obtain ⟨m,q,va,vc,hmk,hqm,rfl,rfl,hov,hbel⟩:=hrel
      have HR:Hid (Below W2.heap.size W2 wr∧ThF wr (w.heap.size+1) (tkP d.cs PQ k)∧Dk10 wr w.heap.size d∧Below w.heap.size w wr):=⟨hbel,HTH.out.1.keep hbel hX,HTH.out.2.1.step hbel,HTH.out.2.2.trans (hbel.mono HTH.out.2.2.size)⟩
      have HOV:Hid (OVI wr W2.heap.size (.slice va (frL d m).length vc) (frL d m)):=hov
      have HQ:Hid (q=m+2∧True):=⟨hqm,trivial⟩
      have hll:=HLN.out m
      have hq24:q≤24:=by omega
      obtain ⟨x0,x1,x2,x3,x4,x5,x6,x7,x8,x9,xl⟩:=HR.out.2.2.1
      have hszW:=hbel.size
      clear hov hbel
      by_cases hlt:(q:Int)<(d.ss.length:Int)
      ·have hq24':q<24:=by omega
       have hqi:(0:Int)≤(q:Int)∧(q:Int)<24:=by omega
       obtain ⟨hfz,t,hct,hti⟩:=HR.out.2.1.2 q hq24'
       have hfr:=HFT.out q t hti
       have HFL:Hid (frL d (m+1)=if (!t)=true then frL d m++[(q:Int)] else frL d m):=by
        have e:frL d (m+1)=if frB d ((m+2:Nat):Int) then frL d m++[((m+2:Nat):Int)] else frL d m:=rfl
        rw [←HQ.out.1,hfr] at e
        exact e
       clear hfr hti hqm
       cases t with
       | true=>
        have HN:Hid (∃ (k' q':Nat) (va':Option Addr) (vc':Nat),k'+2≤d.ss.length∧q'=k'+2∧Value.int .i64 ((q:Int)+1)=.int .i64 (q':Int)∧Value.slice va (frL d m).length vc=.slice va' (frL d k').length vc'∧OVI wr W2.heap.size (.slice va' (frL d k').length vc') (frL d k')∧Below W2.heap.size W2 wr):=by
         have e:frL d (m+1)=frL d m:=HFL.out
         have:=HQ.out.1
         exact ⟨m+1,q+1,va,vc,by omega,by omega,by simp,by rw [e],by rw [e];exact HOV.out,HR.out.1⟩
        clear HFL HOV
        go_wp2
        go_roundw
        case rel=>exact HN.out
        case measure=>simp [intOf];omega
       | false=>
        have HE:Hid (frL d (m+1)=frL d m++[(q:Int)]∧True):=⟨HFL.out,trivial⟩
        clear HFL
        generalize frL d m=ls at *
        go_wp2_with (at_builtin;refine wpList_append_own_at _ rfl _ _ 29 rfl W2.heap.size 3 i0 (.int .i64 0) 1 8 Tryz.underlying29 hi hz0 hz1 hz2 rfl (by decide) _ ls.length (ls.map (Value.int .i64)) rfl (HOV.out.1.alloc _) ⟨wr.heap.size,0,none⟩ 1 1 [.int .i64 (q:Int)] rfl rfl (cell_one_new _ _ _) (ints_oneCell .i64 [(q:Int)]) (by unfold maxLen;omega) (by omega) (by have:=hszW;simp;omega) ?_;intro v1 w4 hown1 hgrow1 hnil1 hloc1)
        have hov1:OVI w4 W2.heap.size v1 (ls++[(q:Int)]):=⟨by rw [List.length_append,List.map_append];exact hown1,fun z hz=>by
         rcases List.mem_append.1 hz with hz | hz
         ·exact HOV.out.2 z hz
         ·simp at hz;omega⟩
        have hb1':Below W2.heap.size W2 w4:=app_below HR.out.1 hszW HOV.out hgrow1
        obtain ⟨va1,vc1,hv1⟩:=hov1.form
        rw [←HE.out.1] at hov1 hv1
        subst hv1
        have HN1:Hid (OVI w4 W2.heap.size (.slice va1 (frL d (m+1)).length vc1) (frL d (m+1))∧Below W2.heap.size W2 w4):=⟨hov1,hb1'⟩
        clear hown1 hgrow1 hnil1 hloc1 hov1 hb1' HOV
        go_roundw
        case rel=>exact ⟨m+1,q+1,va1,vc1,by have:=HQ.out.1;omega,by have:=HQ.out.1;omega,by go_num,rfl,HN1.out.1,HN1.out.2⟩
        case measure=>simp [intOf];omega
      ·have hkn:m=d.ss.length - 2:=by have:=HQ.out.1;omega
       subst hkn
       obtain ⟨a2,c2,e2,hm2⟩:=HOV.out.mine
       obtain ⟨rfl,-,rfl⟩:va=a2∧(frL d (d.ss.length - 2)).length=(frL d (d.ss.length - 2)).length∧vc=c2:=by simpa using e2
       have HF:Hid (MinI wr w.heap.size wr.heap.size va vc (frL d (d.ss.length - 2))):=hm2.mono (by omega) (Nat.le_refl _)
       clear hm2 e2
       go_wp2
       go_ret
       exact ⟨⟨_,_,rfl,HF.out⟩,HR.out.2.2.2⟩
end Go.Proofs.YtaibkchbkedjnaaGreatDoor
