/- Lemmas on the way. -/
import Derived.Test.YtaibkchbkedjnaaGreatDoorPlP
import Derived.Test.YtaibkchbkedjnaaGreatDoorOpen1
import Derived.Test.YtaibkchbkedjnaaGreatDoorPut1
import Derived.Test.YtaibkchbkedjnaaGreatDoorIParts
import Derived.Deep.RegionHeld3
set_option maxRecDepth 20000
set_option maxHeartbeats 16000000
namespace Go.Proofs.YtaibkchbkedjnaaGreatDoor
open Go.RowKit
set_option linter.unusedVariables false
theorem toPlace_any (x y:Int) (w:World) :
  Calls Tryz.prog 124 #[.agg #[.int .i64 x,.int .i64 y]] w fun e w'=>e=.returned (.agg #[.int .i64 x,.int .i64 y])∧Below w.heap.size w w':=by
 go_enter Tryz.func124,Tryz.ntmps124
 go_wp2
 refine bodyPost_ret (v:=.agg #[.int .i64 x,.int .i64 y]) (by simp [results,Tryz.results124,go_sem]) rfl ⟨rfl,?_⟩
 repeat (refine Below.setCell ?_ (by first | (simp;done) | (simp;omega)) _)
 exact (((Below.refl _ _).alloc nl _).alloc (by simp) _).alloc (by simp;omega) _
def partP (ps:List (Int × Int)) (k:Nat):List (Int × Int):=ps.take k++List.replicate (ps.length-k) dp
theorem partP_len (ps:List (Int × Int)) (k:Nat) (h:k≤ps.length):(partP ps k).length=ps.length:=by simp [partP];omega
theorem partP_all (ps:List (Int × Int)):partP ps ps.length=ps:=by simp [partP]
theorem partP_zero (ps:List (Int × Int)):partP ps 0=List.replicate ps.length dp:=by simp [partP]
theorem partP_set (ps:List (Int × Int)) (k:Nat) (h:k<ps.length):(partP ps k).set k (ps.getD k dp)=partP ps (k+1):=by
 unfold partP
 rw [List.set_append_right _ _ (by simp;omega),List.length_take,Nat.min_eq_left (by omega),Nat.sub_self,show ps.length-k=(ps.length-(k+1))+1 from by omega,List.replicate_succ,List.set_cons_zero,List.take_succ_eq_append_getElem h,List.append_assoc]
 simp [List.getD_eq_getElem?_getD,List.getElem?_eq_getElem h]
theorem toPlaceS_any (a:Option Addr) (cap:Nat) (ps:List (Int × Int)) (w:World) (hb:Pls w a ps) (hn:ps.length≤1048576) :
  Calls Tryz.prog 85 #[.slice a ps.length cap] w fun e w'=>
   e=.returned (.slice (some ⟨w.heap.size,0,none⟩) ps.length ps.length)∧OwP w' w.heap.size w.heap.size ps.length ps∧Below w.heap.size w w':=by
 obtain ⟨i0,hi,hz0,hz1,hz2⟩:=info_parts Tryz.infoPl
 have HSS:Hid (Pls w a ps):=hb
 clear hb
 generalize hlen:ps.length=n at *
 have HL:Hid (ps.length=n∧True):=⟨hlen,trivial⟩
 clear hlen
 go_enter Tryz.func85,Tryz.ntmps85
 go_wp2_with (at_make;refine wpList_make_full _ rfl _ _ 42 rfl w.heap.size 127 i0 (.agg #[.int .i64 0,.int .i64 0]) 2 Tryz.underlying42 hi hz0 hz1 .i64 .i64 _ _ n rfl rfl rfl rfl (by rw [hz2];omega) (by unfold maxLen;omega) nl ?_;intro w1 hown hgrow)
 have hbw:Below w.heap.size w w1:=(Below.refl _ _).grown hgrow nl (by intro k hk;cases hk)
 have H0:Hid (OwP w1 w.heap.size w.heap.size n (partP ps 0)):=by
  rw [partP_zero,HL.out.1]
  exact OwP.made hown
 clear hown hgrow hi hz0 hz1 hz2
 go_loopw [4] (fun i wr=>∃ (k:Nat),k≤n∧i=.int .i64 k∧OwP wr w.heap.size w.heap.size n (partP ps k)∧Below w.heap.size w wr) (fun i _=>n-(intOf i).toNat)
 case atStart=>exact ⟨0,Nat.zero_le _,rfl,H0.out,hbw⟩
 case round=>
  clear H0 hbw
  obtain ⟨k,hk,rfl,hown,hbel⟩:=hrel
  have HO:Hid (OwP wr w.heap.size w.heap.size n (partP ps k)):=hown
  clear hown
  by_cases hlt:k<n
  ·obtain ⟨b,off,rfl,hb1,hc1⟩:=(HSS.out.below hbel nl).len_pos k (by rw [HL.out.1];exact hlt)
   obtain ⟨c0,c1⟩:=hc1 k (by rw [HL.out.1];exact hlt)
   have HRG:Hid (rP (ps.getD k dp)):=HSS.out.rng k (by rw [HL.out.1];exact hlt)
   have HST:Hid ((partP ps k).set k (ps.getD k dp)=partP ps (k+1)∧(partP ps k).length=n):=⟨partP_set ps k (by rw [HL.out.1];exact hlt),by rw [partP_len ps k (by rw [HL.out.1];omega),HL.out.1]⟩
   clear hc1
   generalize ps.getD k dp=p at *
   obtain ⟨x,y⟩:=p
   simp only at c0 c1
   go_wp2_with fail
   refine (toPlace_any x y _).mono ?_
   rintro e w2 ⟨rfl,hb2⟩
   have hb3:=hbel.trans (hb2.mono hbel.size)
   have HO2:Hid (OwP w2 w.heap.size w.heap.size n (partP ps k)):=OVp.below HO.out hb2
   obtain ⟨d0,d1⟩:=HO2.out.cell k (by rw [HST.out.2];exact hlt)
   have f0:=HO2.out.frozen (k*2)
   have f1:=HO2.out.frozen (k*2+1)
   have HR:Hid (OwP ((w2.setCell ⟨w.heap.size,k*2,none⟩ (.int .i64 x)).setCell ⟨w.heap.size,k*2+1,none⟩ (.int .i64 y)) w.heap.size w.heap.size n (partP ps (k+1))):=by
    have:=HO2.out.store k (by rw [HST.out.2];exact hlt) (x,y) HRG.out
    rw [HST.out.1] at this
    exact this
   have HB:Hid (Below w.heap.size w ((w2.setCell ⟨w.heap.size,k*2,none⟩ (.int .i64 x)).setCell ⟨w.heap.size,k*2+1,none⟩ (.int .i64 y))):=(hb3.setCell (p:=⟨w.heap.size,_,none⟩) nl _).setCell (p:=⟨w.heap.size,_,none⟩) nl _
   generalize ((partP ps k).getD k dp).1=o0 at *
   generalize ((partP ps k).getD k dp).2=o1 at *
   clear hb2 hb3 hbel c0 c1 HO HO2
   go_wp2
   go_roundw
   case rel=>exact ⟨k+1,by omega,by go_num,HR.out,HB.out⟩
   case measure=>simp [intOf];omega
  ·have hkn:k=n:=by omega
   subst hkn
   have HA:Hid (OwP wr w.heap.size w.heap.size k ps):=by
    have:=HO.out
    rw [show partP ps k=ps from by rw [←HL.out.1];exact partP_all ps] at this
    exact this
   clear HO
   go_wp2
   go_ret
   exact ⟨rfl,HA.out,hbel⟩
theorem toMap_any (a:Option Addr) (cap:Nat) (ps:List (Int × Int)) (w:World) (hb:Pls w a ps) (hn:ps.length≤1048576) :
  Calls Tryz.prog 47 #[.agg #[.slice a ps.length cap]] w fun e w'=>
   ∃ g,e=.returned (.agg #[.slice (some ⟨g,0,none⟩) ps.length ps.length])∧OwP w' w.heap.size g ps.length ps∧Below w.heap.size w w':=by
 go_enter Tryz.func47,Tryz.ntmps47
 go_wp2_with fail
 have hw:Below w.heap.size w (((w.alloc (Obj.cells #[.slice a ps.length cap] 28)).alloc (Obj.cells #[.slice none 0 0] 44)).alloc (Obj.cells #[.slice none 0 0] 44)):=
  (((Below.refl _ _).alloc nl _).alloc (by simp) _).alloc (by simp;omega) _
 refine (toPlaceS_any a cap ps _ (hb.below hw nl) hn).mono ?_
 rintro e w1 ⟨rfl,hown,hbel⟩
 obtain ⟨hc,hf⟩:=bcell hbel
 have hz:=hbel.size
 have hb2:=hw.trans (hbel.mono (by simp;omega))
 simp at hc hf hz hown
 clear hbel hw
 go_wp2
 refine bodyPost_ret (v:=.agg #[.slice (some ⟨w.heap.size+1+1+1,0,none⟩) ps.length ps.length]) (by simp [results,Tryz.results47,go_sem,hc]) rfl ⟨_,rfl,?_,?_⟩
 ·refine OVp.weak (B:=w.heap.size+1+1+1) ?_ (by omega)
  repeat (refine OwP.other ?_ (by simp) _)
  exact hown
 ·repeat (refine Below.setCell ?_ (by first | (simp;done) | (simp;omega)) _)
  exact hb2
theorem toIntS_any (a:Option Addr) (cap:Nat) (zs:List Int) (w:World) (hb:Ins w a zs) (hn:zs.length≤1048576) :
  Calls Tryz.prog 48 #[.slice a zs.length cap] w fun e w'=>
   e=.returned (.slice (some ⟨w.heap.size,0,none⟩) zs.length zs.length)∧OwI w' w.heap.size w.heap.size zs.length zs∧Below w.heap.size w w':=by
 obtain ⟨i0,hi,hz0,hz1,hz2⟩:=info_parts Tryz.infoI64
 generalize hlen:zs.length=n at *
 have HL:Hid (zs.length=n):=hlen
 clear hlen
 go_enter Tryz.func48,Tryz.ntmps48
 go_wp2_with (at_make;refine wpList_make_full _ rfl _ _ 29 rfl w.heap.size 3 i0 (.int .i64 0) 1 Tryz.underlying29 hi hz0 hz1 .i64 .i64 _ _ n rfl rfl rfl rfl (by rw [hz2];omega) (by unfold maxLen;omega) nl ?_;intro w1 hown hgrow)
 have h0:OwI w1 w.heap.size w.heap.size n (part zs 0):=by
  rw [part_zero,HL.out]
  refine ⟨?_,by intro z hz;simp at hz;omega⟩
  rw [made_zeroI] at hown
  simpa using hown
 have hbw:Below w.heap.size w w1:=(Below.refl _ _).grown hgrow nl (by intro k hk;cases hk)
 have H0:Hid (OwI w1 w.heap.size w.heap.size n (part zs 0)):=h0
 clear h0 hown hgrow hi hz0 hz1 hz2
 go_loopw [4] (fun i wr=>∃ k:Nat,k≤n∧i=.int .i64 k∧OwI wr w.heap.size w.heap.size n (part zs k)∧Below w.heap.size w wr) (fun i _=>n-(intOf i).toNat)
 case atStart=>exact ⟨0,Nat.zero_le _,rfl,H0.out,hbw⟩
 case round=>
  obtain ⟨k,hk,rfl,hown,hbel⟩:=hrel
  have HO:Hid (OwI wr w.heap.size w.heap.size n (part zs k)):=hown
  clear hown hbw
  by_cases hlt:k<n
  ·obtain ⟨b,off,rfl,hbl,hcells⟩:=hb.len_pos k (by rw [HL.out];exact hlt)
   have hpl:(part zs k).length=n:=by rw [part_len _ _ (by rw [HL.out];omega)];exact HL.out
   have hsrc:wr.cell? ⟨b,off+k,none⟩=some (.int .i64 (zs.getD k 0)):=(hbel.cell (p:=⟨b,off+k,none⟩) hbl).trans (hcells k (by rw [HL.out];exact hlt))
   have hdst:=HO.out.cell k (by omega)
   have hfz:=HO.out.frozen k
   have hrng:=getD_rngI hb.1 k
   have R:=HO.out.store k (zs.getD k 0) hrng
   rw [part_set _ _ (by rw [HL.out];exact hlt)] at R
   have HR:Hid (OwI (wr.setCell ⟨w.heap.size,k,none⟩ (.int .i64 (zs.getD k 0))) w.heap.size w.heap.size n (part zs (k+1))):=R
   have hbel':=hbel.setCell (p:=⟨w.heap.size,k,none⟩) nl (.int .i64 (zs.getD k 0))
   have HB:Hid (Below w.heap.size w (wr.setCell ⟨w.heap.size,k,none⟩ (.int .i64 (zs.getD k 0)))):=hbel'
   clear R hcells hpl hbel' hrng hb
   go_wp2
   go_roundw
   case rel=>exact ⟨k+1,by omega,by go_num,by simpa using HR.out,by simpa using HB.out⟩
   case measure=>simp [intOf];omega
  ·have hkn:k=n:=by omega
   subst hkn
   have hall:=HO.out
   rw [←HL.out,part_all,HL.out] at hall
   have HA:Hid (OwI wr w.heap.size w.heap.size k zs):=hall
   clear hall
   go_wp2
   go_ret
   exact ⟨rfl,HA.out,hbel⟩
set_option linter.unusedSimpArgs false
structure TdS (w W:World) (d:DkV) (v:List Value) (Z:Nat) (PC:World→Prop):Prop where
 bel:Below w.heap.size w W
 x0:Dk10 W w.heap.size d
 x1:W.heap[w.heap.size+1]?=some (.cells #[.slice none 0 0,.slice none 0 0,.int .i64 0,.int .i64 0,.slice none 0 0,.slice none 0 0,.slice none 0 0,.int .i64 0,.int .i64 0,.slice none 0 0] 49 (0,0))
 x2:W.heap[w.heap.size+1+1]?=some (.cells v.toArray 49 (0,0))
 ord:w.heap.size+1+1+1≤Z∧Z≤W.heap.size
 st:Stab (w.heap.size+1+1+1) Z PC
 pc:PC W
theorem TdS.put {w W:World} {d:DkV} {v:List Value} {Z:Nat} {PC:World→Prop} (h:TdS w W d v Z PC) (i:Nat) (u:Value):TdS w (W.setCell ⟨w.heap.size+1+1,i,none⟩ u) d (v.set i u) Z PC:=by
 have ho:Only (fun b=>b=w.heap.size+1+1) W (W.setCell ⟨w.heap.size+1+1,i,none⟩ u):=(Only.refl (fun b=>b=w.heap.size+1+1) W).setCell (p:=⟨w.heap.size+1+1,i,none⟩) (.inl rfl) u
 have o:=h.ord
 have hb:Below (w.heap.size+1+1) W (W.setCell ⟨w.heap.size+1+1,i,none⟩ u):=ho.below (by omega) (fun k hk=>by omega)
 refine ⟨h.bel.trans (hb.mono (by omega)),h.x0.keep hb (by omega),(ho.block _ (by omega) (by omega)).trans h.x1,?_,⟨o.1,Nat.le_trans o.2 ho.size⟩,h.st,h.st _ _ _ h.pc ho (fun k h1 h2 e=>by omega) o.2⟩
 rw [heap_setCell_same _ _ i _ _ u h.x2]
 simp
theorem TdS.more {w W W':World} {d:DkV} {v:List Value} {Z:Nat} {PC Q:World→Prop} (h:TdS w W d v Z PC) (hb:Below W.heap.size W W') (hq:Q W') (sq:Stab W.heap.size W'.heap.size Q):TdS w W' d v W'.heap.size (fun W=>PC W∧Q W):=by
 have o:=h.ord
 have hs:=hb.size
 exact ⟨h.bel.trans (hb.mono (by omega)),h.x0.step hb,(hb.block _ (by omega)).trans h.x1,(hb.block _ (by omega)).trans h.x2,⟨by omega,Nat.le_refl _⟩,(h.st.mono nl (by omega)).and (sq.mono (by omega) nl),h.st.below h.pc hb o.2,hq⟩
theorem TdS.last {w W:World} {d:DkV} {v:List Value} {Z:Nat} {PC:World→Prop} (h:TdS w W d v Z PC) {u0 u1 u2 u3 u4 u5 u6 u7 u8 u9:Value}:PC ((((((((((W.setCell ⟨w.heap.size+1,0,none⟩ u0).setCell ⟨w.heap.size+1,1,none⟩ u1).setCell ⟨w.heap.size+1,2,none⟩ u2).setCell ⟨w.heap.size+1,3,none⟩ u3).setCell ⟨w.heap.size+1,4,none⟩ u4).setCell ⟨w.heap.size+1,5,none⟩ u5).setCell ⟨w.heap.size+1,6,none⟩ u6).setCell ⟨w.heap.size+1,7,none⟩ u7).setCell ⟨w.heap.size+1,8,none⟩ u8).setCell ⟨w.heap.size+1,9,none⟩ u9)∧Below w.heap.size w ((((((((((W.setCell ⟨w.heap.size+1,0,none⟩ u0).setCell ⟨w.heap.size+1,1,none⟩ u1).setCell ⟨w.heap.size+1,2,none⟩ u2).setCell ⟨w.heap.size+1,3,none⟩ u3).setCell ⟨w.heap.size+1,4,none⟩ u4).setCell ⟨w.heap.size+1,5,none⟩ u5).setCell ⟨w.heap.size+1,6,none⟩ u6).setCell ⟨w.heap.size+1,7,none⟩ u7).setCell ⟨w.heap.size+1,8,none⟩ u8).setCell ⟨w.heap.size+1,9,none⟩ u9):=by
 have ho:Only (fun b=>b=w.heap.size+1) W ((((((((((W.setCell ⟨w.heap.size+1,0,none⟩ u0).setCell ⟨w.heap.size+1,1,none⟩ u1).setCell ⟨w.heap.size+1,2,none⟩ u2).setCell ⟨w.heap.size+1,3,none⟩ u3).setCell ⟨w.heap.size+1,4,none⟩ u4).setCell ⟨w.heap.size+1,5,none⟩ u5).setCell ⟨w.heap.size+1,6,none⟩ u6).setCell ⟨w.heap.size+1,7,none⟩ u7).setCell ⟨w.heap.size+1,8,none⟩ u8).setCell ⟨w.heap.size+1,9,none⟩ u9):=((((((((((Only.refl (fun b=>b=w.heap.size+1) W).setCell (p:=⟨w.heap.size+1,0,none⟩) (.inl rfl) u0).setCell (p:=⟨w.heap.size+1,1,none⟩) (.inl rfl) u1).setCell (p:=⟨w.heap.size+1,2,none⟩) (.inl rfl) u2).setCell (p:=⟨w.heap.size+1,3,none⟩) (.inl rfl) u3).setCell (p:=⟨w.heap.size+1,4,none⟩) (.inl rfl) u4).setCell (p:=⟨w.heap.size+1,5,none⟩) (.inl rfl) u5).setCell (p:=⟨w.heap.size+1,6,none⟩) (.inl rfl) u6).setCell (p:=⟨w.heap.size+1,7,none⟩) (.inl rfl) u7).setCell (p:=⟨w.heap.size+1,8,none⟩) (.inl rfl) u8).setCell (p:=⟨w.heap.size+1,9,none⟩) (.inl rfl) u9
 have o:=h.ord
 exact ⟨h.st _ _ _ h.pc ho (fun k h1 h2 e=>by omega) o.2,h.bel.trans (ho.below h.bel.size (fun k hk=>by omega))⟩
theorem toDisk_any (d:DkV) (w:World) (hb:DkI w d) (hf:DkF d) :
  Calls Tryz.prog 12 #[.agg #[.slice d.sa d.ss.length d.sc,.slice d.pa d.ps.length d.pc,.int .i64 d.E,.int .i64 d.O,.slice d.ma d.ms.length d.mc,.slice d.va d.vs.length d.vc,.slice d.ca d.cs.length d.cc,.int .i64 d.F,.int .i64 d.G,.slice d.oa d.os.length d.oc]] w fun e w'=>(∃ (e2:DkV) (B1 B2 B3 B4 Z:Nat),e=.returned (.agg #[.slice e2.sa e2.ss.length e2.sc,.slice e2.pa e2.ps.length e2.pc,.int .i64 e2.E,.int .i64 e2.O,.slice e2.ma e2.ms.length e2.mc,.slice e2.va e2.vs.length e2.vc,.slice e2.ca e2.cs.length e2.cc,.int .i64 e2.F,.int .i64 e2.G,.slice e2.oa e2.os.length e2.oc])∧DkS e2 d∧DkO w' w.heap.size B1 B2 B3 B4 Z e2∧Z≤w'.heap.size)∧Below w.heap.size w w':=by
 have hw:Below w.heap.size w (((w.alloc (Obj.cells #[.slice d.sa d.ss.length d.sc,.slice d.pa d.ps.length d.pc,.int .i64 d.E,.int .i64 d.O,.slice d.ma d.ms.length d.mc,.slice d.va d.vs.length d.vc,.slice d.ca d.cs.length d.cc,.int .i64 d.F,.int .i64 d.G,.slice d.oa d.os.length d.oc] 34)).alloc (Obj.cells #[.slice none 0 0,.slice none 0 0,.int .i64 0,.int .i64 0,.slice none 0 0,.slice none 0 0,.slice none 0 0,.int .i64 0,.int .i64 0,.slice none 0 0] 49)).alloc (Obj.cells #[.slice none 0 0,.slice none 0 0,.int .i64 0,.int .i64 0,.slice none 0 0,.slice none 0 0,.slice none 0 0,.int .i64 0,.int .i64 0,.slice none 0 0] 49)):=(((Below.refl _ _).alloc nl _).alloc (by simp) _).alloc (by simp;omega) _
 have H0:TdS w (((w.alloc (Obj.cells #[.slice d.sa d.ss.length d.sc,.slice d.pa d.ps.length d.pc,.int .i64 d.E,.int .i64 d.O,.slice d.ma d.ms.length d.mc,.slice d.va d.vs.length d.vc,.slice d.ca d.cs.length d.cc,.int .i64 d.F,.int .i64 d.G,.slice d.oa d.os.length d.oc] 34)).alloc (Obj.cells #[.slice none 0 0,.slice none 0 0,.int .i64 0,.int .i64 0,.slice none 0 0,.slice none 0 0,.slice none 0 0,.int .i64 0,.int .i64 0,.slice none 0 0] 49)).alloc (Obj.cells #[.slice none 0 0,.slice none 0 0,.int .i64 0,.int .i64 0,.slice none 0 0,.slice none 0 0,.slice none 0 0,.int .i64 0,.int .i64 0,.slice none 0 0] 49)) d [Value.slice none 0 0,.slice none 0 0,.int .i64 0,.int .i64 0,.slice none 0 0,.slice none 0 0,.slice none 0 0,.int .i64 0,.int .i64 0,.slice none 0 0] (w.heap.size+1+1+1) (fun _=>True):=by
  refine ⟨hw,((Dk10.new w d 34).alloc _).alloc _,?_,?_,⟨Nat.le_refl _,by simp⟩,Stab.true _ _,trivial⟩
  ·have h1:=heap_alloc_new (w.alloc (Obj.cells #[.slice d.sa d.ss.length d.sc,.slice d.pa d.ps.length d.pc,.int .i64 d.E,.int .i64 d.O,.slice d.ma d.ms.length d.mc,.slice d.va d.vs.length d.vc,.slice d.ca d.cs.length d.cc,.int .i64 d.F,.int .i64 d.G,.slice d.oa d.os.length d.oc] 34)) (Obj.cells #[.slice none 0 0,.slice none 0 0,.int .i64 0,.int .i64 0,.slice none 0 0,.slice none 0 0,.slice none 0 0,.int .i64 0,.int .i64 0,.slice none 0 0] 49)
   have h2:=((Below.refl ((w.alloc (Obj.cells #[.slice d.sa d.ss.length d.sc,.slice d.pa d.ps.length d.pc,.int .i64 d.E,.int .i64 d.O,.slice d.ma d.ms.length d.mc,.slice d.va d.vs.length d.vc,.slice d.ca d.cs.length d.cc,.int .i64 d.F,.int .i64 d.G,.slice d.oa d.os.length d.oc] 34)).alloc (Obj.cells #[.slice none 0 0,.slice none 0 0,.int .i64 0,.int .i64 0,.slice none 0 0,.slice none 0 0,.slice none 0 0,.int .i64 0,.int .i64 0,.slice none 0 0] 49)).heap.size _).alloc nl (Obj.cells #[.slice none 0 0,.slice none 0 0,.int .i64 0,.int .i64 0,.slice none 0 0,.slice none 0 0,.slice none 0 0,.int .i64 0,.int .i64 0,.slice none 0 0] 49)).block (w.heap.size+1) (by simp)
   rw [h2]
   simpa using h1
  ·have h1:=heap_alloc_new ((w.alloc (Obj.cells #[.slice d.sa d.ss.length d.sc,.slice d.pa d.ps.length d.pc,.int .i64 d.E,.int .i64 d.O,.slice d.ma d.ms.length d.mc,.slice d.va d.vs.length d.vc,.slice d.ca d.cs.length d.cc,.int .i64 d.F,.int .i64 d.G,.slice d.oa d.os.length d.oc] 34)).alloc (Obj.cells #[.slice none 0 0,.slice none 0 0,.int .i64 0,.int .i64 0,.slice none 0 0,.slice none 0 0,.slice none 0 0,.int .i64 0,.int .i64 0,.slice none 0 0] 49)) (Obj.cells #[.slice none 0 0,.slice none 0 0,.int .i64 0,.int .i64 0,.slice none 0 0,.slice none 0 0,.slice none 0 0,.int .i64 0,.int .i64 0,.slice none 0 0] 49)
   simpa using h1
 have HB:Hid (DkI w d∧DkF d):=⟨hb,hf⟩
 have H1:=toRaw_any d.sa d.pa d.sc d.pc d.ss d.ps _ (hb.raw.below hw nl) hf.raw.n hf.raw.m hf.raw.l hf.raw.p
 have hsz:(((w.alloc (Obj.cells #[.slice d.sa d.ss.length d.sc,.slice d.pa d.ps.length d.pc,.int .i64 d.E,.int .i64 d.O,.slice d.ma d.ms.length d.mc,.slice d.va d.vs.length d.vc,.slice d.ca d.cs.length d.cc,.int .i64 d.F,.int .i64 d.G,.slice d.oa d.os.length d.oc] 34)).alloc (Obj.cells #[.slice none 0 0,.slice none 0 0,.int .i64 0,.int .i64 0,.slice none 0 0,.slice none 0 0,.slice none 0 0,.int .i64 0,.int .i64 0,.slice none 0 0] 49)).alloc (Obj.cells #[.slice none 0 0,.slice none 0 0,.int .i64 0,.int .i64 0,.slice none 0 0,.slice none 0 0,.slice none 0 0,.int .i64 0,.int .i64 0,.slice none 0 0] 49)).heap.size=w.heap.size+1+1+1:=by simp
 clear hb hf hw
 go_enter Tryz.func12,Tryz.ntmps12
 go_wp2_with fail
 generalize ((w.alloc (Obj.cells #[.slice d.sa d.ss.length d.sc,.slice d.pa d.ps.length d.pc,.int .i64 d.E,.int .i64 d.O,.slice d.ma d.ms.length d.mc,.slice d.va d.vs.length d.vc,.slice d.ca d.cs.length d.cc,.int .i64 d.F,.int .i64 d.G,.slice d.oa d.os.length d.oc] 34)).alloc (Obj.cells #[.slice none 0 0,.slice none 0 0,.int .i64 0,.int .i64 0,.slice none 0 0,.slice none 0 0,.slice none 0 0,.int .i64 0,.int .i64 0,.slice none 0 0] 49)).alloc (Obj.cells #[.slice none 0 0,.slice none 0 0,.int .i64 0,.int .i64 0,.slice none 0 0,.slice none 0 0,.slice none 0 0,.int .i64 0,.int .i64 0,.slice none 0 0] 49)=W0 at *
 refine H1.mono ?_
 clear H1
 rintro e w1 ⟨⟨vs,vp,ss',ps',rfl,hc1,hc2,hr⟩,hb1⟩
 obtain ⟨sa',sc',pa',pc',rfl,rfl⟩:=hr.form
 have HCT:Hid (ss'.map El.ct=d.ss.map El.ct∧ps'.map El.ct=d.ps.map El.ct):=⟨hc1,hc2⟩
 have T1:=H0.more hb1 hr.v (RawV.stab nl nl)
 have HO1:Hid (w.heap.size+1+1+1=W0.heap.size∧W0.heap.size≤w1.heap.size):=⟨hsz.symm,hb1.size⟩
 clear hc1 hc2 hr hb1 H0 hsz
 have T1a:=((((T1).put 0 (Value.slice sa' ss'.length sc')).put 1 (Value.slice pa' ps'.length pc')).put 2 (Value.int .i64 d.E)).put 3 (Value.int .i64 d.O)
 obtain ⟨x0,x1,x2,x3,x4,x5,x6,x7,x8,x9,xl⟩:=T1.x0
 have y0:=cellRR (j:=0) T1.x2 rfl
 have z0:=frozen_of_row _ _ 0 _ _ T1.x2
 have y1:=cellRR (j:=1) T1.x2 rfl
 have z1:=frozen_of_row _ _ 1 _ _ T1.x2
 have y2:=cellRR (j:=2) T1.x2 rfl
 have z2:=frozen_of_row _ _ 2 _ _ T1.x2
 have y3:=cellRR (j:=3) T1.x2 rfl
 have z3:=frozen_of_row _ _ 3 _ _ T1.x2
 have H2:=toMap_any d.ma d.mc d.ms _ (HB.out.1.map.below T1a.bel nl) HB.out.2.ms
 clear T1
 go_wp2_with fail
 clear x0 x1 x2 x3 x4 x5 x6 x7 x8 x9 xl y0 z0 y1 z1 y2 z2 y3 z3
 generalize ((((w1).setCell ⟨w.heap.size+1+1,0,none⟩ (Value.slice sa' ss'.length sc')).setCell ⟨w.heap.size+1+1,1,none⟩ (Value.slice pa' ps'.length pc')).setCell ⟨w.heap.size+1+1,2,none⟩ (Value.int .i64 d.E)).setCell ⟨w.heap.size+1+1,3,none⟩ (Value.int .i64 d.O)=W1 at *
 refine H2.mono ?_
 clear H2
 rintro e w2 ⟨g2,rfl,hr,hb2⟩
 have T2:=T1a.more hb2 (Or.inr ⟨g2,rfl,hr.lt.1,hr.lt.2,hr⟩:MinP w2 W1.heap.size w2.heap.size (some ⟨g2,0,none⟩) d.ms.length d.ms) (stab_minP nl nl)
 have HO2:Hid (w1.heap.size≤W1.heap.size∧W1.heap.size≤w2.heap.size):=⟨T1a.ord.2,hb2.size⟩
 clear hr hb2 T1a
 have T2a:=(T2).put 4 (Value.slice (some ⟨g2,0,none⟩) d.ms.length d.ms.length)
 obtain ⟨x0,x1,x2,x3,x4,x5,x6,x7,x8,x9,xl⟩:=T2.x0
 have y4:=cellRR (j:=4) T2.x2 rfl
 have z4:=frozen_of_row _ _ 4 _ _ T2.x2
 have H3:=toMap_any d.va d.vc d.vs _ (HB.out.1.sav.below T2a.bel nl) HB.out.2.vs
 clear T2
 go_wp2_with fail
 clear x0 x1 x2 x3 x4 x5 x6 x7 x8 x9 xl y4 z4
 generalize (w2).setCell ⟨w.heap.size+1+1,4,none⟩ (Value.slice (some ⟨g2,0,none⟩) d.ms.length d.ms.length)=W2 at *
 refine H3.mono ?_
 clear H3
 rintro e w3 ⟨g3,rfl,hr,hb3⟩
 have T3:=T2a.more hb3 (Or.inr ⟨g3,rfl,hr.lt.1,hr.lt.2,hr⟩:MinP w3 W2.heap.size w3.heap.size (some ⟨g3,0,none⟩) d.vs.length d.vs) (stab_minP nl nl)
 have HO3:Hid (w2.heap.size≤W2.heap.size∧W2.heap.size≤w3.heap.size):=⟨T2a.ord.2,hb3.size⟩
 clear hr hb3 T2a
 have T3a:=(T3).put 5 (Value.slice (some ⟨g3,0,none⟩) d.vs.length d.vs.length)
 obtain ⟨x0,x1,x2,x3,x4,x5,x6,x7,x8,x9,xl⟩:=T3.x0
 have y5:=cellRR (j:=5) T3.x2 rfl
 have z5:=frozen_of_row _ _ 5 _ _ T3.x2
 have H4:=toIntS_any d.ca d.cc d.cs _ (HB.out.1.chn.below T3a.bel nl) HB.out.2.cs
 clear T3
 go_wp2_with fail
 clear x0 x1 x2 x3 x4 x5 x6 x7 x8 x9 xl y5 z5
 generalize (w3).setCell ⟨w.heap.size+1+1,5,none⟩ (Value.slice (some ⟨g3,0,none⟩) d.vs.length d.vs.length)=W3 at *
 refine H4.mono ?_
 clear H4
 rintro e w4 ⟨rfl,hr,hb4⟩
 have T4:=T3a.more hb4 hr.mine (Stab.minI nl nl)
 have HO4:Hid (w3.heap.size≤W3.heap.size∧W3.heap.size≤w4.heap.size):=⟨T3a.ord.2,hb4.size⟩
 clear hr hb4 T3a
 have T4a:=(T4).put 6 (Value.slice (some ⟨W3.heap.size,0,none⟩) d.cs.length d.cs.length)
 obtain ⟨x0,x1,x2,x3,x4,x5,x6,x7,x8,x9,xl⟩:=T4.x0
 have y6:=cellRR (j:=6) T4.x2 rfl
 have z6:=frozen_of_row _ _ 6 _ _ T4.x2
 have H5:=toPack_any d.F d.G d.oa d.oc d.os _ (HB.out.1.opn.below T4a.bel nl) HB.out.2.opn.n HB.out.2.opn.l
 clear T4
 go_wp2_with fail
 clear x0 x1 x2 x3 x4 x5 x6 x7 x8 x9 xl y6 z6
 generalize (w4).setCell ⟨w.heap.size+1+1,6,none⟩ (Value.slice (some ⟨W3.heap.size,0,none⟩) d.cs.length d.cs.length)=W4 at *
 refine H5.mono ?_
 clear H5
 rintro e w5 ⟨⟨g5,os',rfl,hr⟩,hb5⟩
 have hl5:d.os.length=os'.length:=(len_ctE hr.ct).symm
 have HC5:Hid (os'.map El.ct=d.os.map El.ct):=hr.ct
 rw [hl5] at hr ⊢
 have T5:=T4a.more hb5 (⟨⟨rfl,hr.row,hr.deep,hr.rng⟩,hr.v.r,hr.v.d⟩:CopV w5 W4.heap.size w5.heap.size (.slice (some ⟨g5,0,none⟩) os'.length os'.length) os' os') (CopV.stab nl nl)
 have HO5:Hid (w4.heap.size≤W4.heap.size∧W4.heap.size≤w5.heap.size):=⟨T4a.ord.2,hb5.size⟩
 clear hr hb5 T4a hl5
 have T6:=((T5.put 7 (Value.int .i64 d.F)).put 8 (Value.int .i64 d.G)).put 9 (Value.slice (some ⟨g5,0,none⟩) os'.length os'.length)
 obtain ⟨x0,x1,x2,x3,x4,x5,x6,x7,x8,x9,xl⟩:=T5.x0
 have y7:=cellRR (j:=7) T5.x2 rfl
 have z7:=frozen_of_row _ _ 7 _ _ T5.x2
 have y8:=cellRR (j:=8) T5.x2 rfl
 have z8:=frozen_of_row _ _ 8 _ _ T5.x2
 have y9:=cellRR (j:=9) T5.x2 rfl
 have z9:=frozen_of_row _ _ 9 _ _ T5.x2
 have y0:=cellRR (j:=0) T5.x2 rfl
 have y1:=cellRR (j:=1) T5.x2 rfl
 have y2:=cellRR (j:=2) T5.x2 rfl
 have y3:=cellRR (j:=3) T5.x2 rfl
 have y4:=cellRR (j:=4) T5.x2 rfl
 have y5:=cellRR (j:=5) T5.x2 rfl
 have y6:=cellRR (j:=6) T5.x2 rfl
 have p0:=cellRR (j:=0) T5.x1 rfl
 have q0:=frozen_of_row _ _ 0 _ _ T5.x1
 have p1:=cellRR (j:=1) T5.x1 rfl
 have q1:=frozen_of_row _ _ 1 _ _ T5.x1
 have p2:=cellRR (j:=2) T5.x1 rfl
 have q2:=frozen_of_row _ _ 2 _ _ T5.x1
 have p3:=cellRR (j:=3) T5.x1 rfl
 have q3:=frozen_of_row _ _ 3 _ _ T5.x1
 have p4:=cellRR (j:=4) T5.x1 rfl
 have q4:=frozen_of_row _ _ 4 _ _ T5.x1
 have p5:=cellRR (j:=5) T5.x1 rfl
 have q5:=frozen_of_row _ _ 5 _ _ T5.x1
 have p6:=cellRR (j:=6) T5.x1 rfl
 have q6:=frozen_of_row _ _ 6 _ _ T5.x1
 have p7:=cellRR (j:=7) T5.x1 rfl
 have q7:=frozen_of_row _ _ 7 _ _ T5.x1
 have p8:=cellRR (j:=8) T5.x1 rfl
 have q8:=frozen_of_row _ _ 8 _ _ T5.x1
 have p9:=cellRR (j:=9) T5.x1 rfl
 have q9:=frozen_of_row _ _ 9 _ _ T5.x1
 have t0:=cellRR (j:=0) T6.x1 rfl
 have t1:=cellRR (j:=1) T6.x1 rfl
 have t2:=cellRR (j:=2) T6.x1 rfl
 have t3:=cellRR (j:=3) T6.x1 rfl
 have t4:=cellRR (j:=4) T6.x1 rfl
 have t5:=cellRR (j:=5) T6.x1 rfl
 have t6:=cellRR (j:=6) T6.x1 rfl
 have t7:=cellRR (j:=7) T6.x1 rfl
 have t8:=cellRR (j:=8) T6.x1 rfl
 have t9:=cellRR (j:=9) T6.x1 rfl
 obtain ⟨HPC,HBL⟩:=TdS.last T6 (u0:=Value.slice sa' ss'.length sc') (u1:=Value.slice pa' ps'.length pc') (u2:=Value.int .i64 d.E) (u3:=Value.int .i64 d.O) (u4:=Value.slice (some ⟨g2,0,none⟩) d.ms.length d.ms.length) (u5:=Value.slice (some ⟨g3,0,none⟩) d.vs.length d.vs.length) (u6:=Value.slice (some ⟨W3.heap.size,0,none⟩) d.cs.length d.cs.length) (u7:=Value.int .i64 d.F) (u8:=Value.int .i64 d.G) (u9:=Value.slice (some ⟨g5,0,none⟩) os'.length os'.length)
 have HF:Hid ((∃ (e2:DkV) (B1 B2 B3 B4 Z:Nat),Ending.returned (.agg #[.slice sa' ss'.length sc',.slice pa' ps'.length pc',.int .i64 d.E,.int .i64 d.O,.slice (some ⟨g2,0,none⟩) d.ms.length d.ms.length,.slice (some ⟨g3,0,none⟩) d.vs.length d.vs.length,.slice (some ⟨W3.heap.size,0,none⟩) d.cs.length d.cs.length,.int .i64 d.F,.int .i64 d.G,.slice (some ⟨g5,0,none⟩) os'.length os'.length])=.returned (.agg #[.slice e2.sa e2.ss.length e2.sc,.slice e2.pa e2.ps.length e2.pc,.int .i64 e2.E,.int .i64 e2.O,.slice e2.ma e2.ms.length e2.mc,.slice e2.va e2.vs.length e2.vc,.slice e2.ca e2.cs.length e2.cc,.int .i64 e2.F,.int .i64 e2.G,.slice e2.oa e2.os.length e2.oc])∧DkS e2 d∧DkO (((((((((((((w5.setCell ⟨w.heap.size+1+1,7,none⟩ (Value.int .i64 d.F)).setCell ⟨w.heap.size+1+1,8,none⟩ (Value.int .i64 d.G)).setCell ⟨w.heap.size+1+1,9,none⟩ (Value.slice (some ⟨g5,0,none⟩) os'.length os'.length)).setCell ⟨w.heap.size+1,0,none⟩ (Value.slice sa' ss'.length sc')).setCell ⟨w.heap.size+1,1,none⟩ (Value.slice pa' ps'.length pc')).setCell ⟨w.heap.size+1,2,none⟩ (Value.int .i64 d.E)).setCell ⟨w.heap.size+1,3,none⟩ (Value.int .i64 d.O)).setCell ⟨w.heap.size+1,4,none⟩ (Value.slice (some ⟨g2,0,none⟩) d.ms.length d.ms.length)).setCell ⟨w.heap.size+1,5,none⟩ (Value.slice (some ⟨g3,0,none⟩) d.vs.length d.vs.length)).setCell ⟨w.heap.size+1,6,none⟩ (Value.slice (some ⟨W3.heap.size,0,none⟩) d.cs.length d.cs.length)).setCell ⟨w.heap.size+1,7,none⟩ (Value.int .i64 d.F)).setCell ⟨w.heap.size+1,8,none⟩ (Value.int .i64 d.G)).setCell ⟨w.heap.size+1,9,none⟩ (Value.slice (some ⟨g5,0,none⟩) os'.length os'.length)) w.heap.size B1 B2 B3 B4 Z e2∧Z≤(((((((((((((w5.setCell ⟨w.heap.size+1+1,7,none⟩ (Value.int .i64 d.F)).setCell ⟨w.heap.size+1+1,8,none⟩ (Value.int .i64 d.G)).setCell ⟨w.heap.size+1+1,9,none⟩ (Value.slice (some ⟨g5,0,none⟩) os'.length os'.length)).setCell ⟨w.heap.size+1,0,none⟩ (Value.slice sa' ss'.length sc')).setCell ⟨w.heap.size+1,1,none⟩ (Value.slice pa' ps'.length pc')).setCell ⟨w.heap.size+1,2,none⟩ (Value.int .i64 d.E)).setCell ⟨w.heap.size+1,3,none⟩ (Value.int .i64 d.O)).setCell ⟨w.heap.size+1,4,none⟩ (Value.slice (some ⟨g2,0,none⟩) d.ms.length d.ms.length)).setCell ⟨w.heap.size+1,5,none⟩ (Value.slice (some ⟨g3,0,none⟩) d.vs.length d.vs.length)).setCell ⟨w.heap.size+1,6,none⟩ (Value.slice (some ⟨W3.heap.size,0,none⟩) d.cs.length d.cs.length)).setCell ⟨w.heap.size+1,7,none⟩ (Value.int .i64 d.F)).setCell ⟨w.heap.size+1,8,none⟩ (Value.int .i64 d.G)).setCell ⟨w.heap.size+1,9,none⟩ (Value.slice (some ⟨g5,0,none⟩) os'.length os'.length)).heap.size)∧Below w.heap.size w (((((((((((((w5.setCell ⟨w.heap.size+1+1,7,none⟩ (Value.int .i64 d.F)).setCell ⟨w.heap.size+1+1,8,none⟩ (Value.int .i64 d.G)).setCell ⟨w.heap.size+1+1,9,none⟩ (Value.slice (some ⟨g5,0,none⟩) os'.length os'.length)).setCell ⟨w.heap.size+1,0,none⟩ (Value.slice sa' ss'.length sc')).setCell ⟨w.heap.size+1,1,none⟩ (Value.slice pa' ps'.length pc')).setCell ⟨w.heap.size+1,2,none⟩ (Value.int .i64 d.E)).setCell ⟨w.heap.size+1,3,none⟩ (Value.int .i64 d.O)).setCell ⟨w.heap.size+1,4,none⟩ (Value.slice (some ⟨g2,0,none⟩) d.ms.length d.ms.length)).setCell ⟨w.heap.size+1,5,none⟩ (Value.slice (some ⟨g3,0,none⟩) d.vs.length d.vs.length)).setCell ⟨w.heap.size+1,6,none⟩ (Value.slice (some ⟨W3.heap.size,0,none⟩) d.cs.length d.cs.length)).setCell ⟨w.heap.size+1,7,none⟩ (Value.int .i64 d.F)).setCell ⟨w.heap.size+1,8,none⟩ (Value.int .i64 d.G)).setCell ⟨w.heap.size+1,9,none⟩ (Value.slice (some ⟨g5,0,none⟩) os'.length os'.length))):=by
  obtain ⟨⟨⟨⟨⟨-,c1⟩,c2⟩,c3⟩,c4⟩,c5⟩:=HPC
  have h1:=HO1.out
  have h2:=HO2.out
  have h3:=HO3.out
  have h4:=HO4.out
  have h5:=HO5.out
  refine ⟨⟨⟨sa',sc',ss',pa',pc',ps',d.E,d.O,some ⟨g2,0,none⟩,d.ms.length,d.ms,some ⟨g3,0,none⟩,d.vs.length,d.vs,some ⟨W3.heap.size,0,none⟩,d.cs.length,d.cs,d.F,d.G,some ⟨g5,0,none⟩,os'.length,os'⟩,w1.heap.size,w2.heap.size,w3.heap.size,w4.heap.size,w5.heap.size,rfl,⟨HCT.out.1,HCT.out.2,rfl,rfl,rfl,rfl,rfl,rfl,rfl,HC5.out⟩,⟨⟨c1.o.weak (by omega),c1.r⟩,c2.mono h2.1 nl,c3.mono h3.1 nl,c4.mono h4.1 nl,⟨c5.cop.weak h5.1,c5.r,c5.d⟩,by omega⟩,?_⟩,HBL⟩
  simp
 clear HPC HBL T5 T6 HO1 HO2 HO3 HO4 HO5 HCT HC5 HB
 go_wp2
 refine bodyPost_ret (v:=.agg #[.slice sa' ss'.length sc',.slice pa' ps'.length pc',.int .i64 d.E,.int .i64 d.O,.slice (some ⟨g2,0,none⟩) d.ms.length d.ms.length,.slice (some ⟨g3,0,none⟩) d.vs.length d.vs.length,.slice (some ⟨W3.heap.size,0,none⟩) d.cs.length d.cs.length,.int .i64 d.F,.int .i64 d.G,.slice (some ⟨g5,0,none⟩) os'.length os'.length]) (by simp [results,Tryz.results12,go_sem,t0,t1,t2,t3,t4,t5,t6,t7,t8,t9]) rfl ?_
 exact HF.out
theorem below_dE {w W:World} {B:Nat} (h:Below B w W) (n:Nat):Below B w (W.drewN n):=⟨h.os,h.tape,h.output,h.size,h.block⟩
theorem eqByteSS_yes (a b:Option Addr) (ca cb:Nat) (ss ts:List El) (w:World) (ha:Els false w a ss) (hb:Els false w b ts) (hct:ss.map El.ct=ts.map El.ct) (hx:ss.length≤281474976710656) (hxl:∀ s ∈ ss,s.ls.length≤281474976710656) :
  Calls Tryz.prog 29 #[.slice a ss.length ca,.slice b ss.length cb] w fun e w'=>e=.returned (.bool true)∧Below w.heap.size w w':=by
 have htl:ts.length=ss.length:=by have:=congrArg List.length hct;simpa using this.symm
 have HA:Hid (Els false w a ss):=ha
 have HB:Hid (Els false w b ts):=hb
 have HCT:Hid (ss.map El.ct=ts.map El.ct∧ts.length=ss.length):=⟨hct,htl⟩
 have HXL:Hid (∀ s ∈ ss,s.ls.length≤281474976710656):=hxl
 clear ha hb hct htl hxl
 generalize hlen:ss.length=n at *
 have HL:Hid (ss.length=n∧True):=⟨hlen,trivial⟩
 clear hlen
 have hnn:((n:Int) != (n:Int))=false:=by simp
 go_enter Tryz.func29,Tryz.ntmps29
 go_wp2
 go_loopw [5] (fun i wr=>∃ k:Nat,k≤n∧i=.int .i64 k∧Below w.heap.size w wr) (fun i _=>n-(intOf i).toNat)
 case atStart=>exact ⟨0,Nat.zero_le _,rfl,Below.refl _ _⟩
 case round=>
  obtain ⟨k,hk,rfl,hbel⟩:=hrel
  by_cases hlt:k<n
  ·obtain ⟨b1,o1,rfl,hb1,c0,hy1,-⟩:=(HA.out.below hbel nl).sec k (by rw [HL.out.1];exact hlt)
   obtain ⟨b2,o2,rfl,hb2,d0,hy2,-⟩:=(HB.out.below hbel nl).sec k (by rw [HCT.out.2];exact hlt)
   have hml:=HXL.out _ (getD_memE (k:=k) (by rw [HL.out.1];exact hlt))
   have hce:=ctE_get HCT.out.1 k
   generalize ss.getD k de=s at *
   generalize ts.getD k de=t at *
   obtain ⟨sn,sa,sc,sl⟩:=s
   obtain ⟨tn,ta,tc,tl⟩:=t
   simp only [El.ct,Prod.mk.injEq] at hce
   obtain ⟨rfl,rfl⟩:=hce
   simp only at c0 d0 hy1 hy2 hml
   have HY1:Hid (Byt wr sa sl):=hy1
   have HY2:Hid (Byt wr ta sl):=hy2
   have HML:Hid (sl.length≤281474976710656):=hml
   have HC:Hid (wr.cell? ⟨b1,o1+k,none⟩=some (.slice sa sl.length sc)∧wr.cell? ⟨b2,o2+k,none⟩=some (.slice ta sl.length tc)):=⟨c0,d0⟩
   clear hy1 hy2 hml c0 d0
   go_wp2_with fail
   go_region_held3 (fun W=>W.cell? ⟨b1,o1+k,none⟩=some (.slice sa sl.length sc)∧W.cell? ⟨b2,o2+k,none⟩=some (.slice ta sl.length tc))
    (first | exact HC.out | exact HC8.out)
    (first
     | (go_at_call 14;refine (eqByteS_yes sa ta sc tc sl _ (by exact HY1.out) (by exact HY2.out) HML.out).mono ?_;rintro e w8 ⟨rfl,n8,hw8⟩;have HB8:Hid (Below w.heap.size w w8):=(by rw [hw8];exact below_dE (below_dE hbel 1) n8);have HC8:Hid (w8.cell? ⟨b1,o1+k,none⟩=some (.slice sa sl.length sc)∧w8.cell? ⟨b2,o2+k,none⟩=some (.slice ta sl.length tc)):=(by rw [hw8];exact HC.out);clear hw8))
   clear HC HC8
   go_wp2
   go_roundw
   case rel=>exact ⟨k+1,by omega,by go_num,HB8.out⟩
   case measure=>simp [intOf];omega
  ·have hkn:k=n:=by omega
   subst hkn
   go_wp2
   go_ret
   exact ⟨rfl,hbel⟩
theorem eqPend_yes (a b:Option Addr) (ca cb:Nat) (xs:List Int) (n:Int) (w:World) (ha:Byt w a xs) (hb:Byt w b xs) (hx:xs.length≤281474976710656) :
  Calls Tryz.prog 106 #[.agg #[.int .i64 n,.slice a xs.length ca],.agg #[.int .i64 n,.slice b xs.length cb]] w fun e w'=>e=.returned (.bool true)∧Below w.heap.size w w':=by
 have hw:Below w.heap.size w ((w.alloc (Obj.cells #[.int .i64 n,.slice a xs.length ca] 141)).alloc (Obj.cells #[.int .i64 n,.slice b xs.length cb] 141)):=((Below.refl _ _).alloc nl _).alloc (by simp) _
 have hnn:(n != n)=false:=by simp
 go_enter Tryz.func106,Tryz.ntmps106
 go_wp2_with fail
 refine (eqByteS_yes a b ca cb xs _ (ha.below hw nl) (hb.below hw nl) hx).mono ?_
 rintro e w1 ⟨rfl,nq,rfl⟩
 go_wp2
 go_ret
 exact ⟨rfl,below_dE hw _⟩
theorem eqPendS_yes (a b:Option Addr) (ca cb:Nat) (ss ts:List El) (w:World) (ha:Els true w a ss) (hb:Els true w b ts) (hct:ss.map El.ct=ts.map El.ct) (hx:ss.length≤281474976710656) (hxl:∀ s ∈ ss,s.ls.length≤281474976710656) :
  Calls Tryz.prog 63 #[.slice a ss.length ca,.slice b ss.length cb] w fun e w'=>e=.returned (.bool true)∧Below w.heap.size w w':=by
 have htl:ts.length=ss.length:=by have:=congrArg List.length hct;simpa using this.symm
 have HA:Hid (Els true w a ss):=ha
 have HB:Hid (Els true w b ts):=hb
 have HCT:Hid (ss.map El.ct=ts.map El.ct∧ts.length=ss.length):=⟨hct,htl⟩
 have HXL:Hid (∀ s ∈ ss,s.ls.length≤281474976710656):=hxl
 clear ha hb hct htl hxl
 generalize hlen:ss.length=n at *
 have HL:Hid (ss.length=n∧True):=⟨hlen,trivial⟩
 clear hlen
 have hnn:((n:Int) != (n:Int))=false:=by simp
 go_enter Tryz.func63,Tryz.ntmps63
 go_wp2
 go_loopw [5] (fun i wr=>∃ k:Nat,k≤n∧i=.int .i64 k∧Below w.heap.size w wr) (fun i _=>n-(intOf i).toNat)
 case atStart=>exact ⟨0,Nat.zero_le _,rfl,Below.refl _ _⟩
 case round=>
  obtain ⟨k,hk,rfl,hbel⟩:=hrel
  by_cases hlt:k<n
  ·obtain ⟨b1,o1,rfl,hb1,c0,c1,hy1,-⟩:=(HA.out.below hbel nl).pen k (by rw [HL.out.1];exact hlt)
   obtain ⟨b2,o2,rfl,hb2,d0,d1,hy2,-⟩:=(HB.out.below hbel nl).pen k (by rw [HCT.out.2];exact hlt)
   have hml:=HXL.out _ (getD_memE (k:=k) (by rw [HL.out.1];exact hlt))
   have hce:=ctE_get HCT.out.1 k
   generalize ss.getD k de=s at *
   generalize ts.getD k de=t at *
   obtain ⟨sn,sa,sc,sl⟩:=s
   obtain ⟨tn,ta,tc,tl⟩:=t
   simp only [El.ct,Prod.mk.injEq] at hce
   obtain ⟨rfl,rfl⟩:=hce
   simp only at c0 c1 d0 d1 hy1 hy2 hml
   have HY1:Hid (Byt wr sa sl):=hy1
   have HY2:Hid (Byt wr ta sl):=hy2
   have HML:Hid (sl.length≤281474976710656):=hml
   have HC:Hid (wr.cell? ⟨b1,o1+k*2,none⟩=some (.int .i64 sn)∧wr.cell? ⟨b1,o1+k*2+1,none⟩=some (.slice sa sl.length sc)∧wr.cell? ⟨b2,o2+k*2,none⟩=some (.int .i64 sn)∧wr.cell? ⟨b2,o2+k*2+1,none⟩=some (.slice ta sl.length tc)):=⟨c0,c1,d0,d1⟩
   clear hy1 hy2 hml c0 c1 d0 d1
   go_wp2_with fail
   go_region_held3 (fun W=>W.cell? ⟨b1,o1+k*2,none⟩=some (.int .i64 sn)∧W.cell? ⟨b1,o1+k*2+1,none⟩=some (.slice sa sl.length sc)∧W.cell? ⟨b2,o2+k*2,none⟩=some (.int .i64 sn)∧W.cell? ⟨b2,o2+k*2+1,none⟩=some (.slice ta sl.length tc))
    (first | exact HC.out | exact HC8.out)
    (first
     | (go_at_call 106;refine (eqPend_yes sa ta sc tc sl sn _ (by exact HY1.out) (by exact HY2.out) HML.out).mono ?_;rintro e w8 ⟨rfl,hb8'⟩;have HB8:Hid (Below w.heap.size w w8):=hbel.trans ((Below.drewS hb8').mono hbel.size);have HC8:Hid (w8.cell? ⟨b1,o1+k*2,none⟩=some (.int .i64 sn)∧w8.cell? ⟨b1,o1+k*2+1,none⟩=some (.slice sa sl.length sc)∧w8.cell? ⟨b2,o2+k*2,none⟩=some (.int .i64 sn)∧w8.cell? ⟨b2,o2+k*2+1,none⟩=some (.slice ta sl.length tc)):=⟨keep (Below.drewS hb8') hb1 HC.out.1,keep (Below.drewS hb8') hb1 HC.out.2.1,keep (Below.drewS hb8') hb2 HC.out.2.2.1,keep (Below.drewS hb8') hb2 HC.out.2.2.2⟩;clear hb8'))
   clear HC HC8
   go_wp2
   go_roundw
   case rel=>exact ⟨k+1,by omega,by go_num,HB8.out⟩
   case measure=>simp [intOf];omega
  ·have hkn:k=n:=by omega
   subst hkn
   go_wp2
   go_ret
   exact ⟨rfl,hbel⟩
theorem eqRaw_yes (sa pa ta qa:Option Addr) (sc pc tc qc:Nat) (ss ps ts qs:List El) (w:World) (ha:RawI w sa pa ss ps) (hb:RawI w ta qa ts qs) (h1:ss.map El.ct=ts.map El.ct) (h2:ps.map El.ct=qs.map El.ct) (hx:Few ss ps) :
  Calls Tryz.prog 22 #[.agg #[.slice sa ss.length sc,.slice pa ps.length pc],.agg #[.slice ta ss.length tc,.slice qa ps.length qc]] w fun e w'=>e=.returned (.bool true)∧Below w.heap.size w w':=by
 have HA:Hid (RawI w sa pa ss ps∧RawI w ta qa ts qs):=⟨ha,hb⟩
 have HC:Hid (ss.map El.ct=ts.map El.ct∧ps.map El.ct=qs.map El.ct):=⟨h1,h2⟩
 have HX:Hid (Few ss ps):=hx
 clear ha hb h1 h2 hx
 go_enter Tryz.func22,Tryz.ntmps22
 have hw:Below w.heap.size w ((w.alloc (Obj.cells #[.slice sa ss.length sc,.slice pa ps.length pc] 41)).alloc (Obj.cells #[.slice ta ss.length tc,.slice qa ps.length qc] 41)):=((Below.refl _ _).alloc nl _).alloc (by simp) _
 have hx0:Box2 ((w.alloc (Obj.cells #[.slice sa ss.length sc,.slice pa ps.length pc] 41)).alloc (Obj.cells #[.slice ta ss.length tc,.slice qa ps.length qc] 41)) w.heap.size (.slice sa ss.length sc) (.slice pa ps.length pc):=(Box2.new w _ _ 41).alloc _
 have hx1:Box2 ((w.alloc (Obj.cells #[.slice sa ss.length sc,.slice pa ps.length pc] 41)).alloc (Obj.cells #[.slice ta ss.length tc,.slice qa ps.length qc] 41)) (w.heap.size+1) (.slice ta ss.length tc) (.slice qa ps.length qc):=by
  have h9:=Box2.new (w.alloc (Obj.cells #[.slice sa ss.length sc,.slice pa ps.length pc] 41)) (.slice ta ss.length tc) (.slice qa ps.length qc) 41
  simpa using h9
 go_wp2_with fail
 have hsz:w.heap.size+1+1=((w.alloc (Obj.cells #[.slice sa ss.length sc,.slice pa ps.length pc] 41)).alloc (Obj.cells #[.slice ta ss.length tc,.slice qa ps.length qc] 41)).heap.size:=by simp
 generalize (w.alloc (Obj.cells #[.slice sa ss.length sc,.slice pa ps.length pc] 41)).alloc (Obj.cells #[.slice ta ss.length tc,.slice qa ps.length qc] 41)=W at *
 refine (eqByteSS_yes sa ta sc tc ss ts W (HA.out.1.1.below hw nl) (HA.out.2.1.below hw nl) HC.out.1 (by have:=HX.out.n;omega) (fun s hs=>by have:=HX.out.l s hs;omega)).mono ?_
 rintro e w1 ⟨rfl,hb1⟩
 have hy0:=hx0.keep hb1 hx0.lt
 have hy1:=hx1.keep hb1 hx1.lt
 have HB1:Hid (Below w.heap.size w w1):=hw.trans (hb1.mono hw.size)
 clear hb1 hw hx0 hx1 hsz
 obtain ⟨r0,r1,-,-,rl⟩:=hy0
 obtain ⟨s0,s1,-,-,sl⟩:=hy1
 go_wp2_with fail
 refine (eqPendS_yes pa qa pc qc ps qs w1 (HA.out.1.2.below HB1.out nl) (HA.out.2.2.below HB1.out nl) HC.out.2 (by have:=HX.out.m;omega) (fun s hs=>by have:=HX.out.p s hs;omega)).mono ?_
 rintro e w2 ⟨rfl,hb2⟩
 have HB2:Hid (Below w.heap.size w w2):=HB1.out.trans (hb2.mono HB1.out.size)
 clear hb2
 go_wp2
 go_ret
 exact ⟨rfl,HB2.out⟩
end Go.Proofs.YtaibkchbkedjnaaGreatDoor
