import Derived.Test.YtaibkchbkedjnaaGreatDoorMpSt2
import Derived.Test.YtaibkchbkedjnaaGreatDoorDkI1
set_option maxRecDepth 20000
set_option maxHeartbeats 16000000
namespace Go.Proofs.YtaibkchbkedjnaaGreatDoor
open Go.RowKit Go.Maps
set_option linter.unusedVariables false
set_option linter.unusedSimpArgs false
theorem zd5 (a:Option Addr) (c:Nat) (ps:List (Int × Int)) (w:World) (hb:Pls w a ps) (hn:ps.length<=1048576) :
  Calls Tryz.prog 136 #[.agg #[.slice a ps.length c]] w fun e w'=>
   ((zp ps=true/\∃ R M,e=.returned (.tuple #[.pointer (some ⟨R,0,none⟩),.bool true])/\Atl w' R M a ps.length c/\Liv w' M ps.length (liv ps ps.length)/\w.heap.size<=M)\/(zp ps=false/\e=.returned (.tuple #[.pointer none,.bool false])))/\Below w.heap.size w w':=by
 have hw:Below w.heap.size w (w.alloc (Obj.cells #[.slice a ps.length c] 44)):=ba
 by_cases hl:1<=ps.length/\ps.length<=16
 ·have HY:Hid (okT ps ps.length=true->zp ps=true):=zaz ps hl
  have HN:Hid (∀ k,z0j ps k=false->k<ps.length->zp ps=false):=zdu ps;have HSTL:Hid (∀ (k m:Nat) (R M:Nat) (w:World),Atl w R M a ps.length c->Pls w a ps->Liv w M m (liv ps k)->M≠R->k<ps.length->m<=1000->Calls Tryz.prog 167 #[.pointer (some ⟨R,0,none⟩),.int .i64 k] w fun e w'=>
   e=.returned (.bool (z0j ps k))/\(z0j ps k=true->Liv w' M (m+1) (liv ps (k+1))/\Atl w' R M a ps.length c)/\Below M w w'):=fun k m R M w h1 h2 h3 h4 h5 h6=>zej R M a c ps k m w h1 h2 h3 h4 h5 hl.2 h6
  have HB:Hid (Pls w a ps):=hb;have HZ:Hid (liv ps 0=(fun _=>[])/\okT ps 0=true/\∀ k,okT ps k=true->z0j ps k=true->okT ps (k+1)=true):=⟨by funext s;rfl,rfl,fun k h1 h2=>by simp only [okT,h1,h2];rfl⟩
  clear hb;generalize zp ps=RR at *;generalize hlen:ps.length=n at *;clear hlen hn;obtain ⟨hl1,hl2⟩:=hl;have hmm:=@run_makeMap Tryz.prog
  go_enter Tryz.func136,Tryz.ntmps136
  go_wp2
  have e1:(w.alloc (Obj.cells #[.slice a n c] 44)).heap.size=w.heap.size+1:=by simp
  have e2:((w.alloc (Obj.cells #[.slice a n c] 44)).alloc (.map #[] 0)).heap.size=w.heap.size+1+1:=by simp
  have HW:Hid (Below w.heap.size w (((w.alloc (Obj.cells #[.slice a n c] 44)).alloc (.map #[] 0)).alloc (Obj.cells #[.slice a n c,.map (some (w.heap.size+1))] 180))):=
   (((Below.refl _ _).alloc nl _).alloc (by simp) _).alloc (by simp;omega) _
  have HL0:Hid (Liv (((w.alloc (Obj.cells #[.slice a n c] 44)).alloc (.map #[] 0)).alloc (Obj.cells #[.slice a n c,.map (some (w.heap.size+1))] 180)) (w.heap.size+1) 0 (liv ps 0)):=by
   have h1:=(Liv.made (w.alloc (Obj.cells #[.slice a n c] 44))).below ((Below.refl _ _).alloc nl (Obj.cells #[.slice a n c,.map (some (w.heap.size+1))] 180));rw [e1] at h1;rw [HZ.out.1];exact h1
  have HA0:Hid (Atl (((w.alloc (Obj.cells #[.slice a n c] 44)).alloc (.map #[] 0)).alloc (Obj.cells #[.slice a n c,.map (some (w.heap.size+1))] 180)) (w.heap.size+1+1) (w.heap.size+1) a n c):=⟨by
   rw [<-e2];exact heap_alloc_new _ _⟩
  clear e1 e2 hmm;generalize ((w.alloc (Obj.cells #[.slice a n c] 44)).alloc (.map #[] 0)).alloc (Obj.cells #[.slice a n c,.map (some (w.heap.size+1))] 180)=W at *
  go_loopw [24] (fun i wr=>∃ k:Nat,k<=n/\i=.int .i64 k/\okT ps k=true/\Atl wr (w.heap.size+1+1) (w.heap.size+1) a n c/\Liv wr (w.heap.size+1) k (liv ps k)/\Below w.heap.size w wr) (fun i _=>n-(intOf i).toNat)
  case atStart=>exact ⟨0,Nat.zero_le _,rfl,HZ.out.2.1,HA0.out,HL0.out,HW.out⟩
  case round=>
   obtain ⟨k,hk,rfl,hok,hA,hL,hbel⟩:=hrel;have HR:Hid (okT ps k=true/\Atl wr (w.heap.size+1+1) (w.heap.size+1) a n c/\Liv wr (w.heap.size+1) k (liv ps k)/\Below w.heap.size w wr):=⟨hok,hA,hL,hbel⟩;clear hok hA hL hbel
   by_cases hlt:k<n
   ·have HS:=HSTL.out k k (w.heap.size+1+1) (w.heap.size+1) wr HR.out.2.1 (HB.out.below HR.out.2.2.2 nl) HR.out.2.2.1 (by omega) hlt (by omega)
    go_wp2_with fail
    refine HS.mono ?_;clear HS;rintro e w1 ⟨rfl,hT,hb1⟩;have HB1:Hid (Below w.heap.size w w1):=HR.out.2.2.2.trans (hb1.mono (by omega))
    clear hb1
    cases hst:z0j ps k with
    | true=>
     have HT:Hid (okT ps (k+1)=true/\Liv w1 (w.heap.size+1) (k+1) (liv ps (k+1))/\Atl w1 (w.heap.size+1+1) (w.heap.size+1) a n c):=⟨HZ.out.2.2 k HR.out.1 hst,hT hst⟩;clear hT hst;go_wp2;go_roundw
     case rel=>exact ⟨k+1,by omega,by go_num,HT.out.1,HT.out.2.2,HT.out.2.1,HB1.out⟩
     case measure=>simp [intOf];omega
    | false=>
     have HF:Hid (RR=false/\True):=⟨HN.out k hst hlt,trivial⟩;clear hT hst;go_wp2;exact bodyPost_ret (v:=.tuple #[.pointer none,.bool false]) (by simp [results,Tryz.results136,go_sem]) rfl ⟨.inr ⟨HF.out.1,rfl⟩,HB1.out⟩
   ·have hkn:k=n:=by omega
    subst hkn;have HF:Hid (RR=true/\True):=⟨HY.out HR.out.1,trivial⟩;go_wp2;exact bodyPost_ret (v:=.tuple #[.pointer (some ⟨w.heap.size+1+1,0,none⟩),.bool true]) (by simp [results,Tryz.results136,go_sem]) rfl ⟨.inl ⟨HF.out.1,_,_,rfl,HR.out.2.1,HR.out.2.2.1,by omega⟩,HR.out.2.2.2⟩
 ·have HS:Hid (zp ps=false/\True):=⟨z6w ps hl,trivial⟩
  have key:(ps.length:Int)<1\/(1<=(ps.length:Int)/\16<(ps.length:Int)):=by omega
  clear hl hb;rcases key with h | ⟨h,h2⟩
  all_goals
   go_enter Tryz.func136,Tryz.ntmps136
   go_wp2
   exact bodyPost_ret (v:=.tuple #[.pointer none,.bool false]) (by simp [results,Tryz.results136,go_sem]) rfl ⟨.inr ⟨HS.out.1,rfl⟩,hw⟩
theorem z41 (a:Option Addr) (cap:Nat) (ps:List (Int × Int)) (w:World) (hb:Pls w a ps) (hn:ps.length<=1048576) :
  Calls Tryz.prog 127 #[.agg #[.slice a ps.length cap]] w fun e w'=>e=.returned (.bool (zp ps))/\Below w.heap.size w w':=by
 have hw:Below w.heap.size w (w.alloc (Obj.cells #[.slice a ps.length cap] 44)):=ba
 go_enter Tryz.func127,Tryz.ntmps127
 go_wp2_with fail
 refine (zd5 a cap ps _ (hb.below hw nl) hn).mono ?_;rintro e w1 ⟨hr,hb1⟩;have HB1:Hid (Below w.heap.size w w1):=hw.trans (hb1.mono hw.size);clear hb1 hb;rcases hr with ⟨hm,R,M,rfl,-,-⟩ | ⟨hm,rfl⟩
 all_goals
  have HM:Hid (_/\True):=⟨hm,trivial⟩;clear hm;go_wp2;go_ret;exact ⟨by rw [HM.out.1];rfl,HB1.out⟩
end Go.Proofs.YtaibkchbkedjnaaGreatDoor
namespace Go.Proofs.YtaibkchbkedjnaaGreatDoor
open Go.RowKit
set_option linter.unusedVariables false
set_option linter.unusedSimpArgs false
def ThC (W:World) (X:Nat) (cs:List Int) (k:Nat):Prop:=X<W.heap.size/\∀ i:Nat,i<24->W.frozen? ⟨X,i,none⟩=false/\∃ t,W.cell? ⟨X,i,none⟩=some (.bool t)/\(t=true↔∃ j,j<k/\cs.getD j 0=(i:Nat))
theorem ThC.below {W W':World} {X:Nat} {cs:List Int} {k:Nat} (h:ThC W X cs k) (hb:Below W.heap.size W W'):ThC W' X cs k:=
 ⟨Nat.lt_of_lt_of_le h.1 hb.size,fun i hi=>⟨(hb.frozen (p:=⟨X,i,none⟩) h.1).trans (h.2 i hi).1,by
  obtain ⟨t,h1,h2⟩:=(h.2 i hi).2;exact ⟨t,keep hb h.1 h1,h2⟩⟩⟩
theorem ThC.put {W:World} {X q:Nat} {cs:List Int} {k:Nat} (h:ThC W X cs k) (hq:cs.getD k 0=(q:Nat)) (hq24:q<24):ThC (W.setCell ⟨X,q,none⟩ (.bool true)) X cs (k+1):=by
 refine ⟨by simpa using h.1,fun i hi=>⟨by have:=(h.2 i hi).1;simpa using this,?_⟩⟩
 obtain ⟨t,h1,h2⟩:=(h.2 i hi).2
 by_cases e:i=q
 ·subst e
  exact ⟨true,World.cell?_setCell_same W _ _ h1,by simp only [true_iff];exact ⟨k,by omega,hq⟩⟩
 ·refine ⟨t,(World.cell?_setCell_other W _ _ _ (by simp <;> omega)).trans h1,h2.trans ⟨?_,?_⟩⟩
  ·rintro ⟨j,h3,h4⟩
   exact ⟨j,by omega,h4⟩
  ·rintro ⟨j,h3,h4⟩
   by_cases e2:j=k
   ·subst e2
    rw [hq] at h4;exact absurd (by omega) e
   ·exact ⟨j,by omega,h4⟩
theorem ThC.new (W:World) (T:TypeId) (cs:List Int):ThC (W.alloc (Obj.cells #[.bool false,.bool false,.bool false,.bool false,.bool false,.bool false,.bool false,.bool false,.bool false,.bool false,.bool false,.bool false,.bool false,.bool false,.bool false,.bool false,.bool false,.bool false,.bool false,.bool false,.bool false,.bool false,.bool false,.bool false] T)) W.heap.size cs 0:=by
 refine ⟨by simp,fun i hi=>⟨by simp,false,?_,by simp⟩⟩
 have h:i=0\/i=1\/i=2\/i=3\/i=4\/i=5\/i=6\/i=7\/i=8\/i=9\/i=10\/i=11\/i=12\/i=13\/i=14\/i=15\/i=16\/i=17\/i=18\/i=19\/i=20\/i=21\/i=22\/i=23:=by omega
 rcases h with rfl | rfl | rfl | rfl | rfl | rfl | rfl | rfl | rfl | rfl | rfl | rfl | rfl | rfl | rfl | rfl | rfl | rfl | rfl | rfl | rfl | rfl | rfl | rfl <;> simp
theorem z9i (d:DkV) (w:World) (hb:DkI w d) (hn:d.ss.length<=24) (hm:d.cs.length<=1048576) :
  Calls Tryz.prog 90 #[.agg #[.slice d.sa d.ss.length d.sc,.slice d.pa d.ps.length d.pc,.int .i64 d.E,.int .i64 d.O,.slice d.ma d.ms.length d.mc,.slice d.va d.vs.length d.vc,.slice d.ca d.cs.length d.cc,.int .i64 d.F,.int .i64 d.G,.slice d.oa d.os.length d.oc]] w fun r w'=>((chK d.cs d.ss.length d.cs.length/\r=.returned (.bool true))\/(¬chK d.cs d.ss.length d.cs.length/\r=.returned (.bool false)))/\Below w.heap.size w w':=by
 have HB:Hid (DkI w d):=hb;clear hb;have hw:Below w.heap.size w (w.alloc (Obj.cells #[.slice d.sa d.ss.length d.sc,.slice d.pa d.ps.length d.pc,.int .i64 d.E,.int .i64 d.O,.slice d.ma d.ms.length d.mc,.slice d.va d.vs.length d.vc,.slice d.ca d.cs.length d.cc,.int .i64 d.F,.int .i64 d.G,.slice d.oa d.os.length d.oc] 49)):=ba;have hx:=(Dk10.new w d 49).alloc (Obj.cells #[.bool false,.bool false,.bool false,.bool false,.bool false,.bool false,.bool false,.bool false,.bool false,.bool false,.bool false,.bool false,.bool false,.bool false,.bool false,.bool false,.bool false,.bool false,.bool false,.bool false,.bool false,.bool false,.bool false,.bool false] 146)
 have hT0:=ThC.new (w.alloc (Obj.cells #[.slice d.sa d.ss.length d.sc,.slice d.pa d.ps.length d.pc,.int .i64 d.E,.int .i64 d.O,.slice d.ma d.ms.length d.mc,.slice d.va d.vs.length d.vc,.slice d.ca d.cs.length d.cc,.int .i64 d.F,.int .i64 d.G,.slice d.oa d.os.length d.oc] 49)) 146 d.cs;have HW:Hid (Below w.heap.size w ((w.alloc (Obj.cells #[.slice d.sa d.ss.length d.sc,.slice d.pa d.ps.length d.pc,.int .i64 d.E,.int .i64 d.O,.slice d.ma d.ms.length d.mc,.slice d.va d.vs.length d.vc,.slice d.ca d.cs.length d.cc,.int .i64 d.F,.int .i64 d.G,.slice d.oa d.os.length d.oc] 49)).alloc (Obj.cells #[.bool false,.bool false,.bool false,.bool false,.bool false,.bool false,.bool false,.bool false,.bool false,.bool false,.bool false,.bool false,.bool false,.bool false,.bool false,.bool false,.bool false,.bool false,.bool false,.bool false,.bool false,.bool false,.bool false,.bool false] 146))):=hw.alloc (by simp) _
 simp only [World.size_alloc] at hT0
 have HT0:Hid _:=(⟨hT0,hx⟩:_/\_);obtain ⟨x0,x1,x2,x3,x4,x5,x6,x7,x8,x9,xl⟩:=hx;clear hT0 hw
 go_enter Tryz.func90,Tryz.ntmps90
 go_wp2
 generalize (w.alloc (Obj.cells #[.slice d.sa d.ss.length d.sc,.slice d.pa d.ps.length d.pc,.int .i64 d.E,.int .i64 d.O,.slice d.ma d.ms.length d.mc,.slice d.va d.vs.length d.vc,.slice d.ca d.cs.length d.cc,.int .i64 d.F,.int .i64 d.G,.slice d.oa d.os.length d.oc] 49)).alloc (Obj.cells #[.bool false,.bool false,.bool false,.bool false,.bool false,.bool false,.bool false,.bool false,.bool false,.bool false,.bool false,.bool false,.bool false,.bool false,.bool false,.bool false,.bool false,.bool false,.bool false,.bool false,.bool false,.bool false,.bool false,.bool false] 146)=W0 at *
 go_loopw [9] (fun i wr=>∃ k:Nat,k<=d.cs.length/\i=.int .i64 k/\chK d.cs d.ss.length k/\ThC wr (w.heap.size+1) d.cs k/\Dk10 wr w.heap.size d/\Below w.heap.size w wr) (fun i _=>d.cs.length-(intOf i).toNat)
 case atStart=>exact ⟨0,Nat.zero_le _,rfl,zc6 _ _,HT0.out.1,HT0.out.2,HW.out⟩
 case round=>
  clear HT0 HW x0 x1 x2 x3 x4 x5 x6 x7 x8 x9 xl;obtain ⟨k,hk,rfl,hch,hth,hx,hbel⟩:=hrel;have HAP:Hid (chK d.cs d.ss.length k/\ThC wr (w.heap.size+1) d.cs k/\Dk10 wr w.heap.size d/\Below w.heap.size w wr):=⟨hch,hth,hx,hbel⟩;obtain ⟨x0,x1,x2,x3,x4,x5,x6,x7,x8,x9,xl⟩:=hx;clear hch hth
  by_cases hlt:k<d.cs.length
  ·obtain ⟨b,off,hca,hbl,hc⟩:=(HB.out.chn.below hbel nl).2 (by omega)
   have c0:=hc k hlt;have HY:Hid (∀ y,d.cs.getD k 0=y->(¬(2<=y/\y<(d.ss.length:Int))->¬chK d.cs d.ss.length d.cs.length)/\((∃ i,i<k/\d.cs.getD i 0=y)->¬chK d.cs d.ss.length d.cs.length)/\(2<=y/\y<d.ss.length->(¬∃ i,i<k/\d.cs.getD i 0=y)->chK d.cs d.ss.length (k+1))):=fun y hy=>by
    refine ⟨fun h hG=>by have:=(hG k hlt).1;rw [hy] at this;exact h this,fun h hG=>?_,fun h1 h2=>zbg HAP.out.1 (by rw [hy];exact h1) (fun j hj e=>h2 ⟨j,hj,e.trans hy⟩)⟩
    obtain ⟨i,hi,e⟩:=h;exact (hG k hlt).2 i hi (e.trans hy.symm)
   have hyk:∃ y,d.cs.getD k 0=y:=⟨_,rfl⟩;obtain ⟨y,hy⟩:=hyk;obtain ⟨hy1,hy2,hy3⟩:=HY.out y hy;have HYE:Hid (d.cs.getD k 0=y/\True):=⟨hy,trivial⟩;rw [hy] at c0;rw [hca] at x6 ⊢;clear hc HY hy
   by_cases hy2':y<2
   ·have HF:Hid (¬chK d.cs d.ss.length d.cs.length):=hy1 (by omega)
    clear hy1 hy2 hy3;go_wp2;go_ret;exact ⟨.inr ⟨HF.out,rfl⟩,HAP.out.2.2.2⟩
   have HH:=z7c d.sa d.pa d.sc d.pc d.ss.length d.ps.length y wr (by omega)
   have hdb:decide (0<=y/\y<(d.ss.length:Int))=decide (y<(d.ss.length:Int)):=by
    by_cases h:y<(d.ss.length:Int)
    ·rw [decide_eq_true h,decide_eq_true ⟨by omega,h⟩]
    ·rw [decide_eq_false h,decide_eq_false (fun h2=>h h2.2)]
   rw [hdb] at HH;clear hdb
   by_cases hyr:y<(d.ss.length:Int)
   rotate_left
   ·have HF:Hid (¬chK d.cs d.ss.length d.cs.length):=hy1 (fun h=>hyr h.2)
    rw [decide_eq_false hyr] at HH;clear hy1 hy2 hy3;go_wp2_with fail
    refine HH.mono ?_;clear HH;rintro e w1 ⟨rfl,hb1⟩;have HB1:Hid (Below w.heap.size w w1):=HAP.out.2.2.2.trans (hb1.mono HAP.out.2.2.2.size);clear hb1;go_wp2;go_ret;exact ⟨.inr ⟨HF.out,rfl⟩,HB1.out⟩
   rw [decide_eq_true hyr] at HH;obtain ⟨q,rfl⟩:=Int.eq_ofNat_of_zero_le (show 0<=y by omega)
   have hq24:q<24:=by omega
   go_wp2_with fail
   refine HH.mono ?_;clear HH;rintro e w1 ⟨rfl,hb1⟩;have hth1:=HAP.out.2.1.below hb1;have HW1:Hid (ThC w1 (w.heap.size+1) d.cs k/\Dk10 w1 w.heap.size d/\Below w.heap.size w w1):=⟨hth1,HAP.out.2.2.1.step hb1,HAP.out.2.2.2.trans (hb1.mono HAP.out.2.2.2.size)⟩;obtain ⟨hfz,t,hct,hti⟩:=hth1.2 q hq24;have HTI:Hid (t=true↔∃ j,j<k/\d.cs.getD j 0=(q:Nat)):=hti;clear hb1 hth1 hti x0 x1 x2 x3 x4 x5 x6 x7 x8 x9 xl c0
   cases t with
   | true=>
    have HF:Hid (¬chK d.cs d.ss.length d.cs.length):=hy2 (HTI.out.1 rfl);clear hy1 hy2 hy3;go_wp2;go_ret;exact ⟨.inr ⟨HF.out,rfl⟩,HW1.out.2.2⟩
   | false=>
    have HF:Hid (chK d.cs d.ss.length (k+1)):=hy3 ⟨by omega,by omega⟩ (fun h=>by have:=HTI.out.2 h;cases this)
    have hon:Only (fun x=>x=w.heap.size+1) w1 (w1.setCell ⟨w.heap.size+1,q,none⟩ (.bool true)):=(Only.refl (fun x=>x=w.heap.size+1) w1).setCell (p:=⟨w.heap.size+1,q,none⟩) (.inl rfl) _
    have HN:Hid (ThC (w1.setCell ⟨w.heap.size+1,q,none⟩ (.bool true)) (w.heap.size+1) d.cs (k+1)/\Dk10 (w1.setCell ⟨w.heap.size+1,q,none⟩ (.bool true)) w.heap.size d/\Below w.heap.size w (w1.setCell ⟨w.heap.size+1,q,none⟩ (.bool true))):=
     ⟨HW1.out.1.put HYE.out.1 hq24,HW1.out.2.1.keep (hon.below (B:=w.heap.size+1) (by have:=HW1.out.1.1;omega) (fun k hk=>by omega)) (by omega),HW1.out.2.2.setCell (by simp) _⟩
    clear hy1 hy2 hy3 hon;go_wp2;go_roundw
    case rel=>exact ⟨k+1,by omega,by go_num,HF.out,HN.out.1,HN.out.2.1,HN.out.2.2⟩
    case measure=>simp [intOf];omega
  ·have hkn:k=d.cs.length:=by omega
   subst hkn;go_wp2;go_ret;exact ⟨.inl ⟨HAP.out.1,rfl⟩,HAP.out.2.2.2⟩
theorem zdc {ps:List (Int × Int)} (h:zp ps=true) (i:Nat) (hi:i<ps.length):0<=(ps.getD i dp).1:=by
 unfold zp at h
 simp only [Bool.and_eq_true] at h
 have h1:=zge ps ps.length (i+1) h.2 hi
 simp only [okT,Bool.and_eq_true] at h1
 have h2:=h1.2;unfold z0j nwh rgt at h2
 simp only [Bool.or_eq_true,Bool.and_eq_true,beq_iff_eq,decide_eq_true_eq] at h2
 omega
theorem zd0 (d:DkV) (w:World) (hb:DkI w d) (hd:DkF d) :
  Calls Tryz.prog 89 #[.agg #[.slice d.sa d.ss.length d.sc,.slice d.pa d.ps.length d.pc,.int .i64 d.E,.int .i64 d.O,.slice d.ma d.ms.length d.mc,.slice d.va d.vs.length d.vc,.slice d.ca d.cs.length d.cc,.int .i64 d.F,.int .i64 d.G,.slice d.oa d.os.length d.oc]] w fun r w'=>(((zp d.ms=true/\zp d.vs=true/\d.ms.length=d.vs.length/\gmB d.ms.length d.ss.length=true/\¬zy d.ms d.ss.length d.ms.length/\¬zy d.vs d.ss.length d.vs.length)/\r=.returned (.bool true))\/(¬(zp d.ms=true/\zp d.vs=true/\d.ms.length=d.vs.length/\gmB d.ms.length d.ss.length=true/\¬zy d.ms d.ss.length d.ms.length/\¬zy d.vs d.ss.length d.vs.length)/\r=.returned (.bool false)))/\Below w.heap.size w w':=by
 have HW0:Hid (Below w.heap.size w (w.alloc (Obj.cells #[.slice d.sa d.ss.length d.sc,.slice d.pa d.ps.length d.pc,.int .i64 d.E,.int .i64 d.O,.slice d.ma d.ms.length d.mc,.slice d.va d.vs.length d.vc,.slice d.ca d.cs.length d.cc,.int .i64 d.F,.int .i64 d.G,.slice d.oa d.os.length d.oc] 49))):=ba;have hx0:=Dk10.new w d 49;generalize hRP:(fun (r:Ending) (w':World)=>(((zp d.ms=true/\zp d.vs=true/\d.ms.length=d.vs.length/\gmB d.ms.length d.ss.length=true/\¬zy d.ms d.ss.length d.ms.length/\¬zy d.vs d.ss.length d.vs.length)/\r=.returned (.bool true))\/(¬(zp d.ms=true/\zp d.vs=true/\d.ms.length=d.vs.length/\gmB d.ms.length d.ss.length=true/\¬zy d.ms d.ss.length d.ms.length/\¬zy d.vs d.ss.length d.vs.length)/\r=.returned (.bool false)))/\Below w.heap.size w w')=RP
 have HNO:Hid (∀ W,¬(zp d.ms=true/\zp d.vs=true/\d.ms.length=d.vs.length/\gmB d.ms.length d.ss.length=true/\¬zy d.ms d.ss.length d.ms.length/\¬zy d.vs d.ss.length d.vs.length)->Below w.heap.size w W->RP (.returned (.bool false)) W):=fun W h hW=>by rw [<-hRP];exact ⟨.inr ⟨h,rfl⟩,hW⟩
 have HYES:Hid (∀ W,(zp d.ms=true/\zp d.vs=true/\d.ms.length=d.vs.length/\gmB d.ms.length d.ss.length=true/\¬zy d.ms d.ss.length d.ms.length/\¬zy d.vs d.ss.length d.vs.length)->Below w.heap.size w W->RP (.returned (.bool true)) W):=fun W h hW=>by rw [<-hRP];exact ⟨.inl ⟨h,rfl⟩,hW⟩
 clear hRP;have HB:Hid (DkI w d):=hb;have hm1:=hd.ms;have hm2:=hd.vs;have hm3:=hd.raw.n;have H1:=z41 d.ma d.mc d.ms _ (hb.map.below HW0.out nl) hd.ms;clear hb hd
 go_enter Tryz.func89,Tryz.ntmps89
 go_wp2_with fail
 generalize (w.alloc (Obj.cells #[.slice d.sa d.ss.length d.sc,.slice d.pa d.ps.length d.pc,.int .i64 d.E,.int .i64 d.O,.slice d.ma d.ms.length d.mc,.slice d.va d.vs.length d.vc,.slice d.ca d.cs.length d.cc,.int .i64 d.F,.int .i64 d.G,.slice d.oa d.os.length d.oc] 49))=w0 at *;refine H1.mono ?_;clear H1;rintro e w1 ⟨rfl,hb1⟩;have hx1:=hx0.step hb1;have HW1:Hid (Below w.heap.size w w1):=HW0.out.trans (hb1.mono HW0.out.size)
 clear hb1 hx0 HW0
 by_cases g1:zp d.ms=true
 rotate_left
 ·have g':zp d.ms=false:=by simpa using g1
  rw [g'];have HF:Hid (RP (.returned (.bool false)) w1):=HNO.out _ (fun h=>g1 h.1) HW1.out
  clear HB HNO HYES;go_wp2;exact HF.out
 rw [g1];obtain ⟨x0,x1,x2,x3,x4,x5,x6,x7,x8,x9,xl⟩:=id hx1;have H2:=z41 d.va d.vc d.vs w1 (HB.out.sav.below HW1.out nl) hm2;go_wp2_with fail
 clear x0 x1 x2 x3 x4 x5 x6 x7 x8 x9 xl;refine H2.mono ?_;clear H2;rintro e w2 ⟨rfl,hb2⟩;have hx2:=hx1.step hb2;have HW2:Hid (Below w.heap.size w w2):=HW1.out.trans (hb2.mono HW1.out.size);clear hb2 hx1 HW1
 by_cases g2:zp d.vs=true
 rotate_left
 ·have g':zp d.vs=false:=by simpa using g2
  rw [g'];have HF:Hid (RP (.returned (.bool false)) w2):=HNO.out _ (fun h=>g2 h.2.1) HW2.out
  clear HB HNO HYES;go_wp2;exact HF.out
 rw [g2];obtain ⟨x0,x1,x2,x3,x4,x5,x6,x7,x8,x9,xl⟩:=id hx2
 by_cases hlen:d.ms.length=d.vs.length
 rotate_left
 ·have hlb:((d.ms.length:Int) != (d.vs.length:Int))=true:=by rw [bne_iff_ne];omega
  have HF:Hid (RP (.returned (.bool false)) w2):=HNO.out _ (fun h=>hlen h.2.2.1) HW2.out
  clear HB HNO HYES hlen;go_wp2;exact HF.out
 have HLE:Hid (d.ms.length=d.vs.length/\True):=⟨hlen,trivial⟩;have hlb:((d.ms.length:Int) != (d.vs.length:Int))=false:=by rw [bne_eq_false_iff_eq];omega
 clear hlen;have H4:=z8e d.ms.length d.ss.length w2;go_wp2_with fail
 refine H4.mono ?_;clear H4;rintro e w3 ⟨rfl,rfl⟩
 by_cases g4:gmB d.ms.length d.ss.length=true
 rotate_left
 ·have g':gmB d.ms.length d.ss.length=false:=by simpa using g4
  rw [g'];have HF:Hid (RP (.returned (.bool false)) w3):=HNO.out _ (fun h=>g4 h.2.2.2.1) HW2.out
  clear HB HNO HYES;go_wp2;exact HF.out
 rw [g4];have H5:=z3y d.sa d.pa d.sc d.pc d.ss.length d.ps.length d.ma d.mc d.ms w3 hm3 (HB.out.map.below HW2.out nl) hm1;go_wp2_with fail
 clear x0 x1 x2 x3 x4 x5 x6 x7 x8 x9 xl;refine H5.mono ?_;clear H5;rintro e w5 ⟨h5,hb5⟩;have hx5:=hx2.step hb5;have HW5:Hid (Below w.heap.size w w5):=HW2.out.trans (hb5.mono HW2.out.size);clear hb5 hx2 HW2;rcases h5 with ⟨g5,rfl⟩ | ⟨g5,rfl⟩
 ·skip
  have HF:Hid (RP (.returned (.bool false)) w5):=HNO.out _ (fun h=>h.2.2.2.2.1 g5) HW5.out
  clear HB HNO HYES g5;go_wp2;exact HF.out
 have HG5:Hid (¬zy d.ms d.ss.length d.ms.length):=g5;clear g5;obtain ⟨x0,x1,x2,x3,x4,x5,x6,x7,x8,x9,xl⟩:=id hx5;have H6:=z3y d.sa d.pa d.sc d.pc d.ss.length d.ps.length d.va d.vc d.vs w5 hm3 (HB.out.sav.below HW5.out nl) hm2;go_wp2_with fail
 clear x0 x1 x2 x3 x4 x5 x6 x7 x8 x9 xl;refine H6.mono ?_;clear H6;rintro e w6 ⟨h6,hb6⟩;have hx6:=hx5.step hb6;have HW6:Hid (Below w.heap.size w w6):=HW5.out.trans (hb6.mono HW5.out.size);clear hb6 hx5 HW5;rcases h6 with ⟨g6,rfl⟩ | ⟨g6,rfl⟩
 ·skip
  have HF:Hid (RP (.returned (.bool false)) w6):=HNO.out _ (fun h=>h.2.2.2.2.2 g6) HW6.out
  clear HB HNO HYES g6;go_wp2;exact HF.out
 have HF:Hid (RP (.returned (.bool true)) w6):=HYES.out _ ⟨g1,g2,HLE.out.1,g4,HG5.out,g6⟩ HW6.out;clear HB HNO HYES g6;go_wp2;exact HF.out
theorem zaj (f:List Int->Option (List Int)) (hf:z1b f) (d:DkV) (w:World) (hb:DkI w d) (hi:ItI w d.oa d.os) (hd:DkF d) (hS:SentB w) :
  Calls Tryz.prog 91 #[.agg #[.slice d.sa d.ss.length d.sc,.slice d.pa d.ps.length d.pc,.int .i64 d.E,.int .i64 d.O,.slice d.ma d.ms.length d.mc,.slice d.va d.vs.length d.vc,.slice d.ca d.cs.length d.cc,.int .i64 d.F,.int .i64 d.G,.slice d.oa d.os.length d.oc]] w fun r w'=>(((PkR f d.F d.G d.os/\d.F=0/\d.G=0/\¬z0t d.os d.ms.length d.os.length)/\r=.returned (.bool true))\/(¬(PkR f d.F d.G d.os/\d.F=0/\d.G=0/\¬z0t d.os d.ms.length d.os.length)/\r=.returned (.bool false)))/\Below w.heap.size w w':=by
 have hmf:∀ (fn:Fn) (first cap:Array Value) (w:World),(Instr.makeFunc fn first cap).run Tryz.prog w=.ok (.func fn first cap) w:=fun _ _ _ _=>rfl
 have HW0:Hid (Below w.heap.size w (w.alloc (Obj.cells #[.slice d.sa d.ss.length d.sc,.slice d.pa d.ps.length d.pc,.int .i64 d.E,.int .i64 d.O,.slice d.ma d.ms.length d.mc,.slice d.va d.vs.length d.vc,.slice d.ca d.cs.length d.cc,.int .i64 d.F,.int .i64 d.G,.slice d.oa d.os.length d.oc] 49))):=ba;have hx0:=Dk10.new w d 49;generalize hRP:(fun (r:Ending) (w':World)=>(((PkR f d.F d.G d.os/\d.F=0/\d.G=0/\¬z0t d.os d.ms.length d.os.length)/\r=.returned (.bool true))\/(¬(PkR f d.F d.G d.os/\d.F=0/\d.G=0/\¬z0t d.os d.ms.length d.os.length)/\r=.returned (.bool false)))/\Below w.heap.size w w')=RP
 have HNO:Hid (∀ W,¬(PkR f d.F d.G d.os/\d.F=0/\d.G=0/\¬z0t d.os d.ms.length d.os.length)->Below w.heap.size w W->RP (.returned (.bool false)) W):=fun W h hW=>by rw [<-hRP];exact ⟨.inr ⟨h,rfl⟩,hW⟩
 have HYES:Hid (∀ W,(PkR f d.F d.G d.os/\d.F=0/\d.G=0/\¬z0t d.os d.ms.length d.os.length)->Below w.heap.size w W->RP (.returned (.bool true)) W):=fun W h hW=>by rw [<-hRP];exact ⟨.inl ⟨h,rfl⟩,hW⟩
 clear hRP;have HB:Hid (DkI w d):=hb;have hm1:=hd.ms;have hm2:=hd.opn.n;have H1:=z7y f hf d.F d.G d.oa d.oc d.os _ (hi.below HW0.out nl) hd.opn.j (hS.below HW0.out);clear hb hd hi hS hf
 go_enter Tryz.func91,Tryz.ntmps91
 go_wp2_with fail
 generalize (w.alloc (Obj.cells #[.slice d.sa d.ss.length d.sc,.slice d.pa d.ps.length d.pc,.int .i64 d.E,.int .i64 d.O,.slice d.ma d.ms.length d.mc,.slice d.va d.vs.length d.vc,.slice d.ca d.cs.length d.cc,.int .i64 d.F,.int .i64 d.G,.slice d.oa d.os.length d.oc] 49))=w0 at *;refine H1.mono ?_;clear H1;rintro e w1 ⟨h1,hb1⟩;have hx1:=hx0.step hb1;have HW1:Hid (Below w.heap.size w w1):=HW0.out.trans (hb1.mono HW0.out.size)
 clear hb1 hx0 HW0;rcases h1 with ⟨g1,rfl⟩ | ⟨g1,rfl⟩
 rotate_left
 ·skip
  have HF:Hid (RP (.returned (.bool false)) w1):=HNO.out _ (fun h=>g1 h.1) HW1.out
  clear HB HNO HYES g1;go_wp2;exact HF.out
 have HG1:Hid (PkR f d.F d.G d.os):=g1;clear g1;obtain ⟨x0,x1,x2,x3,x4,x5,x6,x7,x8,x9,xl⟩:=id hx1
 by_cases hzF:d.F=0
 rotate_left
 ·have hzb:(d.F != 0)=true:=by rw [bne_iff_ne];exact hzF
  have HF:Hid (RP (.returned (.bool false)) w1):=HNO.out _ (fun h=>hzF h.2.1) HW1.out
  clear HB HNO HYES hzF;go_wp2;exact HF.out
 have HZF:Hid (d.F=0/\True):=⟨hzF,trivial⟩;have hzbF:(d.F != 0)=false:=by rw [hzF];rfl
 clear hzF
 by_cases hzG:d.G=0
 rotate_left
 ·have hzb:(d.G != 0)=true:=by rw [bne_iff_ne];exact hzG
  have HF:Hid (RP (.returned (.bool false)) w1):=HNO.out _ (fun h=>hzG h.2.2.1) HW1.out
  clear HB HNO HYES hzG;go_wp2;exact HF.out
 have HZG:Hid (d.G=0/\True):=⟨hzG,trivial⟩;have hzbG:(d.G != 0)=false:=by rw [hzG];rfl
 clear hzG;have H2:=z7n w.heap.size d.ma d.mc d.ms.length d.oa d.oc d.os w1 x4 xl hm1 (HB.out.opn.below HW1.out nl) hm2;go_wp2_with fail
 clear x0 x1 x2 x3 x4 x5 x6 x7 x8 x9 xl;refine H2.mono ?_;clear H2;rintro e w2 ⟨h2,hb2⟩;have hx2:=hx1.step hb2;have HW2:Hid (Below w.heap.size w w2):=HW1.out.trans (hb2.mono HW1.out.size);clear hb2 hx1 HW1;rcases h2 with ⟨g2,rfl⟩ | ⟨g2,rfl⟩
 ·skip
  have HF:Hid (RP (.returned (.bool false)) w2):=HNO.out _ (fun h=>h.2.2.2 g2) HW2.out
  clear HB HNO HYES g2;go_wp2;exact HF.out
 have HF:Hid (RP (.returned (.bool true)) w2):=HYES.out _ ⟨HG1.out,HZF.out.1,HZG.out.1,g2⟩ HW2.out;clear HB HNO HYES g2;go_wp2;exact HF.out
theorem DkG.parts {f:List Int->Option (List Int)} {d:DkV}:DkG f d↔rok d.ss d.ps=true/\(0<=d.E/\d.E<=60000)/\(0<=d.O/\d.O<=60000)/\(zp d.ms=true/\zp d.vs=true/\d.ms.length=d.vs.length/\gmB d.ms.length d.ss.length=true/\¬zy d.ms d.ss.length d.ms.length/\¬zy d.vs d.ss.length d.vs.length)/\chK d.cs d.ss.length d.cs.length/\(PkR f d.F d.G d.os/\d.F=0/\d.G=0/\¬z0t d.os d.ms.length d.os.length):=by
 constructor
 ·intro h
  exact ⟨h.raw,h.e,h.o,⟨h.map,h.sav,h.len,h.geo,fun ⟨i,hi,hn⟩=>hn ⟨zdc h.map i hi,h.pm i hi⟩,fun ⟨i,hi,hn⟩=>hn ⟨zdc h.sav i hi,h.ps i hi⟩⟩,h.ch,h.op,h.f0,h.g0,fun ⟨i,hi,hn⟩=>by have:=h.ad i hi;omega⟩
 ·rintro ⟨h1,h2,h3,⟨m1,m2,m3,m4,m5,m6⟩,h5,o1,o2,o3,o4⟩
  refine ⟨h1,m1,m2,m3,m4,fun i hi=>?_,fun i hi=>?_,h2,h3,h5,o1,o2,o3,fun i hi=>?_⟩
  ·rcases Int.lt_or_le (d.ms.getD i dp).1 d.ss.length with h | h
   ·exact h
   ·exact absurd ⟨i,hi,fun h2=>by omega⟩ m5
  ·rcases Int.lt_or_le (d.vs.getD i dp).1 d.ss.length with h | h
   ·exact h
   ·exact absurd ⟨i,hi,fun h2=>by omega⟩ m6
  ·rcases Int.lt_or_le (d.os.getD i de).n d.ms.length with h | h
   ·exact h
   ·exact absurd ⟨i,hi,h⟩ o4
theorem z7f (f:List Int->Option (List Int)) (hf:z1b f) (d:DkV) (w:World) (hb:DkI w d) (hi:ItI w d.oa d.os) (hd:DkF d) (hS:SentB w) :
  Calls Tryz.prog 50 #[.agg #[.slice d.sa d.ss.length d.sc,.slice d.pa d.ps.length d.pc,.int .i64 d.E,.int .i64 d.O,.slice d.ma d.ms.length d.mc,.slice d.va d.vs.length d.vc,.slice d.ca d.cs.length d.cc,.int .i64 d.F,.int .i64 d.G,.slice d.oa d.os.length d.oc]] w (DkA f d w):=by
 unfold DkA;have HW0:Hid (Below w.heap.size w (w.alloc (Obj.cells #[.slice d.sa d.ss.length d.sc,.slice d.pa d.ps.length d.pc,.int .i64 d.E,.int .i64 d.O,.slice d.ma d.ms.length d.mc,.slice d.va d.vs.length d.vc,.slice d.ca d.cs.length d.cc,.int .i64 d.F,.int .i64 d.G,.slice d.oa d.os.length d.oc] 49))):=ba;have hx0:=Dk10.new w d 49;generalize hRP:(fun (r:Ending) (w':World)=>((DkG f d/\r=.returned (.bool true))\/(¬DkG f d/\r=.returned (.bool false)))/\Below w.heap.size w w')=RP
 have HNO:Hid (∀ W,¬DkG f d->Below w.heap.size w W->RP (.returned (.bool false)) W):=fun W h hW=>by rw [<-hRP];exact ⟨.inr ⟨h,rfl⟩,hW⟩
 have HYES:Hid (∀ W,DkG f d->Below w.heap.size w W->RP (.returned (.bool true)) W):=fun W h hW=>by rw [<-hRP];exact ⟨.inl ⟨h,rfl⟩,hW⟩
 clear hRP;have HB:Hid (DkI w d/\ItI w d.oa d.os/\DkF d/\SentB w/\z1b f):=⟨hb,hi,hd,hS,hf⟩;have H1:=z3x d.sa d.pa d.sc d.pc d.ss d.ps _ (hb.raw.below HW0.out nl) (by have:=hd.raw.n;omega) (by have:=hd.raw.m;omega) (fun s hs=>by have:=hd.raw.l s hs;omega) (fun s hs=>by have:=hd.raw.p s hs;omega)
 clear hb hd hi hS hf
 go_enter Tryz.func50,Tryz.ntmps50
 go_wp2_with fail
 generalize (w.alloc (Obj.cells #[.slice d.sa d.ss.length d.sc,.slice d.pa d.ps.length d.pc,.int .i64 d.E,.int .i64 d.O,.slice d.ma d.ms.length d.mc,.slice d.va d.vs.length d.vc,.slice d.ca d.cs.length d.cc,.int .i64 d.F,.int .i64 d.G,.slice d.oa d.os.length d.oc] 49))=w0 at *;refine H1.mono ?_;clear H1;rintro e w1 ⟨rfl,hb1⟩;have hx1:=hx0.step hb1;have HW1:Hid (Below w.heap.size w w1):=HW0.out.trans (hb1.mono HW0.out.size)
 clear hb1 hx0 HW0
 by_cases g1:rok d.ss d.ps=true
 rotate_left
 ·have g':rok d.ss d.ps=false:=by simpa using g1
  rw [g'];have HF:Hid (RP (.returned (.bool false)) w1):=HNO.out _ (fun h=>g1 h.raw) HW1.out
  clear HB HNO HYES;go_wp2;exact HF.out
 rw [g1];obtain ⟨x0,x1,x2,x3,x4,x5,x6,x7,x8,x9,xl⟩:=id hx1;have HEE:=z07 d.E w1
 by_cases gE:0<=d.E/\d.E<=60000
 rotate_left
 ·rw [decide_eq_false gE] at HEE
  have HF:Hid (RP (.returned (.bool false)) w1):=HNO.out _ (fun h=>gE h.e) HW1.out
  clear HB HNO HYES gE;go_wp2_with fail
  refine HEE.mono ?_;clear HEE;rintro e w2 ⟨rfl,rfl⟩;go_wp2;exact HF.out
 rw [decide_eq_true gE] at HEE;have HGE:Hid (0<=d.E/\d.E<=60000):=gE;clear gE;go_wp2_with fail
 refine HEE.mono ?_;clear HEE;rintro e w2 ⟨rfl,rfl⟩;have HEO:=z07 d.O w2
 by_cases gO:0<=d.O/\d.O<=60000
 rotate_left
 ·rw [decide_eq_false gO] at HEO
  have HF:Hid (RP (.returned (.bool false)) w2):=HNO.out _ (fun h=>gO h.o) HW1.out
  clear HB HNO HYES gO;go_wp2_with fail
  refine HEO.mono ?_;clear HEO;rintro e w2 ⟨rfl,rfl⟩;go_wp2;exact HF.out
 rw [decide_eq_true gO] at HEO;have HGO:Hid (0<=d.O/\d.O<=60000):=gO;clear gO;go_wp2_with fail
 refine HEO.mono ?_;clear HEO;rintro e w3 ⟨rfl,rfl⟩;have H4:=zd0 d _ (HB.out.1.below HW1.out nl) HB.out.2.2.1;go_wp2_with fail
 clear x0 x1 x2 x3 x4 x5 x6 x7 x8 x9 xl;refine H4.mono ?_;clear H4;rintro e w4 ⟨h4,hb4⟩;have hx4:=hx1.step hb4;have HW4:Hid (Below w.heap.size w w4):=HW1.out.trans (hb4.mono HW1.out.size);clear hb4 hx1 HW1;rcases h4 with ⟨g4,rfl⟩ | ⟨g4,rfl⟩
 rotate_left
 ·skip
  have HF:Hid (RP (.returned (.bool false)) w4):=HNO.out _ (fun h=>g4 (DkG.parts.1 h).2.2.2.1) HW4.out
  clear HB HNO HYES g4;go_wp2;exact HF.out
 have HG4:Hid (zp d.ms=true/\zp d.vs=true/\d.ms.length=d.vs.length/\gmB d.ms.length d.ss.length=true/\¬zy d.ms d.ss.length d.ms.length/\¬zy d.vs d.ss.length d.vs.length):=g4;have hn24:d.ss.length<=24:=by
  have:=g4.2.2.2.1;unfold gmB at this;have:=of_decide_eq_true this
  omega
 clear g4;obtain ⟨x0,x1,x2,x3,x4,x5,x6,x7,x8,x9,xl⟩:=id hx4;have H5:=z9i d w4 (HB.out.1.below HW4.out nl) hn24 HB.out.2.2.1.cs;go_wp2_with fail
 clear x0 x1 x2 x3 x4 x5 x6 x7 x8 x9 xl;refine H5.mono ?_;clear H5;rintro e w5 ⟨h5,hb5⟩;have hx5:=hx4.step hb5;have HW5:Hid (Below w.heap.size w w5):=HW4.out.trans (hb5.mono HW4.out.size);clear hb5 hx4 HW4;rcases h5 with ⟨g5,rfl⟩ | ⟨g5,rfl⟩
 rotate_left
 ·skip
  have HF:Hid (RP (.returned (.bool false)) w5):=HNO.out _ (fun h=>g5 h.ch) HW5.out
  clear HB HNO HYES g5;go_wp2;exact HF.out
 have HG5:Hid (chK d.cs d.ss.length d.cs.length):=g5;clear g5;obtain ⟨x0,x1,x2,x3,x4,x5,x6,x7,x8,x9,xl⟩:=id hx5;have H6:=zaj f HB.out.2.2.2.2 d w5 (HB.out.1.below HW5.out nl) (HB.out.2.1.below HW5.out nl) HB.out.2.2.1 (HB.out.2.2.2.1.below HW5.out);go_wp2_with fail
 clear x0 x1 x2 x3 x4 x5 x6 x7 x8 x9 xl;refine H6.mono ?_;clear H6;rintro e w6 ⟨h6,hb6⟩;have hx6:=hx5.step hb6;have HW6:Hid (Below w.heap.size w w6):=HW5.out.trans (hb6.mono HW5.out.size);clear hb6 hx5 HW5;rcases h6 with ⟨g6,rfl⟩ | ⟨g6,rfl⟩
 rotate_left
 ·skip
  have HF:Hid (RP (.returned (.bool false)) w6):=HNO.out _ (fun h=>g6 (DkG.parts.1 h).2.2.2.2.2) HW6.out
  clear HB HNO HYES g6;go_wp2;exact HF.out
 have HF:Hid (RP (.returned (.bool true)) w6):=HYES.out _ (DkG.parts.2 ⟨g1,HGE.out,HGO.out,HG4.out,HG5.out,g6⟩) HW6.out;clear HB HNO HYES g6;go_wp2;exact HF.out
theorem zcd (x y:Int) (w:World) :
  Calls Tryz.prog 124 #[.agg #[.int .i64 x,.int .i64 y]] w fun e w'=>e=.returned (.agg #[.int .i64 x,.int .i64 y])/\Below w.heap.size w w':=by
 go_enter Tryz.func124,Tryz.ntmps124
 go_wp2
 refine bodyPost_ret (v:=.agg #[.int .i64 x,.int .i64 y]) (by simp [results,Tryz.results124,go_sem]) rfl ⟨rfl,?_⟩
 repeat (refine Below.setCell ?_ (by first | (simp;done) | (simp;omega)) _)
 exact (((Below.refl _ _).alloc nl _).alloc (by simp) _).alloc (by simp;omega) _
def z0b (ps:List (Int × Int)) (k:Nat):List (Int × Int):=ps.take k++List.replicate (ps.length-k) dp
theorem zfy (ps:List (Int × Int)) (k:Nat) (h:k<=ps.length):(z0b ps k).length=ps.length:=by simp [z0b];omega
theorem zfw (ps:List (Int × Int)):z0b ps ps.length=ps:=by simp [z0b]
theorem zew (ps:List (Int × Int)):z0b ps 0=List.replicate ps.length dp:=by simp [z0b]
theorem zgb (ps:List (Int × Int)) (k:Nat) (h:k<ps.length):(z0b ps k).set k (ps.getD k dp)=z0b ps (k+1):=by
 unfold z0b;rw [List.set_append_right _ _ (by simp;omega),List.length_take,Nat.min_eq_left (by omega),Nat.sub_self,show ps.length-k=(ps.length-(k+1))+1 from by omega,List.replicate_succ,List.set_cons_zero,List.take_succ_eq_append_getElem h,List.append_assoc]
 simp [List.getD_eq_getElem?_getD,List.getElem?_eq_getElem h]
theorem zae (a:Option Addr) (cap:Nat) (ps:List (Int × Int)) (w:World) (hb:Pls w a ps) (hn:ps.length<=1048576) :
  Calls Tryz.prog 85 #[.slice a ps.length cap] w fun e w'=>
   e=.returned (.slice (some ⟨w.heap.size,0,none⟩) ps.length ps.length)/\OwP w' w.heap.size w.heap.size ps.length ps/\Below w.heap.size w w':=by
 obtain ⟨i0,hi,hz0,hz1,hz2⟩:=info_parts Tryz.infoPl;have HSS:Hid (Pls w a ps):=hb;clear hb;generalize hlen:ps.length=n at *;have HL:Hid (ps.length=n/\True):=⟨hlen,trivial⟩;clear hlen
 go_enter Tryz.func85,Tryz.ntmps85
 go_wp2_with (at_make;refine wpList_make_full _ rfl _ _ 42 rfl w.heap.size 127 i0 (.agg #[.int .i64 0,.int .i64 0]) 2 Tryz.underlying42 hi hz0 hz1 .i64 .i64 _ _ n rfl rfl rfl rfl (by rw [hz2];omega) (by unfold maxLen;omega) nl ?_;intro w1 hown hgrow)
 have hbw:Below w.heap.size w w1:=(Below.refl _ _).grown hgrow nl (by intro k hk;cases hk)
 have H0:Hid (OwP w1 w.heap.size w.heap.size n (z0b ps 0)):=by
  rw [zew,HL.out.1];exact OwP.made hown
 clear hown hgrow hi hz0 hz1 hz2
 go_loopw [4] (fun i wr=>∃ (k:Nat),k<=n/\i=.int .i64 k/\OwP wr w.heap.size w.heap.size n (z0b ps k)/\Below w.heap.size w wr) (fun i _=>n-(intOf i).toNat)
 case atStart=>exact ⟨0,Nat.zero_le _,rfl,H0.out,hbw⟩
 case round=>
  clear H0 hbw;obtain ⟨k,hk,rfl,hown,hbel⟩:=hrel;have HO:Hid (OwP wr w.heap.size w.heap.size n (z0b ps k)):=hown;clear hown
  by_cases hlt:k<n
  ·obtain ⟨b,off,rfl,hb1,hc1⟩:=(HSS.out.below hbel nl).len_pos k (by rw [HL.out.1];exact hlt)
   obtain ⟨c0,c1⟩:=hc1 k (by rw [HL.out.1];exact hlt)
   have HRG:Hid (rP (ps.getD k dp)):=HSS.out.rng k (by rw [HL.out.1];exact hlt)
   have HST:Hid ((z0b ps k).set k (ps.getD k dp)=z0b ps (k+1)/\(z0b ps k).length=n):=⟨zgb ps k (by rw [HL.out.1];exact hlt),by rw [zfy ps k (by rw [HL.out.1];omega),HL.out.1]⟩
   clear hc1;generalize ps.getD k dp=p at *;obtain ⟨x,y⟩:=p
   simp only at c0 c1
   go_wp2_with fail
   refine (zcd x y _).mono ?_;rintro e w2 ⟨rfl,hb2⟩;have hb3:=hbel.trans (hb2.mono hbel.size);have HO2:Hid (OwP w2 w.heap.size w.heap.size n (z0b ps k)):=OVp.below HO.out hb2;obtain ⟨d0,d1⟩:=HO2.out.cell k (by rw [HST.out.2];exact hlt)
   have f0:=HO2.out.frozen (k*2);have f1:=HO2.out.frozen (k*2+1);have HR:Hid (OwP ((w2.setCell ⟨w.heap.size,k*2,none⟩ (.int .i64 x)).setCell ⟨w.heap.size,k*2+1,none⟩ (.int .i64 y)) w.heap.size w.heap.size n (z0b ps (k+1))):=by
    have:=HO2.out.store k (by rw [HST.out.2];exact hlt) (x,y) HRG.out
    rw [HST.out.1] at this;exact this
   have HB:Hid (Below w.heap.size w ((w2.setCell ⟨w.heap.size,k*2,none⟩ (.int .i64 x)).setCell ⟨w.heap.size,k*2+1,none⟩ (.int .i64 y))):=(hb3.setCell (p:=⟨w.heap.size,_,none⟩) nl _).setCell (p:=⟨w.heap.size,_,none⟩) nl _;generalize ((z0b ps k).getD k dp).1=o0 at *;generalize ((z0b ps k).getD k dp).2=o1 at *;clear hb2 hb3 hbel c0 c1 HO HO2;go_wp2;go_roundw
   case rel=>exact ⟨k+1,by omega,by go_num,HR.out,HB.out⟩
   case measure=>simp [intOf];omega
  ·have hkn:k=n:=by omega
   subst hkn;have HA:Hid (OwP wr w.heap.size w.heap.size k ps):=by
    have:=HO.out;rw [show z0b ps k=ps from by rw [<-HL.out.1];exact zfw ps] at this
    exact this
   clear HO;go_wp2;go_ret;exact ⟨rfl,HA.out,hbel⟩
theorem z9c (a:Option Addr) (cap:Nat) (ps:List (Int × Int)) (w:World) (hb:Pls w a ps) (hn:ps.length<=1048576) :
  Calls Tryz.prog 47 #[.agg #[.slice a ps.length cap]] w fun e w'=>
   ∃ g,e=.returned (.agg #[.slice (some ⟨g,0,none⟩) ps.length ps.length])/\OwP w' w.heap.size g ps.length ps/\Below w.heap.size w w':=by
 go_enter Tryz.func47,Tryz.ntmps47
 go_wp2_with fail
 have hw:Below w.heap.size w (((w.alloc (Obj.cells #[.slice a ps.length cap] 28)).alloc (Obj.cells #[.slice none 0 0] 44)).alloc (Obj.cells #[.slice none 0 0] 44)):=
  (((Below.refl _ _).alloc nl _).alloc (by simp) _).alloc (by simp;omega) _
 refine (zae a cap ps _ (hb.below hw nl) hn).mono ?_;rintro e w1 ⟨rfl,hown,hbel⟩;obtain ⟨hc,hf⟩:=za8 hbel;have hz:=hbel.size;have hb2:=hw.trans (hbel.mono (by simp;omega))
 simp at hc hf hz hown
 clear hbel hw;go_wp2;refine bodyPost_ret (v:=.agg #[.slice (some ⟨w.heap.size+1+1+1,0,none⟩) ps.length ps.length]) (by simp [results,Tryz.results47,go_sem,hc]) rfl ⟨_,rfl,?_,?_⟩
 ·refine OVp.weak (B:=w.heap.size+1+1+1) ?_ (by omega)
  repeat (refine OwP.other ?_ (by simp) _)
  exact hown
 ·repeat (refine Below.setCell ?_ (by first | (simp;done) | (simp;omega)) _)
  exact hb2
theorem zeg (a:Option Addr) (cap:Nat) (zs:List Int) (w:World) (hb:Ins w a zs) (hn:zs.length<=1048576) :
  Calls Tryz.prog 48 #[.slice a zs.length cap] w fun e w'=>
   e=.returned (.slice (some ⟨w.heap.size,0,none⟩) zs.length zs.length)/\OwI w' w.heap.size w.heap.size zs.length zs/\Below w.heap.size w w':=by
 obtain ⟨i0,hi,hz0,hz1,hz2⟩:=info_parts Tryz.infoI64;generalize hlen:zs.length=n at *;have HL:Hid (zs.length=n):=hlen;clear hlen
 go_enter Tryz.func48,Tryz.ntmps48
 go_wp2_with (at_make;refine wpList_make_full _ rfl _ _ 29 rfl w.heap.size 3 i0 (.int .i64 0) 1 Tryz.underlying29 hi hz0 hz1 .i64 .i64 _ _ n rfl rfl rfl rfl (by rw [hz2];omega) (by unfold maxLen;omega) nl ?_;intro w1 hown hgrow)
 have h0:OwI w1 w.heap.size w.heap.size n (part zs 0):=by
  rw [z1z,HL.out];refine ⟨?_,by intro z hz;simp at hz;omega⟩
  rw [z0u] at hown
  simpa using hown
 have hbw:Below w.heap.size w w1:=(Below.refl _ _).grown hgrow nl (by intro k hk;cases hk)
 have H0:Hid (OwI w1 w.heap.size w.heap.size n (part zs 0)):=h0;clear h0 hown hgrow hi hz0 hz1 hz2
 go_loopw [4] (fun i wr=>∃ k:Nat,k<=n/\i=.int .i64 k/\OwI wr w.heap.size w.heap.size n (part zs k)/\Below w.heap.size w wr) (fun i _=>n-(intOf i).toNat)
 case atStart=>exact ⟨0,Nat.zero_le _,rfl,H0.out,hbw⟩
 case round=>
  obtain ⟨k,hk,rfl,hown,hbel⟩:=hrel;have HO:Hid (OwI wr w.heap.size w.heap.size n (part zs k)):=hown;clear hown hbw
  by_cases hlt:k<n
  ·obtain ⟨b,off,rfl,hbl,hcells⟩:=hb.len_pos k (by rw [HL.out];exact hlt)
   have hpl:(part zs k).length=n:=by rw [z1u _ _ (by rw [HL.out];omega)];exact HL.out
   have hsrc:wr.cell? ⟨b,off+k,none⟩=some (.int .i64 (zs.getD k 0)):=(hbel.cell (p:=⟨b,off+k,none⟩) hbl).trans (hcells k (by rw [HL.out];exact hlt))
   have hdst:=HO.out.cell k (by omega)
   have hfz:=HO.out.frozen k;have hrng:=z15 hb.1 k;have R:=HO.out.store k (zs.getD k 0) hrng;rw [z2o _ _ (by rw [HL.out];exact hlt)] at R
   have HR:Hid (OwI (wr.setCell ⟨w.heap.size,k,none⟩ (.int .i64 (zs.getD k 0))) w.heap.size w.heap.size n (part zs (k+1))):=R;have hbel':=hbel.setCell (p:=⟨w.heap.size,k,none⟩) nl (.int .i64 (zs.getD k 0));have HB:Hid (Below w.heap.size w (wr.setCell ⟨w.heap.size,k,none⟩ (.int .i64 (zs.getD k 0)))):=hbel';clear R hcells hpl hbel' hrng hb;go_wp2;go_roundw
   case rel=>exact ⟨k+1,by omega,by go_num,by simpa using HR.out,by simpa using HB.out⟩
   case measure=>simp [intOf];omega
  ·have hkn:k=n:=by omega
   subst hkn;have hall:=HO.out;rw [<-HL.out,z3t,HL.out] at hall;have HA:Hid (OwI wr w.heap.size w.heap.size k zs):=hall;clear hall;go_wp2;go_ret;exact ⟨rfl,HA.out,hbel⟩
end Go.Proofs.YtaibkchbkedjnaaGreatDoor
