/-
  Whether a disk's maps, its chain and what is open fit: the program's. (Typed by wip/mkdk.py.)
-/
import Derived.Test.YthngimdjjmhboaaGreatDoorMpSt2
import Derived.Test.YthngimdjjmhboaaGreatDoorDkI1
namespace Go.Proofs.YthngimdjjmhboaaGreatDoor
open Go.RowKit Go.Maps
set_option linter.unusedVariables false
set_option linter.unusedSimpArgs false

set_option maxRecDepth 20000 in
set_option maxHeartbeats 4000000 in
theorem atlasOf_any (a:Option Addr) (c:Nat) (ps:List (Int × Int)) (w:World) (hb:Pls w a ps) (hn:ps.length≤1048576) :
  Calls Tryz.prog 136 #[.agg #[.slice a ps.length c]] w fun e w'=>
   ((mapB ps=true∧∃ R M,e=.returned (.tuple #[.pointer (some ⟨R,0,none⟩),.bool true])∧Atl w' R M a ps.length c∧Liv w' M ps.length (liv ps ps.length)∧w.heap.size≤M)∨(mapB ps=false∧e=.returned (.tuple #[.pointer none,.bool false])))∧Below w.heap.size w w':=by
 have hw:Below w.heap.size w (w.alloc (Obj.cells #[Value.slice a ps.length c] 44)):=(Below.refl _ _).alloc (Nat.le_refl _) _
 by_cases hl:1≤ps.length∧ps.length≤16
 ·have HY:Hid (okT ps ps.length=true→mapB ps=true):=mapB_yes ps hl
  have HN:Hid (∀ k,stpP ps k=false→k<ps.length→mapB ps=false):=mapB_no ps
  have HSTL:Hid (∀ (k m:Nat) (R M:Nat) (w:World),Atl w R M a ps.length c→Pls w a ps→Liv w M m (liv ps k)→M≠R→k<ps.length→m≤1000→Calls Tryz.prog 167 #[.pointer (some ⟨R,0,none⟩),.int .i64 k] w fun e w'=>
   e=.returned (.bool (stpP ps k))∧(stpP ps k=true→Liv w' M (m+1) (liv ps (k+1))∧Atl w' R M a ps.length c)∧Below M w w'):=fun k m R M w h1 h2 h3 h4 h5 h6=>settle_any R M a c ps k m w h1 h2 h3 h4 h5 hl.2 h6
  have HB:Hid (Pls w a ps):=hb
  have HZ:Hid (liv ps 0=(fun _=>[])∧okT ps 0=true∧∀ k,okT ps k=true→stpP ps k=true→okT ps (k+1)=true):=⟨by funext s;rfl,rfl,fun k h1 h2=>by simp only [okT,h1,h2];rfl⟩
  clear hb
  generalize mapB ps=RR at *
  generalize hlen:ps.length=n at *
  clear hlen hn
  obtain ⟨hl1,hl2⟩:=hl
  have hmm:=@run_makeMap Tryz.prog
  go_enter Tryz.func136,Tryz.ntmps136
  go_wp2
  have e1:(w.alloc (Obj.cells #[Value.slice a n c] 44)).heap.size=w.heap.size+1:=by simp
  have e2:((w.alloc (Obj.cells #[Value.slice a n c] 44)).alloc (.map #[] 0)).heap.size=w.heap.size+1+1:=by simp
  have HW:Hid (Below w.heap.size w (((w.alloc (Obj.cells #[Value.slice a n c] 44)).alloc (.map #[] 0)).alloc (Obj.cells #[Value.slice a n c,.map (some (w.heap.size+1))] 180))):=
   (((Below.refl _ _).alloc (Nat.le_refl _) _).alloc (by simp) _).alloc (by simp;omega) _
  have HL0:Hid (Liv (((w.alloc (Obj.cells #[Value.slice a n c] 44)).alloc (.map #[] 0)).alloc (Obj.cells #[Value.slice a n c,.map (some (w.heap.size+1))] 180)) (w.heap.size+1) 0 (liv ps 0)):=by
   have h1:=(Liv.made (w.alloc (Obj.cells #[Value.slice a n c] 44))).below ((Below.refl _ _).alloc (Nat.le_refl _) (Obj.cells #[Value.slice a n c,.map (some (w.heap.size+1))] 180))
   rw [e1] at h1
   rw [HZ.out.1]
   exact h1
  have HA0:Hid (Atl (((w.alloc (Obj.cells #[Value.slice a n c] 44)).alloc (.map #[] 0)).alloc (Obj.cells #[Value.slice a n c,.map (some (w.heap.size+1))] 180)) (w.heap.size+1+1) (w.heap.size+1) a n c):=⟨by
   rw [←e2];exact heap_alloc_new _ _⟩
  clear e1 e2 hmm
  generalize ((w.alloc (Obj.cells #[Value.slice a n c] 44)).alloc (.map #[] 0)).alloc (Obj.cells #[Value.slice a n c,.map (some (w.heap.size+1))] 180)=W at *
  go_loopw [24] (fun i wr=>∃ k:Nat,k≤n∧i=.int .i64 k∧okT ps k=true∧Atl wr (w.heap.size+1+1) (w.heap.size+1) a n c∧Liv wr (w.heap.size+1) k (liv ps k)∧Below w.heap.size w wr) (fun i _=>n - (intOf i).toNat)
  case atStart=>exact ⟨0,Nat.zero_le _,rfl,HZ.out.2.1,HA0.out,HL0.out,HW.out⟩
  case round=>
   obtain ⟨k,hk,rfl,hok,hA,hL,hbel⟩:=hrel
   have HR:Hid (okT ps k=true∧Atl wr (w.heap.size+1+1) (w.heap.size+1) a n c∧Liv wr (w.heap.size+1) k (liv ps k)∧Below w.heap.size w wr):=⟨hok,hA,hL,hbel⟩
   clear hok hA hL hbel
   by_cases hlt:k<n
   ·have HS:=HSTL.out k k (w.heap.size+1+1) (w.heap.size+1) wr HR.out.2.1 (HB.out.below HR.out.2.2.2 (Nat.le_refl _)) HR.out.2.2.1 (by omega) hlt (by omega)
    go_wp2_with fail
    refine HS.mono ?_
    clear HS
    rintro e w1 ⟨rfl,hT,hb1⟩
    have HB1:Hid (Below w.heap.size w w1):=HR.out.2.2.2.trans (hb1.mono (by omega))
    clear hb1
    cases hst:stpP ps k with
    | true=>
     have HT:Hid (okT ps (k+1)=true∧Liv w1 (w.heap.size+1) (k+1) (liv ps (k+1))∧Atl w1 (w.heap.size+1+1) (w.heap.size+1) a n c):=⟨HZ.out.2.2 k HR.out.1 hst,hT hst⟩
     clear hT hst
     go_wp2
     go_roundw
     case rel=>exact ⟨k+1,by omega,by go_num,HT.out.1,HT.out.2.2,HT.out.2.1,HB1.out⟩
     case measure=>simp [intOf];omega
    | false=>
     have HF:Hid (RR=false∧True):=⟨HN.out k hst hlt,trivial⟩
     clear hT hst
     go_wp2
     exact bodyPost_ret (v:=.tuple #[.pointer none,.bool false]) (by simp [results,Tryz.results136,go_sem]) rfl ⟨.inr ⟨HF.out.1,rfl⟩,HB1.out⟩
   ·have hkn:k=n:=by omega
    subst hkn
    have HF:Hid (RR=true∧True):=⟨HY.out HR.out.1,trivial⟩
    go_wp2
    exact bodyPost_ret (v:=.tuple #[.pointer (some ⟨w.heap.size+1+1,0,none⟩),.bool true]) (by simp [results,Tryz.results136,go_sem]) rfl ⟨.inl ⟨HF.out.1,_,_,rfl,HR.out.2.1,HR.out.2.2.1,by omega⟩,HR.out.2.2.2⟩
 ·have HS:Hid (mapB ps=false∧True):=⟨mapB_short ps hl,trivial⟩
  have key:(ps.length:Int)<1∨(1≤(ps.length:Int)∧16<(ps.length:Int)):=by omega
  clear hl hb
  rcases key with h | ⟨h,h2⟩
  all_goals
   go_enter Tryz.func136,Tryz.ntmps136
   go_wp2
   exact bodyPost_ret (v:=.tuple #[.pointer none,.bool false]) (by simp [results,Tryz.results136,go_sem]) rfl ⟨.inr ⟨HS.out.1,rfl⟩,hw⟩
set_option maxHeartbeats 800000 in
theorem implMapOk_any (a:Option Addr) (cap:Nat) (ps:List (Int × Int)) (w:World) (hb:Pls w a ps) (hn:ps.length≤1048576) :
  Calls Tryz.prog 127 #[.agg #[.slice a ps.length cap]] w fun e w'=>e=.returned (.bool (mapB ps))∧Below w.heap.size w w':=by
 have hw:Below w.heap.size w (w.alloc (Obj.cells #[Value.slice a ps.length cap] 44)):=(Below.refl _ _).alloc (Nat.le_refl _) _
 go_enter Tryz.func127,Tryz.ntmps127
 go_wp2_with fail
 refine (atlasOf_any a cap ps _ (hb.below hw (Nat.le_refl _)) hn).mono ?_
 rintro e w1 ⟨hr,hb1⟩
 have HB1:Hid (Below w.heap.size w w1):=hw.trans (hb1.mono hw.size)
 clear hb1 hb
 rcases hr with ⟨hm,R,M,rfl,-,-⟩ | ⟨hm,rfl⟩
 all_goals
  have HM:Hid (_∧True):=⟨hm,trivial⟩
  clear hm
  go_wp2
  go_ret
  exact ⟨by rw [HM.out.1];rfl,HB1.out⟩
end Go.Proofs.YthngimdjjmhboaaGreatDoor
namespace Go.Proofs.YthngimdjjmhboaaGreatDoor
open Go.RowKit
set_option linter.unusedVariables false
set_option linter.unusedSimpArgs false

def ThC (W:World) (X:Nat) (cs:List Int) (k:Nat):Prop:=X<W.heap.size∧∀ i:Nat,i<24→W.frozen? ⟨X,i,none⟩=false∧∃ t,W.cell? ⟨X,i,none⟩=some (.bool t)∧(t=true↔∃ j,j<k∧cs.getD j 0=(i:Nat))
theorem ThC.below {W W':World} {X:Nat} {cs:List Int} {k:Nat} (h:ThC W X cs k) (hb:Below W.heap.size W W'):ThC W' X cs k:=
 ⟨Nat.lt_of_lt_of_le h.1 hb.size,fun i hi=>⟨(hb.frozen (p:=⟨X,i,none⟩) h.1).trans (h.2 i hi).1,by
  obtain ⟨t,h1,h2⟩:=(h.2 i hi).2
  exact ⟨t,keep hb h.1 h1,h2⟩⟩⟩
theorem ThC.put {W:World} {X q:Nat} {cs:List Int} {k:Nat} (h:ThC W X cs k) (hq:cs.getD k 0=(q:Nat)) (hq24:q<24):ThC (W.setCell ⟨X,q,none⟩ (.bool true)) X cs (k+1):=by
 refine ⟨by simpa using h.1,fun i hi=>⟨by have:=(h.2 i hi).1;simpa using this,?_⟩⟩
 obtain ⟨t,h1,h2⟩:=(h.2 i hi).2
 by_cases e:i=q
 ·subst e
  exact ⟨true,World.cell?_setCell_same W _ _ h1,by simp only [true_iff];exact ⟨k,by omega,hq⟩⟩
 ·refine ⟨t,(World.cell?_setCell_other W _ _ _ (by simp <;> omega)).trans h1,h2.trans ⟨?_,?_⟩⟩
  ·rintro ⟨j,h3,h4⟩
   exact ⟨j,by omega,h4⟩
  ·rintro ⟨j,h3,h4⟩
   by_cases e2:j=k
   ·subst e2
    rw [hq] at h4
    exact absurd (by omega) e
   ·exact ⟨j,by omega,h4⟩
theorem ThC.new (W:World) (T:TypeId) (cs:List Int):ThC (W.alloc (Obj.cells #[Value.bool false,Value.bool false,Value.bool false,Value.bool false,Value.bool false,Value.bool false,Value.bool false,Value.bool false,Value.bool false,Value.bool false,Value.bool false,Value.bool false,Value.bool false,Value.bool false,Value.bool false,Value.bool false,Value.bool false,Value.bool false,Value.bool false,Value.bool false,Value.bool false,Value.bool false,Value.bool false,Value.bool false] T)) W.heap.size cs 0:=by
 refine ⟨by simp,fun i hi=>⟨by simp,false,?_,by simp⟩⟩
 have h:i=0∨i=1∨i=2∨i=3∨i=4∨i=5∨i=6∨i=7∨i=8∨i=9∨i=10∨i=11∨i=12∨i=13∨i=14∨i=15∨i=16∨i=17∨i=18∨i=19∨i=20∨i=21∨i=22∨i=23:=by omega
 rcases h with rfl | rfl | rfl | rfl | rfl | rfl | rfl | rfl | rfl | rfl | rfl | rfl | rfl | rfl | rfl | rfl | rfl | rfl | rfl | rfl | rfl | rfl | rfl | rfl <;> simp

set_option maxRecDepth 20000 in
set_option maxHeartbeats 4000000 in
theorem chainFits_any (d:DkV) (w:World) (hb:DkI w d) (hn:d.ss.length≤24) (hm:d.cs.length≤1048576) :
  Calls Tryz.prog 90 #[.agg #[Value.slice d.sa d.ss.length d.sc,Value.slice d.pa d.ps.length d.pc,Value.int IntKind.i64 d.E,Value.int IntKind.i64 d.O,Value.slice d.ma d.ms.length d.mc,Value.slice d.va d.vs.length d.vc,Value.slice d.ca d.cs.length d.cc,Value.int IntKind.i64 d.F,Value.int IntKind.i64 d.G,Value.slice d.oa d.os.length d.oc]] w fun r w'=>((chK d.cs d.ss.length d.cs.length∧r=.returned (.bool true))∨(¬chK d.cs d.ss.length d.cs.length∧r=.returned (.bool false)))∧Below w.heap.size w w':=by
 have HB:Hid (DkI w d):=hb
 clear hb
 have hw:Below w.heap.size w (w.alloc (Obj.cells #[Value.slice d.sa d.ss.length d.sc,Value.slice d.pa d.ps.length d.pc,Value.int IntKind.i64 d.E,Value.int IntKind.i64 d.O,Value.slice d.ma d.ms.length d.mc,Value.slice d.va d.vs.length d.vc,Value.slice d.ca d.cs.length d.cc,Value.int IntKind.i64 d.F,Value.int IntKind.i64 d.G,Value.slice d.oa d.os.length d.oc] 49)):=(Below.refl _ _).alloc (Nat.le_refl _) _
 have hx:=(Dk10.new w d 49).alloc (Obj.cells #[Value.bool false,Value.bool false,Value.bool false,Value.bool false,Value.bool false,Value.bool false,Value.bool false,Value.bool false,Value.bool false,Value.bool false,Value.bool false,Value.bool false,Value.bool false,Value.bool false,Value.bool false,Value.bool false,Value.bool false,Value.bool false,Value.bool false,Value.bool false,Value.bool false,Value.bool false,Value.bool false,Value.bool false] 146)
 have hT0:=ThC.new (w.alloc (Obj.cells #[Value.slice d.sa d.ss.length d.sc,Value.slice d.pa d.ps.length d.pc,Value.int IntKind.i64 d.E,Value.int IntKind.i64 d.O,Value.slice d.ma d.ms.length d.mc,Value.slice d.va d.vs.length d.vc,Value.slice d.ca d.cs.length d.cc,Value.int IntKind.i64 d.F,Value.int IntKind.i64 d.G,Value.slice d.oa d.os.length d.oc] 49)) 146 d.cs
 have HW:Hid (Below w.heap.size w ((w.alloc (Obj.cells #[Value.slice d.sa d.ss.length d.sc,Value.slice d.pa d.ps.length d.pc,Value.int IntKind.i64 d.E,Value.int IntKind.i64 d.O,Value.slice d.ma d.ms.length d.mc,Value.slice d.va d.vs.length d.vc,Value.slice d.ca d.cs.length d.cc,Value.int IntKind.i64 d.F,Value.int IntKind.i64 d.G,Value.slice d.oa d.os.length d.oc] 49)).alloc (Obj.cells #[Value.bool false,Value.bool false,Value.bool false,Value.bool false,Value.bool false,Value.bool false,Value.bool false,Value.bool false,Value.bool false,Value.bool false,Value.bool false,Value.bool false,Value.bool false,Value.bool false,Value.bool false,Value.bool false,Value.bool false,Value.bool false,Value.bool false,Value.bool false,Value.bool false,Value.bool false,Value.bool false,Value.bool false] 146))):=hw.alloc (by simp) _
 simp only [World.size_alloc] at hT0
 have HT0:Hid _:=(⟨hT0,hx⟩:_∧_)
 obtain ⟨x0,x1,x2,x3,x4,x5,x6,x7,x8,x9,xl⟩:=hx
 clear hT0 hw
 go_enter Tryz.func90,Tryz.ntmps90
 go_wp2
 generalize (w.alloc (Obj.cells #[Value.slice d.sa d.ss.length d.sc,Value.slice d.pa d.ps.length d.pc,Value.int IntKind.i64 d.E,Value.int IntKind.i64 d.O,Value.slice d.ma d.ms.length d.mc,Value.slice d.va d.vs.length d.vc,Value.slice d.ca d.cs.length d.cc,Value.int IntKind.i64 d.F,Value.int IntKind.i64 d.G,Value.slice d.oa d.os.length d.oc] 49)).alloc (Obj.cells #[Value.bool false,Value.bool false,Value.bool false,Value.bool false,Value.bool false,Value.bool false,Value.bool false,Value.bool false,Value.bool false,Value.bool false,Value.bool false,Value.bool false,Value.bool false,Value.bool false,Value.bool false,Value.bool false,Value.bool false,Value.bool false,Value.bool false,Value.bool false,Value.bool false,Value.bool false,Value.bool false,Value.bool false] 146)=W0 at *
 go_loopw [9] (fun i wr=>∃ k:Nat,k≤d.cs.length∧i=.int .i64 k∧chK d.cs d.ss.length k∧ThC wr (w.heap.size+1) d.cs k∧Dk10 wr w.heap.size d∧Below w.heap.size w wr) (fun i _=>d.cs.length - (intOf i).toNat)
 case atStart=>exact ⟨0,Nat.zero_le _,rfl,chK_zero _ _,HT0.out.1,HT0.out.2,HW.out⟩
 case round=>
  clear HT0 HW x0 x1 x2 x3 x4 x5 x6 x7 x8 x9 xl
  obtain ⟨k,hk,rfl,hch,hth,hx,hbel⟩:=hrel
  have HAP:Hid (chK d.cs d.ss.length k∧ThC wr (w.heap.size+1) d.cs k∧Dk10 wr w.heap.size d∧Below w.heap.size w wr):=⟨hch,hth,hx,hbel⟩
  obtain ⟨x0,x1,x2,x3,x4,x5,x6,x7,x8,x9,xl⟩:=hx
  clear hch hth
  by_cases hlt:k<d.cs.length
  ·obtain ⟨b,off,hca,hbl,hc⟩:=(HB.out.chn.below hbel (Nat.le_refl _)).2 (by omega)
   have c0:=hc k hlt
   have HY:Hid (∀ y,d.cs.getD k 0=y→(¬(2≤y∧y<(d.ss.length:Int))→¬chK d.cs d.ss.length d.cs.length)∧((∃ i,i<k∧d.cs.getD i 0=y)→¬chK d.cs d.ss.length d.cs.length)∧(2≤y∧y<d.ss.length→(¬∃ i,i<k∧d.cs.getD i 0=y)→chK d.cs d.ss.length (k+1))):=fun y hy=>by
    refine ⟨fun h hG=>by have:=(hG k hlt).1;rw [hy] at this;exact h this,fun h hG=>?_,fun h1 h2=>chK_succ HAP.out.1 (by rw [hy];exact h1) (fun j hj e=>h2 ⟨j,hj,e.trans hy⟩)⟩
    obtain ⟨i,hi,e⟩:=h
    exact (hG k hlt).2 i hi (e.trans hy.symm)
   have hyk:∃ y,d.cs.getD k 0=y:=⟨_,rfl⟩
   obtain ⟨y,hy⟩:=hyk
   obtain ⟨hy1,hy2,hy3⟩:=HY.out y hy
   have HYE:Hid (d.cs.getD k 0=y∧True):=⟨hy,trivial⟩
   rw [hy] at c0
   rw [hca] at x6 ⊢
   clear hc HY hy
   by_cases hy2':y<2
   ·have HF:Hid (¬chK d.cs d.ss.length d.cs.length):=hy1 (by omega)
    clear hy1 hy2 hy3
    go_wp2
    go_ret
    exact ⟨.inr ⟨HF.out,rfl⟩,HAP.out.2.2.2⟩
   have HH:=has_any d.sa d.pa d.sc d.pc d.ss.length d.ps.length y wr (by omega)
   have hdb:decide (0≤y∧y<(d.ss.length:Int))=decide (y<(d.ss.length:Int)):=by
    by_cases h:y<(d.ss.length:Int)
    ·rw [decide_eq_true h,decide_eq_true ⟨by omega,h⟩]
    ·rw [decide_eq_false h,decide_eq_false (fun h2=>h h2.2)]
   rw [hdb] at HH
   clear hdb
   by_cases hyr:y<(d.ss.length:Int)
   rotate_left 1
   ·have HF:Hid (¬chK d.cs d.ss.length d.cs.length):=hy1 (fun h=>hyr h.2)
    rw [decide_eq_false hyr] at HH
    clear hy1 hy2 hy3
    go_wp2_with fail
    refine HH.mono ?_
    clear HH
    rintro e w1 ⟨rfl,hb1⟩
    have HB1:Hid (Below w.heap.size w w1):=HAP.out.2.2.2.trans (hb1.mono HAP.out.2.2.2.size)
    clear hb1
    go_wp2
    go_ret
    exact ⟨.inr ⟨HF.out,rfl⟩,HB1.out⟩
   rw [decide_eq_true hyr] at HH
   obtain ⟨q,rfl⟩:=Int.eq_ofNat_of_zero_le (show 0≤y by omega)
   have hq24:q<24:=by omega
   go_wp2_with fail
   refine HH.mono ?_
   clear HH
   rintro e w1 ⟨rfl,hb1⟩
   have hth1:=HAP.out.2.1.below hb1
   have HW1:Hid (ThC w1 (w.heap.size+1) d.cs k∧Dk10 w1 w.heap.size d∧Below w.heap.size w w1):=⟨hth1,HAP.out.2.2.1.step hb1,HAP.out.2.2.2.trans (hb1.mono HAP.out.2.2.2.size)⟩
   obtain ⟨hfz,t,hct,hti⟩:=hth1.2 q hq24
   have HTI:Hid (t=true↔∃ j,j<k∧d.cs.getD j 0=(q:Nat)):=hti
   clear hb1 hth1 hti x0 x1 x2 x3 x4 x5 x6 x7 x8 x9 xl c0
   cases t with
   | true=>
    have HF:Hid (¬chK d.cs d.ss.length d.cs.length):=hy2 (HTI.out.1 rfl)
    clear hy1 hy2 hy3
    go_wp2
    go_ret
    exact ⟨.inr ⟨HF.out,rfl⟩,HW1.out.2.2⟩
   | false=>
    have HF:Hid (chK d.cs d.ss.length (k+1)):=hy3 ⟨by omega,by omega⟩ (fun h=>by have:=HTI.out.2 h;cases this)
    have hon:Only (fun x=>x=w.heap.size+1) w1 (w1.setCell ⟨w.heap.size+1,q,none⟩ (.bool true)):=(Only.refl (fun x=>x=w.heap.size+1) w1).setCell (p:=⟨w.heap.size+1,q,none⟩) (.inl rfl) _
    have HN:Hid (ThC (w1.setCell ⟨w.heap.size+1,q,none⟩ (.bool true)) (w.heap.size+1) d.cs (k+1)∧Dk10 (w1.setCell ⟨w.heap.size+1,q,none⟩ (.bool true)) w.heap.size d∧Below w.heap.size w (w1.setCell ⟨w.heap.size+1,q,none⟩ (.bool true))):=
     ⟨HW1.out.1.put HYE.out.1 hq24,HW1.out.2.1.keep (hon.below (B:=w.heap.size+1) (by have:=HW1.out.1.1;omega) (fun k hk=>by omega)) (by omega),HW1.out.2.2.setCell (by simp) _⟩
    clear hy1 hy2 hy3 hon
    go_wp2
    go_roundw
    case rel=>exact ⟨k+1,by omega,by go_num,HF.out,HN.out.1,HN.out.2.1,HN.out.2.2⟩
    case measure=>simp [intOf];omega
  ·have hkn:k=d.cs.length:=by omega
   subst hkn
   go_wp2
   go_ret
   exact ⟨.inl ⟨HAP.out.1,rfl⟩,HAP.out.2.2.2⟩
end Go.Proofs.YthngimdjjmhboaaGreatDoor
