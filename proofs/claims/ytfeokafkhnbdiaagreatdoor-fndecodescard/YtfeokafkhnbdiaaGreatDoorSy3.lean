/- Lemmas on the way. -/
import Derived.Test.YtfeokafkhnbdiaaGreatDoorUsP
import Derived.Test.YtfeokafkhnbdiaaGreatDoorEnF
import Derived.Test.YtfeokafkhnbdiaaGreatDoorSy1
import Derived.BigQuiet
import Derived.Deep.RegionWith
import Derived.Deep.RegionHeld3
set_option maxRecDepth 20000
set_option maxHeartbeats 16000000
namespace Go.Proofs.YtfeokafkhnbdiaaGreatDoor
open Go.RowKit
set_option linter.unusedVariables false
set_option linter.unusedSimpArgs false
structure SyOk (ss:List Sq):Prop where
 few:ss.length≤40
 lets:lets ss≤64
 nums:∀ j,j<ss.length→(ss.getD j dq).n=0∨(3≤(ss.getD j dq).n∧(ss.getD j dq).n≤64∧1≤(ss.getD j dq).d∧(ss.getD j dq).d≤64)
theorem SyOk.of {ss:List Sq} (h:(sqn ss).isSome=true):SyOk ss:=⟨(sqn_lets h).1,(sqn_lets h).2.1,(sqn_lets h).2.2⟩
theorem SyOk.bnd {ss:List Sq} (h:SyOk ss) (k:Nat) (hk:k<ss.length):(syOf (ss.take k)).1.length+(ss.getD k dq).ls.length≤200∧(syOf (ss.take k)).2.1+4*(ss.getD k dq).ls.length≤1000:=by
 have h1:=syOf_len h.nums k (by omega)
 have h2:=lets_take_succ ss k hk
 have h3:=lets_take_le ss (k+1)
 have h4:=h.lets
 have h5:=h.few
 omega
theorem rowWeak {w:World} {B B':Nat} {T:TypeId} {sz:Nat} {v:Value} {n:Nat} {xs:List Value} (h:w.ownsRow B T sz v n xs) (hB:B'≤B):w.ownsRow B' T sz v n xs:=by
 refine ⟨h.1,?_⟩
 rcases h.2 with h' | ⟨g,cap,cur,h',hg,r⟩
 ·exact .inl h'
 ·exact .inr ⟨g,cap,cur,h',by omega,r⟩
theorem ownV_weakS {S:Nat→Prop} {w w':World} {B B':Nat} {v:Value} {zs:List Int} (h:OwnV w B v zs) (ho:Only S w w') (hs:∀ k,B≤k→¬S k) (hB:B'≤B):OwnV w' B' v zs:=
 ⟨rowWeak (rowStay h.1 ho (fun k hk=>hs k (h.blk hk))) hB,h.2⟩
theorem ovi_weakS {S:Nat→Prop} {w w':World} {B B':Nat} {v:Value} {zs:List Int} (h:OVI w B v zs) (ho:Only S w w') (hs:∀ k,B≤k→¬S k) (hB:B'≤B):OVI w' B' v zs:=
 ⟨rowWeak (rowStay h.1 ho (fun k hk=>hs k (h.blk hk))) hB,h.2⟩
theorem l5symbols_any (a:Option Addr) (cap:Nat) (ss:List Sq) (w:World) (hb:Sqs w a ss) (hok:SyOk ss) :
  Calls Tryz.prog 48 #[.slice a ss.length cap] w fun e w'=>(∃ sa sc v,e=.returned (.tuple #[.slice sa (syOf ss).1.length sc,.agg #[v,.int .i64 ((syOf ss).2.1:Nat)]])∧OVI w' w.heap.size (.slice sa (syOf ss).1.length sc) (syOf ss).1∧OwnV w' w.heap.size v (enc (syOf ss).2.1 (syOf ss).2.2)∧(syOf ss).2.2<2 ^ (syOf ss).2.1)∧Below w.heap.size w w':=by
 have HB:Hid (Sqs w a ss∧SyOk ss):=⟨hb,hok⟩
 have hfew:=hok.few
 have HST:Hid (SyS (((w.alloc (Obj.cells #[.slice none 0 0,.int .i64 0] 40)).alloc (Obj.cells #[.slice none 0 0] 38)).alloc (Obj.cells #[.slice none 0 0,.int .i64 0] 40)) (w.heap.size+1) (w.heap.size+1) (w.heap.size+1+1) ([],0,0)∧Below (w.heap.size+1) (w.alloc (Obj.cells #[.slice none 0 0,.int .i64 0] 40)) (((w.alloc (Obj.cells #[.slice none 0 0,.int .i64 0] 40)).alloc (Obj.cells #[.slice none 0 0] 38)).alloc (Obj.cells #[.slice none 0 0,.int .i64 0] 40))):=by
  have h1:=SI.new ((w.alloc (Obj.cells #[.slice none 0 0,.int .i64 0] 40)).alloc (Obj.cells #[.slice none 0 0] 38)) (w.heap.size+1) (by simp)
  have h2:=heap_alloc_new (w.alloc (Obj.cells #[.slice none 0 0,.int .i64 0] 40)) (Obj.cells #[.slice none 0 0] 38)
  have hA:Below (w.heap.size+1+1) ((w.alloc (Obj.cells #[.slice none 0 0,.int .i64 0] 40)).alloc (Obj.cells #[.slice none 0 0] 38)) (((w.alloc (Obj.cells #[.slice none 0 0,.int .i64 0] 40)).alloc (Obj.cells #[.slice none 0 0] 38)).alloc (Obj.cells #[.slice none 0 0,.int .i64 0] 40)):=(Below.refl _ _).alloc (by simp) _
  refine ⟨⟨⟨none,0,?_,OVI.nil _ _⟩,by simpa using h1,by omega⟩,((Below.refl _ _).alloc (by simp) _).alloc (by simp) _⟩
  have h3:((w.alloc (Obj.cells #[.slice none 0 0,.int .i64 0] 40)).alloc (Obj.cells #[.slice none 0 0] 38)).heap[w.heap.size+1]?=some (.cells #[.slice none 0 0] 38 (0,0)):=by simpa using h2
  exact (hA.block (w.heap.size+1) (by omega)).trans h3
 have HBW:Hid (Below w.heap.size w (w.alloc (Obj.cells #[.slice none 0 0,.int .i64 0] 40))∧(w.alloc (Obj.cells #[.slice none 0 0,.int .i64 0] 40)).heap[w.heap.size]?=some (.cells #[.slice none 0 0,.int .i64 0] 40 (0,0))):=⟨(Below.refl _ _).alloc nl _,heap_alloc_new w _⟩
 clear hb hok
 generalize hlen:ss.length=n at *
 have HLN:Hid (ss.length=n∧True):=⟨hlen,trivial⟩
 clear hlen
 go_enter Tryz.func48,Tryz.ntmps48
 go_wp2
 generalize ((w.alloc (Obj.cells #[.slice none 0 0,.int .i64 0] 40)).alloc (Obj.cells #[.slice none 0 0] 38)).alloc (Obj.cells #[.slice none 0 0,.int .i64 0] 40)=W3 at *
 generalize w.alloc (Obj.cells #[.slice none 0 0,.int .i64 0] 40)=W1 at *
 go_loopw [6] (fun i wr=>∃ k:Nat,k≤n∧i=.int .i64 k∧SyS wr (w.heap.size+1) (w.heap.size+1) (w.heap.size+1+1) (syOf (ss.take k))∧Below (w.heap.size+1) W1 wr) (fun i _=>n-(intOf i).toNat)
 case atStart=>exact ⟨0,Nat.zero_le _,rfl,by simpa [syOf] using HST.out.1,HST.out.2⟩
 case round=>
  clear HST
  obtain ⟨k,hk,rfl,hsy,hbel⟩:=hrel
  have HS:Hid (SyS wr (w.heap.size+1) (w.heap.size+1) (w.heap.size+1+1) (syOf (ss.take k))∧Below (w.heap.size+1) W1 wr∧Below w.heap.size w wr):=⟨hsy,hbel,HBW.out.1.trans (hbel.mono (by omega))⟩
  clear hsy hbel
  by_cases hlt:k<n
  ·obtain ⟨b,off,rfl,hbw,hly⟩:=HB.out.1.len_pos k (by rw [HLN.out.1];exact hlt)
   have HLY:Hid (Lies w b (off+k*3) (ss.getD k dq)∧b<w.heap.size):=⟨hly k (by rw [HLN.out.1];exact hlt),hbw⟩
   have hbn:=HB.out.2.bnd k (by rw [HLN.out.1];exact hlt)
   have hnm:=HB.out.2.nums k (by rw [HLN.out.1];exact hlt)
   have HTK:Hid (syOf (ss.take (k+1))=putQ (syOf (ss.take k)) (ss.getD k dq)∧True):=⟨syOf_take ss k (by rw [HLN.out.1];exact hlt),trivial⟩
   clear hly hbw
   generalize ss.getD k dq=q at *
   generalize syOf (ss.take k)=st at *
   obtain ⟨qa,qc,ql,qn,qd⟩:=q
   simp only at hbn hnm
   have hl0:=HLY.out.1.below HS.out.2.2 nl HLY.out.2
   have d0:=hl0.c0
   have d1:=hl0.c1
   simp only at d0 d1
   clear hl0
   go_wp2
   clear d0 d1
   go_loopw [7] (fun jv wi=>∃ j:Nat,j≤ql.length∧jv=.int .i64 j∧SyS wi (w.heap.size+1) (w.heap.size+1) (w.heap.size+1+1) (putLs (ql.take j) st)∧Below (w.heap.size+1) W1 wi) (fun jv _=>ql.length-(intOf jv).toNat)
   case atStart=>exact ⟨0,Nat.zero_le _,rfl,by simpa [putLs] using HS.out.1,HS.out.2.1⟩
   case round=>
    clear HS
    obtain ⟨j,hj,rfl,hsy,hbel⟩:=hrel
    have hbb:=HBW.out.1.trans (hbel.mono (by omega))
    have hl0:=HLY.out.1.below hbb nl HLY.out.2
    have d0:=hl0.c0
    have d1:=hl0.c1
    have d2:=hl0.c2
    have hby:=hl0.byt
    simp only at d0 d1 d2 hby
    have hpl:=putLs_len (ql.take j) st
    have HS:Hid (SyS wr (w.heap.size+1) (w.heap.size+1) (w.heap.size+1+1) (putLs (ql.take j) st)∧Below (w.heap.size+1) W1 wr):=⟨hsy,hbel⟩
    have HLY2:Hid (Lies wr b (off+k*3) ⟨qa,qc,ql,qn,qd⟩∧b<wr.heap.size∧w.heap.size+1≤wr.heap.size):=⟨hl0,Nat.lt_of_lt_of_le HLY.out.2 hbb.size,by obtain ⟨v,_,_,_,_,h5⟩:=hsy.si;exact h5⟩
    have htl:(ql.take j).length=j:=by rw [List.length_take];omega
    rw [htl] at hpl
    clear hsy hbel hbb hl0 htl
    by_cases hjl:j<ql.length
    ·obtain ⟨lb,lo,rfl,hlb,hlc⟩:=hby.len_pos j hjl
     have hc:=hlc j hjl
     have hr:=getD_rng hby.1 j
     have HPT:Hid (putLs (ql.take (j+1)) st=putL (putLs (ql.take j) st) (ql.getD j 0)∧True):=⟨putLs_take ql st j hjl,trivial⟩
     have HC:=l5letter_any (w.heap.size+1) (w.heap.size+1) (w.heap.size+1+1) (ql.getD j 0) (putLs (ql.take j) st) wr HS.out.1 hr (by omega) (by omega)
     clear hby hlc
     generalize ql.getD j 0=z at *
     go_wp2_with fail
     refine HC.mono ?_
     clear HC
     rintro e w5 ⟨rfl,hs5,hb5⟩
     have HS5:Hid (SyS w5 (w.heap.size+1) (w.heap.size+1) (w.heap.size+1+1) (putLs (ql.take (j+1)) st)∧Below (w.heap.size+1) W1 w5):=⟨by rw [HPT.out.1];exact hs5,HS.out.2.trans hb5⟩
     clear hs5 hb5 HS
     go_wp2
     go_roundw
     case rel=>exact ⟨j+1,by omega,by go_num,HS5.out.1,HS5.out.2⟩
     case measure=>simp [intOf];omega
    ·have hjl2:j=ql.length:=by omega
     subst hjl2
     rw [List.take_length] at HS hpl
     by_cases hq0:qn=0
     ·have HSF:Hid (SyS wr (w.heap.size+1) (w.heap.size+1) (w.heap.size+1+1) (syOf (ss.take (k+1)))∧Below (w.heap.size+1) W1 wr):=by
       rw [HTK.out.1]
       unfold putQ
       rw [if_pos hq0]
       exact HS.out
      subst hq0
      clear HS
      go_wp2
      go_roundw
      case rel=>exact ⟨k+1,by omega,by go_num,HSF.out.1,HSF.out.2⟩
      case measure=>simp [intOf];omega
     ·have hq1:=hnm.resolve_left hq0
      obtain ⟨m1,rfl⟩:=Int.eq_ofNat_of_zero_le (show 0≤qn by omega)
      obtain ⟨m2,rfl⟩:=Int.eq_ofNat_of_zero_le (show 0≤qd by omega)
      have hm1:3≤m1∧m1≤64∧1≤m2∧m2≤64:=by omega
      have hcl:=cl_fact (n:=m1-2) (by omega) (by omega)
      have HC:=l5number_any (w.heap.size+1) (w.heap.size+1) (w.heap.size+1+1) 16 (m1-2) (putLs ql st) wr HS.out.1 ⟨by omega,by omega⟩ (by omega) (by omega) (by omega)
      have e1:(((m1-2:Nat)):Int)=(m1:Int)-3+1:=by omega
      rw [e1] at HC
      have HQ:Hid (syOf (ss.take (k+1))=putN 28 m2 (putN 16 (m1-2) (putLs ql st))∧(putN 16 (m1-2) (putLs ql st)).2.1≤4000∧(putN 16 (m1-2) (putLs ql st)).1.length≤1000):=by
       refine ⟨?_,?_,?_⟩
       ·rw [HTK.out.1]
        unfold putQ
        rw [if_neg hq0]
        simp
       ·simp only [putN];omega
       ·simp only [putN,List.length_append,List.length_cons,List.length_nil];omega
      have hmp:(0:Int)<(m1:Int):=by omega
      clear e1 hq0 hq1 hnm hcl hpl
      go_wp2_with fail
      refine HC.mono ?_
      clear HC
      rintro e w5 ⟨rfl,hs5,hb5⟩
      have hb51:=HS.out.2.trans hb5
      have d2':=(HLY.out.1.below (HBW.out.1.trans (hb51.mono (by omega))) nl HLY.out.2).c2
      simp only at d2'
      have HC:=l5number_any (w.heap.size+1) (w.heap.size+1) (w.heap.size+1+1) 28 m2 _ w5 hs5 ⟨by omega,by omega⟩ (by omega) HQ.out.2.1 HQ.out.2.2
      have HB5:Hid (Below (w.heap.size+1) W1 w5):=hb51
      clear hs5 hb5 hb51 HS d0 d1 d2
      go_wp2_with fail
      refine HC.mono ?_
      clear HC
      rintro e w6 ⟨rfl,hs6,hb6⟩
      have HSF:Hid (SyS w6 (w.heap.size+1) (w.heap.size+1) (w.heap.size+1+1) (syOf (ss.take (k+1)))∧Below (w.heap.size+1) W1 w6):=⟨by rw [HQ.out.1];exact hs6,HB5.out.trans hb6⟩
      clear hs6 hb6
      go_wp2
      go_roundw
      case rel=>exact ⟨k+1,by omega,by go_num,HSF.out.1,HSF.out.2⟩
      case measure=>simp [intOf];omega
  ·have hkn:k=n:=by omega
   subst hkn
   have HTE:Hid (syOf (ss.take k)=syOf ss∧True):=⟨by rw [List.take_of_length_le (by rw [HLN.out.1];exact Nat.le_refl _)],trivial⟩
   rw [HTE.out.1] at HS
   obtain ⟨sa,sc,hP,hov⟩:=HS.out.1.box
   obtain ⟨v,hR,hv,hV,hBR,-⟩:=HS.out.1.si
   obtain ⟨va,vc,rfl,-⟩:=hv.mine
   have hX:wr.heap[w.heap.size]?=some (.cells #[.slice none 0 0,.int .i64 0] 40 (0,0)):=(HS.out.2.1.block w.heap.size (by omega)).trans HBW.out.2
   have HRES:Hid (OVI (((wr.setCell ⟨w.heap.size,0,none⟩ (.slice va (enc (syOf ss).2.1 (syOf ss).2.2).length vc)).setCell ⟨w.heap.size,1,none⟩ (.int .i64 ((syOf ss).2.1:Nat))).drew) w.heap.size (.slice sa (syOf ss).1.length sc) (syOf ss).1∧OwnV (((wr.setCell ⟨w.heap.size,0,none⟩ (.slice va (enc (syOf ss).2.1 (syOf ss).2.2).length vc)).setCell ⟨w.heap.size,1,none⟩ (.int .i64 ((syOf ss).2.1:Nat))).drew) w.heap.size (.slice va (enc (syOf ss).2.1 (syOf ss).2.2).length vc) (enc (syOf ss).2.1 (syOf ss).2.2)∧(syOf ss).2.2<2 ^ (syOf ss).2.1∧Below w.heap.size w (((wr.setCell ⟨w.heap.size,0,none⟩ (.slice va (enc (syOf ss).2.1 (syOf ss).2.2).length vc)).setCell ⟨w.heap.size,1,none⟩ (.int .i64 ((syOf ss).2.1:Nat))).drew)):=by
    have ho:Only (fun b=>b=w.heap.size) wr (((wr.setCell ⟨w.heap.size,0,none⟩ (.slice va (enc (syOf ss).2.1 (syOf ss).2.2).length vc)).setCell ⟨w.heap.size,1,none⟩ (.int .i64 ((syOf ss).2.1:Nat))).drew):=by
     exact (((Only.refl (fun b=>b=w.heap.size) wr).setCell (p:=⟨w.heap.size,0,none⟩) (.inl rfl) _).setCell (p:=⟨w.heap.size,1,none⟩) (.inl rfl) _).drew
    exact ⟨ovi_weakS hov ho (fun k hk=>by omega) (by omega),ownV_weakS hv ho (fun k hk=>by omega) (by omega),hV,HS.out.2.2.trans (ho.below (by have:=HS.out.2.2.size;omega) (fun k hk=>by omega))⟩
   have x0:wr.cell? ⟨w.heap.size,0,none⟩=some (.slice none 0 0):=cellRR (j:=0) hX rfl
   have x1:wr.cell? ⟨w.heap.size,1,none⟩=some (.int .i64 0):=cellRR (j:=1) hX rfl
   have y0:=frozen_of_row wr w.heap.size 0 _ _ hX
   have y1:=frozen_of_row wr w.heap.size 1 _ _ hX
   have p0:wr.cell? ⟨w.heap.size+1,0,none⟩=some (.slice sa (syOf ss).1.length sc):=cellRR (j:=0) hP rfl
   have r0:wr.cell? ⟨w.heap.size+1+1,0,none⟩=some (.slice va (enc (syOf ss).2.1 (syOf ss).2.2).length vc):=cellRR (j:=0) hR rfl
   have r1:wr.cell? ⟨w.heap.size+1+1,1,none⟩=some (.int .i64 ((syOf ss).2.1:Nat)):=cellRR (j:=1) hR rfl
   clear hP hov hR hv hV hX HS HTE HB
   have HRL:Hid (∃ L,(enc (syOf ss).2.1 (syOf ss).2.2).length=L):=⟨_,rfl⟩
   obtain ⟨L,hL⟩:=HRL.out
   rw [hL] at r0 HRES
   clear hL HRL
   go_wp2
   go_region
   all_goals go_wp2
   all_goals exact bodyPost_ret (v:=.tuple #[.slice sa (syOf ss).1.length sc,.agg #[.slice va L vc,.int .i64 ((syOf ss).2.1:Nat)]]) (by simp [results,Tryz.results48,go_sem,x0,x1]) rfl ⟨⟨sa,sc,.slice va L vc,rfl,HRES.out.1,HRES.out.2.1,HRES.out.2.2.1⟩,HRES.out.2.2.2⟩
theorem WI.grownI {w w':World} {B R n V:Nat} {v:Value} {zs:List Int} (h:WI w B R n V) (ho:OVI w B v zs) (hg:w.grownBy w' v.ownBlock):WI w' B R n V:=by
 obtain ⟨u,h1,h2,h3,h4,h5⟩:=h
 refine ⟨u,grown_blkI hg h1 (ho.blk_ne h1 (by decide)),⟨⟨h2.1.1,?_⟩,h2.2⟩,h3,h4,Nat.le_trans h5 hg.size⟩
 rcases h2.1.2 with h' | ⟨g,cap,cur,h',hgg,hh,r⟩
 ·exact .inl h'
 ·exact .inr ⟨g,cap,cur,h',hgg,grown_blkI hg hh (ho.blk_ne hh (by decide)),r⟩
theorem WI.setOther {w:World} {B R n V:Nat} (h:WI w B R n V) {P:Nat} {cur:Array Value} {T:TypeId} (hP:w.heap[P]?=some (.cells cur T (0,0))) (hT:T≠5) (hPR:P≠R) (j:Nat) (x:Value):WI (w.setCell ⟨P,j,none⟩ x) B R n V:=by
 have ho:Only (fun b=>b=P) w (w.setCell ⟨P,j,none⟩ x):=Only.setCell (Only.refl (fun b=>b=P) w) (p:=⟨P,j,none⟩) (.inl rfl) _
 obtain ⟨u,h1,h2,h3,h4,h5⟩:=h
 refine ⟨u,(ho.block R (Array.getElem?_eq_some_iff.1 h1).1 (fun e=>hPR e.symm)).trans h1,⟨⟨h2.1.1,?_⟩,h2.2⟩,h3,h4,Nat.le_trans h5 ho.size⟩
 rcases h2.1.2 with h' | ⟨g,cap,cur',h',hgg,hh,r⟩
 ·exact .inl h'
 ·refine .inr ⟨g,cap,cur',h',hgg,(ho.block g (Array.getElem?_eq_some_iff.1 hh).1 (fun e=>?_)).trans hh,r⟩
  subst e
  rw [hP] at hh
  simp at hh
  exact hT hh.2
structure SwS (w:World) (B P R:Nat) (st:SyT):Prop where
 box:∃ a c,w.heap[P]?=some (.cells #[.slice a st.1.length c,.pointer (some ⟨R,0,none⟩)] 68 (0,0))∧OVI w B (.slice a st.1.length c) st.1
 wi:WI w B R st.2.1 st.2.2
 BP:B≤P
theorem SwS.ne {w:World} {B P R:Nat} {st:SyT} (h:SwS w B P R st):P≠R:=by
 obtain ⟨a,c,h1,_⟩:=h.box
 obtain ⟨v,h2,_⟩:=h.wi
 rintro rfl
 rw [h1] at h2
 simp at h2
theorem SwS.put {w w':World} {B P R:Nat} {st:SyT} {n V:Nat} (h:SwS w B P R st) (hs:WI w' B R n V) (hk:KeepT R w w'):SwS w' B P R (st.1,n,V):=by
 obtain ⟨a,c,h1,h2⟩:=h.box
 refine ⟨⟨a,c,hk P _ _ h1 (by decide) h.ne,h2.keepT hk (fun e=>?_)⟩,hs,h.BP⟩
 obtain ⟨v,h3,_⟩:=h.wi
 exact h2.blk_ne h3 (by decide) e.symm
def KeepS (w w':World):Prop:=∀ (X:Nat) (cur:Array Value),w.heap[X]?=some (.cells cur 37 (0,0))→w'.heap[X]?=some (.cells cur 37 (0,0))
theorem KeepS.trans {a b c:World} (h:KeepS a b) (k:KeepS b c):KeepS a c:=fun X cur hX=>k X cur (h X cur hX)
theorem WI.keepS {w w':World} {B R n V:Nat} (h:WI w B R n V) (hk:KeepT R w w'):KeepS w w':=fun X cur hX=>hk X cur _ hX (by decide) (fun e=>by
 obtain ⟨v,h1,_⟩:=h
 rw [e] at hX
 rw [hX] at h1
 simp at h1)
theorem app_keepS {w w4:World} {B P:Nat} {cur0:Array Value} {a:Option Addr} {n c:Nat} {ts:List Int} {x:Value} (ho:OVI w B (.slice a n c) ts) (o:Obj) (hg:(w.alloc o).grownBy w4 (Value.slice a n c).ownBlock) (hP4:w4.heap[P]?=some (.cells cur0 68 (0,0))):KeepS w (w4.setCell ⟨P,0,none⟩ x):=by
 intro X cur hX
 have hA:Below w.heap.size w (w.alloc o):=(Below.refl _ _).alloc nl o
 have hXA:(w.alloc o).heap[X]?=some (.cells cur 37 (0,0)):=(hA.block X (Array.getElem?_eq_some_iff.1 hX).1).trans hX
 have hX4:=grown_blkI hg hXA ((ho.below hA).blk_ne hXA (by decide))
 refine ((Only.setCell (Only.refl (fun b=>b=P) w4) (p:=⟨P,0,none⟩) (.inl rfl) x).block X (Array.getElem?_eq_some_iff.1 hX4).1 (fun e=>?_)).trans hX4
 subst e
 rw [hX4] at hP4
 simp at hP4
theorem SwS.app {w w4:World} {B P R:Nat} {st:SyT} {a a4:Option Addr} {c c4:Nat} {z:Int} (h:SwS w B P R st) (hP:w.heap[P]?=some (.cells #[.slice a st.1.length c,.pointer (some ⟨R,0,none⟩)] 68 (0,0))) (ho:OVI w B (.slice a st.1.length c) st.1) (o:Obj) (hov:OVI w4 B (.slice a4 (st.1.length+1) c4) (st.1++[z])) (hg:(w.alloc o).grownBy w4 (Value.slice a st.1.length c).ownBlock) :
  w4.heap[P]?=some (.cells #[.slice a st.1.length c,.pointer (some ⟨R,0,none⟩)] 68 (0,0))∧SwS (w4.setCell ⟨P,0,none⟩ (.slice a4 (st.1.length+1) c4)) B P R (st.1++[z],st.2.1,st.2.2)∧Below B w (w4.setCell ⟨P,0,none⟩ (.slice a4 (st.1.length+1) c4)):=by
 have hA:Below w.heap.size w (w.alloc o):=(Below.refl _ _).alloc nl o
 have hoA:OVI (w.alloc o) B (.slice a st.1.length c) st.1:=ho.below hA
 have hPA:(w.alloc o).heap[P]?=some (.cells #[.slice a st.1.length c,.pointer (some ⟨R,0,none⟩)] 68 (0,0)):=(hA.block P (Array.getElem?_eq_some_iff.1 hP).1).trans hP
 have hP4:=grown_blkI hg hPA (hoA.blk_ne hPA (by decide))
 have hs4:=(h.wi.stay hA).grownI hoA hg
 have hB:B≤w.heap.size:=by obtain ⟨v,_,_,_,_,h5⟩:=h.wi;exact h5
 refine ⟨hP4,⟨⟨a4,c4,?_,?_⟩,hs4.setOther hP4 (by decide) h.ne 0 _,h.BP⟩,?_⟩
 ·rw [List.length_append,List.length_singleton,heap_setCell_same _ P 0 _ _ _ hP4]
  simp
 ·rw [List.length_append,List.length_singleton]
  exact hov.setOther hP4 (by decide) 0 _
 ·exact (((Below.refl B w).alloc hB o).grown hg (by simp;omega) (fun k hk=>ho.blk hk)).setCell (p:=⟨P,0,none⟩) h.BP _
theorem putLetter_any (B P R:Nat) (z:Int) (st:SyT) (w:World) (h:SwS w B P R st) (hz:0≤z∧z≤255) (hN:st.2.1≤4000) (hl:st.1.length≤1000) :
  Calls Tryz.prog 63 #[.pointer (some ⟨P,0,none⟩),.int .u8 z] w fun e w'=>e=.returned .nilIface∧SwS w' B P R (putL st z)∧Below B w w'∧KeepS w w':=by
 obtain ⟨i0,hi,hz0,hz1,hz2⟩:=info_parts Tryz.infoI64
 obtain ⟨a,c,hP,ho⟩:=h.box
 have HS:Hid (SwS w B P R st∧w.heap[P]?=some (.cells #[.slice a st.1.length c,.pointer (some ⟨R,0,none⟩)] 68 (0,0))∧OVI w B (.slice a st.1.length c) st.1):=⟨h,hP,ho⟩
 have c0:w.cell? ⟨P,0,none⟩=some (.slice a st.1.length c):=cellRR (j:=0) hP rfl
 have c1:w.cell? ⟨P,1,none⟩=some (.pointer (some ⟨R,0,none⟩)):=cellRR (j:=1) hP rfl
 have hB:B≤w.heap.size:=by obtain ⟨v,_,_,_,_,h5⟩:=h.wi;exact h5
 have hu:=ho.1
 obtain ⟨ts,n,V⟩:=st
 simp only at *
 have HAND:Hid ((((z % 16).toNat:Nat):Int)=z % 16∧(z % 16).toNat<2 ^ 4):=⟨by omega,by omega⟩
 clear h hP ho
 go_enter Tryz.func63,Tryz.ntmps63
 go_wp2_with (at_builtin;(refine wpList_append_lies _ rfl (.tmp 9) (.tmp 13) 38 rfl B 3 i0 (.int .i64 0) 1 8 Tryz.underlying38 hi hz0 hz1 hz2 rfl (by decide) (.slice a ts.length c) ts.length (ts.map (Value.int .i64)) rfl (hu.alloc _) ⟨w.heap.size,0,none⟩ 1 1 [.int .i64 (z / 16)] rfl rfl (by intro j y hj;match j,hj with | 0,hj=>(simp at hj;subst hj;simp [Addr.add])) (by intro y hy;simp at hy;subst hy;rfl) (by omega) (by unfold maxLen;omega) (by omega) (by simp;omega) _ rfl ?_);intro g cap1 w4 hown hgrow hat hlt1;have k4:=(HS.out.1.app HS.out.2.1 HS.out.2.2 _ (OVI.app rfl HS.out.2.2.2 (by omega) hown) hgrow).1;have k0:w4.cell? ⟨P,0,none⟩=some (.slice a ts.length c):=cellRR (j:=0) k4 rfl;have kf:=frozen_of_row w4 P 0 _ _ k4;have k1:w4.cell? ⟨P,1,none⟩=some (.pointer (some ⟨R,0,none⟩)):=cellRR (j:=1) k4 rfl)
 have HS4:Hid _:=(HS.out.1.app HS.out.2.1 HS.out.2.2 _ (OVI.app rfl HS.out.2.2.2 (by omega) hown) hgrow).2
 have HKS:Hid (KeepS w (w4.setCell ⟨P,0,none⟩ (.slice (some ⟨g,0,none⟩) (ts.length+1) cap1))):=app_keepS HS.out.2.2 _ hgrow k4
 clear hown hgrow hat hlt1 k4 hu c0 c1
 have HC:=HS4.out.1.wi.putK (z % 16).toNat 4 (by omega) HAND.out.2 (by simp only;omega)
 rw [HAND.out.1] at HC
 clear k0 kf k1
 refine HC.mono ?_
 clear HC
 rintro e w5 ⟨rfl,hs5,hb5,hk5⟩
 have HY:Hid (SwS w5 B P R (putL (ts,n,V) z)∧Below B w w5∧KeepS w w5):=⟨HS4.out.1.put hs5 hk5,HS4.out.2.trans hb5,HKS.out.trans (HS4.out.1.wi.keepS hk5)⟩
 clear hs5 hb5 hk5 HS4
 go_wp2
 go_ret
 exact ⟨rfl,HY.out⟩
theorem classOf_any (m:Nat) (w:World) (h1:1≤m) (h2:m<256) :
  Calls Tryz.prog 80 #[.int .i64 (m:Nat)] w fun e w'=>e=.returned (.int .i64 (cl m:Nat))∧w'=w:=by
 have HC:=len_any m w h2
 have hc:=(cl_fact h1 h2).2.2
 rw [hc.2] at HC
 have hc7:=hc.1
 clear hc
 generalize cl m=k at *
 go_enter Tryz.func80,Tryz.ntmps80
 go_wp2_with fail
 refine HC.mono ?_
 clear HC
 rintro e w9 ⟨rfl,hw9⟩
 rw [hw9]
 go_wp2
 go_ret
 exact ⟨ret_int (by omega),rfl⟩
theorem putNumber_any (B P R base m:Nat) (st:SyT) (w:World) (h:SwS w B P R st) (hm:1≤m∧m<256) (hba:base≤28) (hN:st.2.1≤4000) (hl:st.1.length≤1000) :
  Calls Tryz.prog 64 #[.pointer (some ⟨P,0,none⟩),.int .i64 (m:Nat),.int .i64 (base:Nat)] w fun e w'=>e=.returned .nilIface∧SwS w' B P R (putN base m st)∧Below B w w'∧KeepS w w':=by
 obtain ⟨i0,hi,hz0,hz1,hz2⟩:=info_parts Tryz.infoI64
 obtain ⟨a,c,hP,ho⟩:=h.box
 have HS:Hid (SwS w B P R st∧w.heap[P]?=some (.cells #[.slice a st.1.length c,.pointer (some ⟨R,0,none⟩)] 68 (0,0))∧OVI w B (.slice a st.1.length c) st.1):=⟨h,hP,ho⟩
 have c0:w.cell? ⟨P,0,none⟩=some (.slice a st.1.length c):=cellRR (j:=0) hP rfl
 have c1:w.cell? ⟨P,1,none⟩=some (.pointer (some ⟨R,0,none⟩)):=cellRR (j:=1) hP rfl
 have hB:B≤w.heap.size:=by obtain ⟨v,_,_,_,_,h5⟩:=h.wi;exact h5
 have hu:=ho.1
 obtain ⟨ts,n,V⟩:=st
 simp only at *
 have hc:=cl_fact hm.1 hm.2
 have HCL:=classOf_any m w hm.1 hm.2
 have hc7:=hc.2.2.1
 obtain ⟨k,hk⟩:∃ k,cl m=k:=⟨_,rfl⟩
 rw [hk] at HCL hc7
 have HK:Hid (cl m=k∧2 ^ k≤m∧m-2 ^ k<2 ^ k):=by
  refine ⟨hk,by rw [←hk];exact hc.1,?_⟩
  have h9:=hc.2.1
  rw [hk,Nat.pow_succ] at h9
  have h8:=hc.1
  rw [hk] at h8
  omega
 have HW:Hid (wrap64 ((m:Int)-wrap64 (2 ^ k))=((m-2 ^ k:Nat):Int)∧((base:Nat):Int)+(k:Nat)=((base+k:Nat):Int)):=by
  refine ⟨?_,by omega⟩
  rw [wpowS k (by omega)]
  have h9:=HK.out.2.1
  generalize 2 ^ k=Q at *
  rw [IntWalk.wrap64_in _ (by omega)]
  omega
 have HW2:Hid (IntKind.i64.wrap ((m:Int)-IntKind.i64.wrap (2 ^ k))=((m-2 ^ k:Nat):Int)∧True):=by
  refine ⟨?_,trivial⟩
  have h9:=HK.out.2.1
  have hm2:=hm.2
  have e1:IntKind.i64.wrap (2 ^ k)=((2 ^ k:Nat):Int):=by
   rw [show ((2:Int) ^ k)=((2 ^ k:Nat):Int) from by simp]
   generalize 2 ^ k=Q at *
   rw [IntKind.wrap_i64]
   omega
  rw [e1]
  generalize 2 ^ k=Q at *
  rw [show (m:Int)-((Q:Nat):Int)=((m-Q:Nat):Int) by omega]
  have h8:m-Q≤255:=by omega
  generalize m-Q=S at *
  rw [IntKind.wrap_i64]
  omega
 clear h hP ho hc hk
 go_enter Tryz.func64,Tryz.ntmps64
 go_wp2_with fail
 refine HCL.mono ?_
 clear HCL
 rintro e w9 ⟨rfl,hw9⟩
 rw [hw9]
 clear hw9
 go_wp2_with (at_builtin;(refine wpList_append_lies _ rfl (.tmp 14) (.tmp 18) 38 rfl B 3 i0 (.int .i64 0) 1 8 Tryz.underlying38 hi hz0 hz1 hz2 rfl (by decide) (.slice a ts.length c) ts.length (ts.map (Value.int .i64)) rfl (hu.alloc _) ⟨w.heap.size,0,none⟩ 1 1 [.int .i64 ((base:Int)+(k:Nat))] rfl rfl (by intro j y hj;match j,hj with | 0,hj=>(simp at hj;subst hj;simp [Addr.add])) (by intro y hy;simp at hy;subst hy;rfl) (by omega) (by unfold maxLen;omega) (by omega) (by simp;omega) _ rfl ?_);intro g cap1 w4 hown hgrow hat hlt1;have k4:=(HS.out.1.app HS.out.2.1 HS.out.2.2 _ (OVI.app rfl HS.out.2.2.2 (by omega) hown) hgrow).1;have k0:w4.cell? ⟨P,0,none⟩=some (.slice a ts.length c):=cellRR (j:=0) k4 rfl;have kf:=frozen_of_row w4 P 0 _ _ k4;have k1:w4.cell? ⟨P,1,none⟩=some (.pointer (some ⟨R,0,none⟩)):=cellRR (j:=1) k4 rfl)
 have HS4:Hid _:=(HS.out.1.app HS.out.2.1 HS.out.2.2 _ (OVI.app rfl HS.out.2.2.2 (by omega) hown) hgrow).2
 have HKS:Hid (KeepS w (w4.setCell ⟨P,0,none⟩ (.slice (some ⟨g,0,none⟩) (ts.length+1) cap1))):=app_keepS HS.out.2.2 _ hgrow k4
 clear hown hgrow hat hlt1 k4 hu c0 c1
 rw [HW.out.2] at HS4
 simp only at HS4
 have hP4:(w4.setCell ⟨P,0,none⟩ (.slice (some ⟨g,0,none⟩) (ts.length+1) cap1)).cell? ⟨P,1,none⟩=some (.pointer (some ⟨R,0,none⟩)):=by
  obtain ⟨a5,c5,h5,_⟩:=HS4.out.1.box
  exact cellRR (j:=1) h5 rfl
 have HP4:Hid ((w4.setCell ⟨P,0,none⟩ (.slice (some ⟨g,0,none⟩) (ts.length+1) cap1)).cell? ⟨P,1,none⟩=some (.pointer (some ⟨R,0,none⟩))∧True):=⟨hP4,trivial⟩
 clear k0 kf k1 hP4
 generalize w4.setCell ⟨P,0,none⟩ (.slice (some ⟨g,0,none⟩) (ts.length+1) cap1)=W5 at *
 go_region_held3 (fun W=>W.cell? ⟨P,1,none⟩=some (.pointer (some ⟨R,0,none⟩)))
  (first | exact HP4.out.1 | exact HP6.out.1)
  (first
   | (go_at_call 79;rw [HW2.out.1];refine ((HS4.out.1.wi.drewN 1).putK (m-2 ^ k) k (by omega) HK.out.2.2 (by simp only;omega)).mono ?_;rintro e w6 ⟨rfl,hs6,hb6,hk6⟩;have HY:Hid (SwS w6 B P R (putN base m (ts,n,V))∧Below B w w6∧KeepS w w6):=(by unfold putN;rw [HK.out.1];have hk7:KeepT R W5 w6:=(fun g cur T h1 h2 h3=>hk6 g cur T h1 h2 h3);exact ⟨HS4.out.1.put hs6 hk7,HS4.out.2.trans ⟨hb6.os,hb6.tape,hb6.output,hb6.size,hb6.block⟩,HKS.out.trans (HS4.out.1.wi.keepS hk7)⟩);have HP6:Hid (w6.cell? ⟨P,1,none⟩=some (.pointer (some ⟨R,0,none⟩))∧True):=(by obtain ⟨a5,c5,h5,_⟩:=HY.out.1.box;exact ⟨cellRR (j:=1) h5 rfl,trivial⟩);clear hs6 hb6 hk6))
 clear HP4 HP6
 go_wp2
 go_ret
 exact ⟨rfl,HY.out⟩
theorem SwS.below {w w':World} {B P R:Nat} {st:SyT} (h:SwS w B P R st) (hb:Below w.heap.size w w'):SwS w' B P R st:=by
 obtain ⟨a,c,h1,h2⟩:=h.box
 exact ⟨⟨a,c,(hb.block P (Array.getElem?_eq_some_iff.1 h1).1).trans h1,h2.below hb⟩,h.wi.stay hb,h.BP⟩
theorem putSeq_any (B P R:Nat) (qa:Option Addr) (qc:Nat) (ql:List Int) (qn qd:Int) (st:SyT) (w0 w:World) (hB:w0.heap.size=B) (hbel:Below B w0 w) (h:SwS w B P R st) (hby:Byt w0 qa ql) (hnm:qn=0∨(3≤qn∧qn≤64∧1≤qd∧qd≤64)) (hbn:st.1.length+ql.length≤200∧st.2.1+4*ql.length≤1000) :
  Calls Tryz.prog 43 #[.pointer (some ⟨P,0,none⟩),.agg #[.slice qa ql.length qc,.int .i64 qn,.int .i64 qd]] w fun e w'=>e=.returned .nilIface∧SwS w' B P R (putQ st ⟨qa,qc,ql,qn,qd⟩)∧Below B w0 w':=by
 have hBw:B≤w.heap.size:=by have:=hbel.size;omega
 have hA:Below w.heap.size w (w.alloc (Obj.cells #[.slice qa ql.length qc,.int .i64 qn,.int .i64 qd] 37)):=bAw
 have HST:Hid (SwS (w.alloc (Obj.cells #[.slice qa ql.length qc,.int .i64 qn,.int .i64 qd] 37)) B P R st∧Below B w0 (w.alloc (Obj.cells #[.slice qa ql.length qc,.int .i64 qn,.int .i64 qd] 37))∧(w.alloc (Obj.cells #[.slice qa ql.length qc,.int .i64 qn,.int .i64 qd] 37)).heap[w.heap.size]?=some (.cells #[.slice qa ql.length qc,.int .i64 qn,.int .i64 qd] 37 (0,0))):=⟨h.below hA,hbel.trans (hA.mono hBw),heap_alloc_new w _⟩
 have HBY:Hid (Byt w0 qa ql∧w0.heap.size=B):=⟨hby,hB⟩
 clear h hA hbel hby hB
 go_enter Tryz.func43,Tryz.ntmps43
 go_wp2
 have HX:Hid (∃ W1,W1=w.alloc (Obj.cells #[.slice qa ql.length qc,.int .i64 qn,.int .i64 qd] 37)):=⟨_,rfl⟩
 clear HX
 go_loopw [12] (fun jv wi=>∃ j:Nat,j≤ql.length∧jv=.int .i64 j∧SwS wi B P R (putLs (ql.take j) st)∧Below B w0 wi∧wi.heap[w.heap.size]?=some (.cells #[.slice qa ql.length qc,.int .i64 qn,.int .i64 qd] 37 (0,0))) (fun jv _=>ql.length-(intOf jv).toNat)
 case atStart=>exact ⟨0,Nat.zero_le _,rfl,by simpa [putLs] using HST.out.1,HST.out.2.1,HST.out.2.2⟩
 case round=>
  clear HST
  obtain ⟨j,hj,rfl,hsy,hbel,hX⟩:=hrel
  have hpl:=putLs_len (ql.take j) st
  have htl:(ql.take j).length=j:=by rw [List.length_take];omega
  rw [htl] at hpl
  have HS:Hid (SwS wr B P R (putLs (ql.take j) st)∧Below B w0 wr∧wr.heap[w.heap.size]?=some (.cells #[.slice qa ql.length qc,.int .i64 qn,.int .i64 qd] 37 (0,0))):=⟨hsy,hbel,hX⟩
  have x1:wr.cell? ⟨w.heap.size,1,none⟩=some (.int .i64 qn):=cellRR (j:=1) hX rfl
  have x2:wr.cell? ⟨w.heap.size,2,none⟩=some (.int .i64 qd):=cellRR (j:=2) hX rfl
  have hby:=HBY.out.1.below hbel (by rw [HBY.out.2];exact Nat.le_refl _)
  clear hsy hbel hX htl
  by_cases hjl:j<ql.length
  ·obtain ⟨lb,lo,rfl,hlb,hlc⟩:=hby.len_pos j hjl
   have hc:=hlc j hjl
   have hr:=getD_rng hby.1 j
   have HPT:Hid (putLs (ql.take (j+1)) st=putL (putLs (ql.take j) st) (ql.getD j 0)∧True):=⟨putLs_take ql st j hjl,trivial⟩
   have HC:=putLetter_any B P R (ql.getD j 0) (putLs (ql.take j) st) wr HS.out.1 hr (by omega) (by omega)
   clear hby hlc
   generalize ql.getD j 0=z at *
   go_wp2_with fail
   refine HC.mono ?_
   clear HC
   rintro e w5 ⟨rfl,hs5,hb5,hk5⟩
   have HS5:Hid (SwS w5 B P R (putLs (ql.take (j+1)) st)∧Below B w0 w5∧w5.heap[w.heap.size]?=some (.cells #[.slice (some ⟨lb,lo,none⟩) ql.length qc,.int .i64 qn,.int .i64 qd] 37 (0,0))):=⟨by rw [HPT.out.1];exact hs5,HS.out.2.1.trans hb5,hk5 _ _ HS.out.2.2⟩
   clear hs5 hb5 hk5 HS
   go_wp2
   go_roundw
   case rel=>exact ⟨j+1,by omega,by go_num,HS5.out.1,HS5.out.2.1,HS5.out.2.2⟩
   case measure=>simp [intOf];omega
  ·have hjl2:j=ql.length:=by omega
   subst hjl2
   rw [List.take_length] at HS hpl
   clear hby
   by_cases hq0:qn=0
   ·have HSF:Hid (SwS wr B P R (putQ st ⟨qa,qc,ql,qn,qd⟩)∧Below B w0 wr):=by
     unfold putQ
     rw [if_pos hq0]
     exact ⟨HS.out.1,HS.out.2.1⟩
    subst hq0
    clear HS
    go_wp2
    go_ret
    exact ⟨rfl,HSF.out⟩
   ·have hq1:=hnm.resolve_left hq0
    obtain ⟨m1,rfl⟩:=Int.eq_ofNat_of_zero_le (show 0≤qn by omega)
    obtain ⟨m2,rfl⟩:=Int.eq_ofNat_of_zero_le (show 0≤qd by omega)
    have hm1:3≤m1∧m1≤64∧1≤m2∧m2≤64:=by omega
    have hcl:=cl_fact (n:=m1-2) (by omega) (by omega)
    have HC:=putNumber_any B P R 16 (m1-2) (putLs ql st) wr HS.out.1 ⟨by omega,by omega⟩ (by omega) (by omega) (by omega)
    have e1:(((m1-2:Nat)):Int)=(m1:Int)-3+1:=by omega
    rw [e1] at HC
    have HQ:Hid (putQ st ⟨qa,qc,ql,(m1:Nat),(m2:Nat)⟩=putN 28 m2 (putN 16 (m1-2) (putLs ql st))∧(putN 16 (m1-2) (putLs ql st)).2.1≤4000∧(putN 16 (m1-2) (putLs ql st)).1.length≤1000):=by
     refine ⟨?_,?_,?_⟩
     ·unfold putQ
      rw [if_neg hq0]
      simp
     ·simp only [putN];omega
     ·simp only [putN,List.length_append,List.length_cons,List.length_nil];omega
    have hmp:((m1:Int) == 0)=false:=by rw [beq_eq_false_iff_ne];omega
    clear e1 hq0 hq1 hnm hcl hpl
    go_wp2_with fail
    refine HC.mono ?_
    clear HC
    rintro e w5 ⟨rfl,hs5,hb5,hk5⟩
    have hX5:=hk5 _ _ HS.out.2.2
    have x2':w5.cell? ⟨w.heap.size,2,none⟩=some (.int .i64 (m2:Nat)):=cellRR (j:=2) hX5 rfl
    have HC:=putNumber_any B P R 28 m2 _ w5 hs5 ⟨by omega,by omega⟩ (by omega) HQ.out.2.1 HQ.out.2.2
    have HB5:Hid (Below B w0 w5):=HS.out.2.1.trans hb5
    clear hs5 hb5 hk5 hX5 HS x1 x2
    go_wp2_with fail
    refine HC.mono ?_
    clear HC
    rintro e w6 ⟨rfl,hs6,hb6,hk6⟩
    have HSF:Hid (SwS w6 B P R (putQ st ⟨qa,qc,ql,(m1:Nat),(m2:Nat)⟩)∧Below B w0 w6):=⟨by rw [HQ.out.1];exact hs6,HB5.out.trans hb6⟩
    clear hs6 hb6 hk6
    go_wp2
    go_ret
    exact ⟨rfl,HSF.out⟩
end Go.Proofs.YtfeokafkhnbdiaaGreatDoor
