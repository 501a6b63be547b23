import Derived.Test.YtjmcjbmjgpponaaGreatDoorSy1
set_option maxRecDepth 20000
set_option maxHeartbeats 16000000
namespace Go.Proofs.YtjmcjbmjgpponaaGreatDoor
open Go.RowKit
set_option linter.unusedVariables false
set_option linter.unusedSimpArgs false
structure SyOk (ss:List Sq):Prop where
 few:ss.length<=40
 lets:lets ss<=64
 nums:∀ j,j<ss.length->(ss.getD j dq).n=0\/(3<=(ss.getD j dq).n/\(ss.getD j dq).n<=64/\1<=(ss.getD j dq).d/\(ss.getD j dq).d<=64)
theorem SyOk.of {ss:List Sq} (h:(sqn ss).isSome=true):SyOk ss:=⟨(z8k h).1,(z8k h).2.1,(z8k h).2.2⟩
theorem SyOk.bnd {ss:List Sq} (h:SyOk ss) (k:Nat) (hk:k<ss.length):(ze (ss.take k)).1.length+(ss.getD k dq).ls.length<=200/\(ze (ss.take k)).2.1+4*(ss.getD k dq).ls.length<=1000:=by
 have h1:=zkw h.nums k (by omega)
 have h2:=z2g ss k hk;have h3:=zea ss (k+1);have h4:=h.lets;have h5:=h.few
 omega
theorem zft {w:World} {B B':Nat} {T:TypeId} {sz:Nat} {v:Value} {n:Nat} {xs:List Value} (h:w.ownsRow B T sz v n xs) (hB:B'<=B):w.ownsRow B' T sz v n xs:=by
 refine ⟨h.1,?_⟩;rcases h.2 with h' | ⟨g,cap,cur,h',hg,r⟩
 ·exact .inl h'
 ·exact .inr ⟨g,cap,cur,h',by omega,r⟩
theorem zhy {S:Nat->Prop} {w w':World} {B B':Nat} {v:Value} {zs:List Int} (h:OwnV w B v zs) (ho:Only S w w') (hs:∀ k,B<=k->¬S k) (hB:B'<=B):OwnV w' B' v zs:=
 ⟨zft (zfy h.1 ho (fun k hk=>hs k (h.blk hk))) hB,h.2⟩
theorem zjz {S:Nat->Prop} {w w':World} {B B':Nat} {v:Value} {zs:List Int} (h:OVI w B v zs) (ho:Only S w w') (hs:∀ k,B<=k->¬S k) (hB:B'<=B):OVI w' B' v zs:=
 ⟨zft (zfy h.1 ho (fun k hk=>hs k (h.blk hk))) hB,h.2⟩
theorem zbt (a:Option Addr) (cap:Nat) (ss:List Sq) (w:World) (hb:Sqs w a ss) (hok:SyOk ss) :
  Calls Tryz.prog 89 #[.slice a ss.length cap] w fun e w'=>(∃ sa sc v,e=.returned (.tuple #[.slice sa (ze ss).1.length sc,.agg #[v,.int .i64 ((ze ss).2.1:Nat)]])/\OVI w' w.heap.size (.slice sa (ze ss).1.length sc) (ze ss).1/\OwnV w' w.heap.size v (enc (ze ss).2.1 (ze ss).2.2)/\(ze ss).2.2<2 ^ (ze ss).2.1)/\Below w.heap.size w w':=by
 have HB:Hid (Sqs w a ss/\SyOk ss):=⟨hb,hok⟩;have hfew:=hok.few;have HST:Hid (SyS (((w.alloc (Obj.cells #[.slice none 0 0,.int .i64 0] 106)).alloc (Obj.cells #[.slice none 0 0] 57)).alloc (Obj.cells #[.slice none 0 0,.int .i64 0] 106)) (w.heap.size+1) (w.heap.size+1) (w.heap.size+1+1) ([],0,0)/\Below (w.heap.size+1) (w.alloc (Obj.cells #[.slice none 0 0,.int .i64 0] 106)) (((w.alloc (Obj.cells #[.slice none 0 0,.int .i64 0] 106)).alloc (Obj.cells #[.slice none 0 0] 57)).alloc (Obj.cells #[.slice none 0 0,.int .i64 0] 106))):=by
  have h1:=SI.new ((w.alloc (Obj.cells #[.slice none 0 0,.int .i64 0] 106)).alloc (Obj.cells #[.slice none 0 0] 57)) (w.heap.size+1) (by simp)
  have h2:=heap_alloc_new (w.alloc (Obj.cells #[.slice none 0 0,.int .i64 0] 106)) (Obj.cells #[.slice none 0 0] 57);have hA:Below (w.heap.size+1+1) ((w.alloc (Obj.cells #[.slice none 0 0,.int .i64 0] 106)).alloc (Obj.cells #[.slice none 0 0] 57)) (((w.alloc (Obj.cells #[.slice none 0 0,.int .i64 0] 106)).alloc (Obj.cells #[.slice none 0 0] 57)).alloc (Obj.cells #[.slice none 0 0,.int .i64 0] 106)):=(Below.refl _ _).alloc (by simp) _
  refine ⟨⟨⟨none,0,?_,OVI.nil _ _⟩,by simpa using h1,by omega⟩,((Below.refl _ _).alloc (by simp) _).alloc (by simp) _⟩
  have h3:((w.alloc (Obj.cells #[.slice none 0 0,.int .i64 0] 106)).alloc (Obj.cells #[.slice none 0 0] 57)).heap[w.heap.size+1]?=some (.cells #[.slice none 0 0] 57 (0,0)):=by simpa using h2
  exact (hA.block (w.heap.size+1) (by omega)).trans h3
 have HBW:Hid (Below w.heap.size w (w.alloc (Obj.cells #[.slice none 0 0,.int .i64 0] 106))/\(w.alloc (Obj.cells #[.slice none 0 0,.int .i64 0] 106)).heap[w.heap.size]?=some (.cells #[.slice none 0 0,.int .i64 0] 106 (0,0))):=⟨(Below.refl _ _).alloc nl _,heap_alloc_new w _⟩;clear hb hok;generalize hlen:ss.length=n at *;have HLN:Hid (ss.length=n/\True):=⟨hlen,trivial⟩;clear hlen
 go_enter Tryz.func89,Tryz.ntmps89
 go_wp2
 generalize ((w.alloc (Obj.cells #[.slice none 0 0,.int .i64 0] 106)).alloc (Obj.cells #[.slice none 0 0] 57)).alloc (Obj.cells #[.slice none 0 0,.int .i64 0] 106)=W3 at *;generalize w.alloc (Obj.cells #[.slice none 0 0,.int .i64 0] 106)=W1 at *
 go_loopw [6] (fun i wr=>∃ k:Nat,k<=n/\i=.int .i64 k/\SyS wr (w.heap.size+1) (w.heap.size+1) (w.heap.size+1+1) (ze (ss.take k))/\Below (w.heap.size+1) W1 wr) (fun i _=>n-(intOf i).toNat)
 case atStart=>exact ⟨0,Nat.zero_le _,rfl,by simpa [ze] using HST.out.1,HST.out.2⟩
 case round=>
  clear HST;obtain ⟨k,hk,rfl,hsy,hbel⟩:=hrel;have HS:Hid (SyS wr (w.heap.size+1) (w.heap.size+1) (w.heap.size+1+1) (ze (ss.take k))/\Below (w.heap.size+1) W1 wr/\Below w.heap.size w wr):=⟨hsy,hbel,HBW.out.1.trans (hbel.mono (by omega))⟩
  clear hsy hbel
  by_cases hlt:k<n
  ·obtain ⟨b,off,rfl,hbw,hly⟩:=HB.out.1.len_pos k (by rw [HLN.out.1];exact hlt)
   have HLY:Hid (Lies w b (off+k*3) (ss.getD k dq)/\b<w.heap.size):=⟨hly k (by rw [HLN.out.1];exact hlt),hbw⟩
   have hbn:=HB.out.2.bnd k (by rw [HLN.out.1];exact hlt)
   have hnm:=HB.out.2.nums k (by rw [HLN.out.1];exact hlt)
   have HTK:Hid (ze (ss.take (k+1))=z39 (ze (ss.take k)) (ss.getD k dq)/\True):=⟨z40 ss k (by rw [HLN.out.1];exact hlt),trivial⟩
   clear hly hbw;generalize ss.getD k dq=q at *;generalize ze (ss.take k)=st at *;obtain ⟨qa,qc,ql,qn,qd⟩:=q
   simp only at hbn hnm
   have hl0:=HLY.out.1.below HS.out.2.2 nl HLY.out.2;have d0:=hl0.c0;have d1:=hl0.c1
   simp only at d0 d1
   clear hl0;go_wp2;clear d0 d1
   go_loopw [7] (fun jv wi=>∃ j:Nat,j<=ql.length/\jv=.int .i64 j/\SyS wi (w.heap.size+1) (w.heap.size+1) (w.heap.size+1+1) (z05 (ql.take j) st)/\Below (w.heap.size+1) W1 wi) (fun jv _=>ql.length-(intOf jv).toNat)
   case atStart=>exact ⟨0,Nat.zero_le _,rfl,by simpa [z05] using HS.out.1,HS.out.2.1⟩
   case round=>
    clear HS;obtain ⟨j,hj,rfl,hsy,hbel⟩:=hrel;have hbb:=HBW.out.1.trans (hbel.mono (by omega))
    have hl0:=HLY.out.1.below hbb nl HLY.out.2;have d0:=hl0.c0;have d1:=hl0.c1;have d2:=hl0.c2;have hby:=hl0.byt
    simp only at d0 d1 d2 hby
    have hpl:=z6a (ql.take j) st;have HS:Hid (SyS wr (w.heap.size+1) (w.heap.size+1) (w.heap.size+1+1) (z05 (ql.take j) st)/\Below (w.heap.size+1) W1 wr):=⟨hsy,hbel⟩;have HLY2:Hid (Lies wr b (off+k*3) ⟨qa,qc,ql,qn,qd⟩/\b<wr.heap.size/\w.heap.size+1<=wr.heap.size):=⟨hl0,Nat.lt_of_lt_of_le HLY.out.2 hbb.size,by obtain ⟨v,_,_,_,_,h5⟩:=hsy.si;exact h5⟩
    have htl:(ql.take j).length=j:=by rw [List.length_take];omega
    rw [htl] at hpl;clear hsy hbel hbb hl0 htl
    by_cases hjl:j<ql.length
    ·obtain ⟨lb,lo,rfl,hlb,hlc⟩:=hby.len_pos j hjl
     have hc:=hlc j hjl;have hr:=z0s hby.1 j;have HPT:Hid (z05 (ql.take (j+1)) st=z44 (z05 (ql.take j) st) (ql.getD j 0)/\True):=⟨zgs ql st j hjl,trivial⟩;have HC:=zdu (w.heap.size+1) (w.heap.size+1) (w.heap.size+1+1) (ql.getD j 0) (z05 (ql.take j) st) wr HS.out.1 hr (by omega) (by omega)
     clear hby hlc;generalize ql.getD j 0=z at *;go_wp2_with fail
     refine HC.mono ?_;clear HC;rintro e w5 ⟨rfl,hs5,hb5⟩;have HS5:Hid (SyS w5 (w.heap.size+1) (w.heap.size+1) (w.heap.size+1+1) (z05 (ql.take (j+1)) st)/\Below (w.heap.size+1) W1 w5):=⟨by rw [HPT.out.1];exact hs5,HS.out.2.trans hb5⟩
     clear hs5 hb5 HS;go_wp2;go_roundw
     case rel=>exact ⟨j+1,by omega,by go_num,HS5.out.1,HS5.out.2⟩
     case measure=>simp [intOf];omega
    ·have hjl2:j=ql.length:=by omega
     subst hjl2;rw [List.take_length] at HS hpl
     by_cases hq0:qn=0
     ·have HSF:Hid (SyS wr (w.heap.size+1) (w.heap.size+1) (w.heap.size+1+1) (ze (ss.take (k+1)))/\Below (w.heap.size+1) W1 wr):=by
       rw [HTK.out.1];unfold z39;rw [if_pos hq0];exact HS.out
      subst hq0;clear HS;go_wp2;go_roundw
      case rel=>exact ⟨k+1,by omega,by go_num,HSF.out.1,HSF.out.2⟩
      case measure=>simp [intOf];omega
     ·have hq1:=hnm.resolve_left hq0
      obtain ⟨m1,rfl⟩:=Int.eq_ofNat_of_zero_le (show 0<=qn by omega)
      obtain ⟨m2,rfl⟩:=Int.eq_ofNat_of_zero_le (show 0<=qd by omega)
      have hm1:3<=m1/\m1<=64/\1<=m2/\m2<=64:=by omega
      have hcl:=z25 (n:=m1-2) (by omega) (by omega)
      have HC:=z6f (w.heap.size+1) (w.heap.size+1) (w.heap.size+1+1) 16 (m1-2) (z05 ql st) wr HS.out.1 ⟨by omega,by omega⟩ (by omega) (by omega) (by omega)
      have e1:(((m1-2:Nat)):Int)=(m1:Int)-3+1:=by omega
      rw [e1] at HC;have HQ:Hid (ze (ss.take (k+1))=z12 28 m2 (z12 16 (m1-2) (z05 ql st))/\(z12 16 (m1-2) (z05 ql st)).2.1<=4000/\(z12 16 (m1-2) (z05 ql st)).1.length<=1000):=by
       refine ⟨?_,?_,?_⟩
       ·rw [HTK.out.1]
        unfold z39;rw [if_neg hq0]
        simp
       ·simp only [z12];omega
       ·simp only [z12,List.length_append,List.length_cons,List.length_nil];omega
      have hmp:(0:Int)<(m1:Int):=by omega
      clear e1 hq0 hq1 hnm hcl hpl;go_wp2_with fail
      refine HC.mono ?_;clear HC;rintro e w5 ⟨rfl,hs5,hb5⟩;have hb51:=HS.out.2.trans hb5;have d2':=(HLY.out.1.below (HBW.out.1.trans (hb51.mono (by omega))) nl HLY.out.2).c2
      simp only at d2'
      have HC:=z6f (w.heap.size+1) (w.heap.size+1) (w.heap.size+1+1) 28 m2 _ w5 hs5 ⟨by omega,by omega⟩ (by omega) HQ.out.2.1 HQ.out.2.2
      have HB5:Hid (Below (w.heap.size+1) W1 w5):=hb51;clear hs5 hb5 hb51 HS d0 d1 d2;go_wp2_with fail
      refine HC.mono ?_;clear HC;rintro e w6 ⟨rfl,hs6,hb6⟩;have HSF:Hid (SyS w6 (w.heap.size+1) (w.heap.size+1) (w.heap.size+1+1) (ze (ss.take (k+1)))/\Below (w.heap.size+1) W1 w6):=⟨by rw [HQ.out.1];exact hs6,HB5.out.trans hb6⟩
      clear hs6 hb6;go_wp2;go_roundw
      case rel=>exact ⟨k+1,by omega,by go_num,HSF.out.1,HSF.out.2⟩
      case measure=>simp [intOf];omega
  ·have hkn:k=n:=by omega
   subst hkn;have HTE:Hid (ze (ss.take k)=ze ss/\True):=⟨by rw [List.take_of_length_le (by rw [HLN.out.1];exact Nat.le_refl _)],trivial⟩
   rw [HTE.out.1] at HS;obtain ⟨sa,sc,hP,hov⟩:=HS.out.1.box;obtain ⟨v,hR,hv,hV,hBR,-⟩:=HS.out.1.si;obtain ⟨va,vc,rfl,-⟩:=hv.mine;have hX:wr.heap[w.heap.size]?=some (.cells #[.slice none 0 0,.int .i64 0] 106 (0,0)):=(HS.out.2.1.block w.heap.size (by omega)).trans HBW.out.2
   have HRES:Hid (OVI (((wr.setCell ⟨w.heap.size,0,none⟩ (.slice va (enc (ze ss).2.1 (ze ss).2.2).length vc)).setCell ⟨w.heap.size,1,none⟩ (.int .i64 ((ze ss).2.1:Nat))).drew) w.heap.size (.slice sa (ze ss).1.length sc) (ze ss).1/\OwnV (((wr.setCell ⟨w.heap.size,0,none⟩ (.slice va (enc (ze ss).2.1 (ze ss).2.2).length vc)).setCell ⟨w.heap.size,1,none⟩ (.int .i64 ((ze ss).2.1:Nat))).drew) w.heap.size (.slice va (enc (ze ss).2.1 (ze ss).2.2).length vc) (enc (ze ss).2.1 (ze ss).2.2)/\(ze ss).2.2<2 ^ (ze ss).2.1/\Below w.heap.size w (((wr.setCell ⟨w.heap.size,0,none⟩ (.slice va (enc (ze ss).2.1 (ze ss).2.2).length vc)).setCell ⟨w.heap.size,1,none⟩ (.int .i64 ((ze ss).2.1:Nat))).drew)):=by
    have ho:Only (fun b=>b=w.heap.size) wr (((wr.setCell ⟨w.heap.size,0,none⟩ (.slice va (enc (ze ss).2.1 (ze ss).2.2).length vc)).setCell ⟨w.heap.size,1,none⟩ (.int .i64 ((ze ss).2.1:Nat))).drew):=by
     exact (((Only.refl (fun b=>b=w.heap.size) wr).setCell (p:=⟨w.heap.size,0,none⟩) (.inl rfl) _).setCell (p:=⟨w.heap.size,1,none⟩) (.inl rfl) _).drew
    exact ⟨zjz hov ho (fun k hk=>by omega) (by omega),zhy hv ho (fun k hk=>by omega) (by omega),hV,HS.out.2.2.trans (ho.below (by have:=HS.out.2.2.size;omega) (fun k hk=>by omega))⟩
   have x0:wr.cell? ⟨w.heap.size,0,none⟩=some (.slice none 0 0):=zd (j:=0) hX rfl;have x1:wr.cell? ⟨w.heap.size,1,none⟩=some (.int .i64 0):=zd (j:=1) hX rfl;have y0:=frozen_of_row wr w.heap.size 0 _ _ hX;have y1:=frozen_of_row wr w.heap.size 1 _ _ hX;have p0:wr.cell? ⟨w.heap.size+1,0,none⟩=some (.slice sa (ze ss).1.length sc):=zd (j:=0) hP rfl;have r0:wr.cell? ⟨w.heap.size+1+1,0,none⟩=some (.slice va (enc (ze ss).2.1 (ze ss).2.2).length vc):=zd (j:=0) hR rfl
   have r1:wr.cell? ⟨w.heap.size+1+1,1,none⟩=some (.int .i64 ((ze ss).2.1:Nat)):=zd (j:=1) hR rfl;clear hP hov hR hv hV hX HS HTE HB;have HRL:Hid (∃ L,(enc (ze ss).2.1 (ze ss).2.2).length=L):=⟨_,rfl⟩;obtain ⟨L,hL⟩:=HRL.out;rw [hL] at r0 HRES;clear hL HRL;go_wp2
   go_region
   all_goals go_wp2
   all_goals exact bodyPost_ret (v:=.tuple #[.slice sa (ze ss).1.length sc,.agg #[.slice va L vc,.int .i64 ((ze ss).2.1:Nat)]]) (by simp [results,Tryz.results89,go_sem,x0,x1]) rfl ⟨⟨sa,sc,.slice va L vc,rfl,HRES.out.1,HRES.out.2.1,HRES.out.2.2.1⟩,HRES.out.2.2.2⟩
structure SwS (w:World) (B P R:Nat) (st:SyT):Prop where
 box:∃ a c,w.heap[P]?=some (.cells #[.slice a st.1.length c,.pointer (some ⟨R,0,none⟩)] 180 (0,0))/\OVI w B (.slice a st.1.length c) st.1
 wi:WI w B R st.2.1 st.2.2
 BP:B<=P
def zri (w w':World):Prop:=∀ (X:Nat) (cur:Array Value),w.heap[X]?=some (.cells cur 146 (0,0))->w'.heap[X]?=some (.cells cur 146 (0,0))
theorem zes (a:Option Addr) (c:Nat) (zs:List Int) (n d:Int) (m:Nat) (w:World) (hm:m<=64) (rn:rI n) (rd:rI d) :
  Calls Tryz.prog 172 #[.agg #[.slice a zs.length c,.int .i64 n,.int .i64 d],.int .i64 m] w fun e w'=>e=.returned (.bool (decide (3<=n/\n<=64-(m:Int)/\1<=d/\d<=(m:Int))))/\Below w.heap.size w w':=by
 have hw:Bw w (w.alloc (Obj.cells #[.slice a zs.length c,.int .i64 n,.int .i64 d] 146)):=bAw;obtain ⟨rn1,rn2⟩:=rn;obtain ⟨rd1,rd2⟩:=rd
 by_cases q:3<=n/\n<=64-(m:Int)/\1<=d/\d<=(m:Int)
 ·have HE:Hid (decide (3<=n/\n<=64-(m:Int)/\1<=d/\d<=(m:Int))=true):=by simpa [Hid] using q
  generalize decide (3<=n/\n<=64-(m:Int)/\1<=d/\d<=(m:Int))=E at *;obtain ⟨q1,q2,q3,q4⟩:=q
  go_enter Tryz.func172,Tryz.ntmps172
  go_wp2
  go_ret;exact ⟨by rw [HE.out];first | rfl | (simp;omega),hw⟩
 ·have HE:Hid (decide (3<=n/\n<=64-(m:Int)/\1<=d/\d<=(m:Int))=false):=by simpa only [Hid,decide_eq_false_iff_not] using q
  have key:n<3\/(3<=n/\64-(m:Int)<n)\/(3<=n/\n<=64-(m:Int)/\d<1)\/(3<=n/\n<=64-(m:Int)/\1<=d/\(m:Int)<d):=by omega
  generalize decide (3<=n/\n<=64-(m:Int)/\1<=d/\d<=(m:Int))=E at *;clear q;rcases key with q1 | ⟨q1,q2⟩ | ⟨q1,q2,q3⟩ | ⟨q1,q2,q3,q4⟩
  all_goals
   go_enter Tryz.func172,Tryz.ntmps172
   go_wp2
   go_ret;exact ⟨by rw [HE.out];first | rfl | (simp;omega),hw⟩
theorem zgo (a:Option Addr) (c:Nat) (zs:List Int) (n d:Int) (w:World) (hl:zs.length<=281474976710656) :
  Calls Tryz.prog 173 #[.agg #[.slice a zs.length c,.int .i64 n,.int .i64 d]] w fun e w'=>e=.returned (.bool (decide (n=0/\d=0/\0<zs.length)))/\Below w.heap.size w w':=by
 have hw:Bw w (w.alloc (Obj.cells #[.slice a zs.length c,.int .i64 n,.int .i64 d] 146)):=bAw
 by_cases q1:n=0
 ·by_cases q2:d=0
  ·by_cases q3:0<zs.length
   ·have HE:Hid (decide (n=0/\d=0/\0<zs.length)=true):=by unfold Hid;rw [decide_eq_true_eq];exact ⟨q1,q2,q3⟩
    generalize decide (n=0/\d=0/\0<zs.length)=E at *;subst q1 q2;have q3':(0:Int)<zs.length:=by omega
    go_enter Tryz.func173,Tryz.ntmps173
    go_wp2
    go_ret;exact ⟨by rw [HE.out];first | rfl | (simp;omega),hw⟩
   ·have HE:Hid (decide (n=0/\d=0/\0<zs.length)=false):=by unfold Hid;rw [decide_eq_false_iff_not];exact fun h=>q3 h.2.2
    generalize decide (n=0/\d=0/\0<zs.length)=E at *;subst q1 q2;obtain rfl:zs=[]:=List.eq_nil_of_length_eq_zero (by omega)
    clear q3
    go_enter Tryz.func173,Tryz.ntmps173
    go_wp2
    go_ret;exact ⟨by rw [HE.out];first | rfl | (simp;omega),hw⟩
  ·have HE:Hid (decide (n=0/\d=0/\0<zs.length)=false):=by unfold Hid;rw [decide_eq_false_iff_not];exact fun h=>q2 h.2.1
   have q2':(d == 0)=false:=by rw [beq_eq_false_iff_ne];exact q2
   generalize decide (n=0/\d=0/\0<zs.length)=E at *;subst q1;clear q2
   go_enter Tryz.func173,Tryz.ntmps173
   go_wp2
   go_ret;exact ⟨by rw [HE.out];first | rfl | (simp;omega),hw⟩
 ·have HE:Hid (decide (n=0/\d=0/\0<zs.length)=false):=by unfold Hid;rw [decide_eq_false_iff_not];exact fun h=>q1 h.1
  have q1':(n == 0)=false:=by rw [beq_eq_false_iff_ne];exact q1
  generalize decide (n=0/\d=0/\0<zs.length)=E at *;clear q1
  go_enter Tryz.func173,Tryz.ntmps173
  go_wp2
  go_ret;exact ⟨by rw [HE.out];first | rfl | (simp;omega),hw⟩
def sqz (ss:List Sq):Int:=match sqn ss with
 | some m=>m
 | none=>-1
theorem z59 {ss:List Sq} (h:sqn ss=none):sqz ss=-1:=by simp [sqz,h]
theorem z7y {ss:List Sq} {m:Nat} (h:sqn ss=some m):sqz ss=m:=by simp [sqz,h]
theorem zls {last:Bool} {m:Nat} {s:Sq} (h:¬64<m+s.ls.length) (q:3<=s.n/\s.n<=64-((m+s.ls.length:Nat):Int)/\1<=s.d/\s.d<=((m+s.ls.length:Nat):Int)):stp last m s=some (m+s.ls.length+s.n.toNat):=by
 rw [z28 h (by omega),if_pos q]
theorem zmw {last:Bool} {m:Nat} {s:Sq} (h:¬64<m+s.ls.length) (hl:last=true) (q:s.n=0/\s.d=0/\0<s.ls.length):stp last m s=some (m+s.ls.length+s.n.toNat):=by
 rw [z2i h q.1,if_pos ⟨q.2.1,hl,q.2.2⟩,q.1]
 simp
theorem zpg {last:Bool} {m:Nat} {s:Sq} (h:¬64<m+s.ls.length) (q1:¬(3<=s.n/\s.n<=64-((m+s.ls.length:Nat):Int)/\1<=s.d/\s.d<=((m+s.ls.length:Nat):Int))) (q2:¬(last=true/\s.n=0/\s.d=0/\0<s.ls.length)):stp last m s=none:=by
 by_cases h0:s.n=0
 ·rw [z2i h h0,if_neg (fun hh=>q2 ⟨hh.2.1,h0,hh.1,hh.2.2⟩)]
 ·rw [z28 h h0,if_neg q1]
theorem z3a (a:Option Addr) (cap:Nat) (ss:List Sq) (w:World) (hb:Sqs w a ss) (hx:ss.length<=281474976710656) (hxl:∀ s ∈ ss,s.ls.length<=281474976710656) :
  Calls Tryz.prog 149 #[.slice a ss.length cap] w fun e w'=>e=.returned (.int .i64 (sqz ss))/\Below w.heap.size w w':=by
 by_cases h40:ss.length<=40
 ·have HSS:Hid (Sqs w a ss):=hb
  have HXL:Hid (∀ s ∈ ss,s.ls.length<=281474976710656):=hxl;have HST:Hid _:=fun k m=>@z1v ss k m
  have HNO:Hid _:=fun k m=>@ze1 ss k m
  have HYE:Hid _:=fun m=>@z4w ss m
  have HZN:Hid _:=@z59 ss;have HZS:Hid _:=@z7y ss;clear hb hxl;generalize hlen:ss.length=n at *;have HL:Hid (ss.length=n):=hlen;clear hlen;generalize sqz ss=Z at *
  go_enter Tryz.func149,Tryz.ntmps149
  go_wp2
  go_loopw [3,12] (fun x i wr=>∃ k m:Nat,k<=n/\m<=64/\i=.int .i64 k/\x=.int .i64 m/\sqc ss k=some m/\Below w.heap.size w wr) (fun _ i _=>n-(intOf i).toNat)
  case atStart=>exact ⟨0,0,Nat.zero_le _,by omega,rfl,rfl,rfl,Below.refl _ _⟩
  case round=>
   obtain ⟨k,m,hk,hm,rfl,rfl,hsq,hbel⟩:=hrel;have HSQ:Hid (sqc ss k=some m):=hsq;clear hsq
   by_cases hlt:k<n
   ·obtain ⟨b,off,rfl,hb1,hc1⟩:=(HSS.out.below hbel nl).len_pos k (by rw [HL.out];exact hlt)
    have hli:=hc1 k (by rw [HL.out];exact hlt)
    have hrg:=HSS.out.rng k (by rw [HL.out];exact hlt)
    have hll:=HXL.out _ (z2t (k:=k) (by rw [HL.out];exact hlt))
    have HS:=HST.out k m HSQ.out;have HN:=HNO.out k m HSQ.out hlt;clear hc1;generalize ss.getD k dq=s at *;obtain ⟨sa,sc,sl,sn,sd⟩:=s;obtain ⟨c0,c1,c2,hby⟩:=hli
    simp only at c0 c1 c2 hrg hll
    have HRG:Hid (rI sn/\rI sd):=⟨hrg.1,hrg.2.1⟩;obtain ⟨⟨rn1,rn2⟩,⟨rd1,rd2⟩,-⟩:=hrg;have HB2:Hid (Bw w (wr.alloc (Obj.cells #[.slice sa sl.length sc,.int .i64 sn,.int .i64 sd] 146))):=hbel.alloc hbel.size _;have HW:Hid (wr.heap.size<(wr.alloc (Obj.cells #[.slice sa sl.length sc,.int .i64 sn,.int .i64 sd] 146)).heap.size):=by simp [Hid]
    clear hby
    by_cases g1:64<m+sl.length
    ·have HF:Hid (Z=-1):=HZN.out (HN (z4x g1))
     have g1':64-(m:Int)<sl.length:=by omega
     clear HS HN;go_wp2;go_ret;exact ⟨by rw [HF.out];rfl,HB2.out⟩
    ·have g1':¬64-(m:Int)<sl.length:=by omega
     have HN1:=fun q1 q2=>HN (zpg (s:=⟨sa,sc,sl,sn,sd⟩) g1 q1 q2)
     have HY1:=fun q=>HS.trans (zls (s:=⟨sa,sc,sl,sn,sd⟩) g1 q)
     have HY2:=fun hl q=>HS.trans (zmw (s:=⟨sa,sc,sl,sn,sd⟩) g1 hl q)
     simp only at HN1 HY1 HY2
     have r0:(wr.alloc (Obj.cells #[.slice sa sl.length sc,.int .i64 sn,.int .i64 sd] 146)).cell? ⟨wr.heap.size,0,none⟩=some (.slice sa sl.length sc):=by simp
     have r1:(wr.alloc (Obj.cells #[.slice sa sl.length sc,.int .i64 sn,.int .i64 sd] 146)).cell? ⟨wr.heap.size,1,none⟩=some (.int .i64 sn):=by simp
     have r2:(wr.alloc (Obj.cells #[.slice sa sl.length sc,.int .i64 sn,.int .i64 sd] 146)).cell? ⟨wr.heap.size,2,none⟩=some (.int .i64 sd):=by simp
     have HPC:=zes sa sc sl sn sd (m+sl.length) (wr.alloc (Obj.cells #[.slice sa sl.length sc,.int .i64 sn,.int .i64 sd] 146)) (by omega) HRG.out.1 HRG.out.2
     have hcast:((m+sl.length:Nat):Int)=(m:Int)+sl.length:=by omega
     rw [hcast] at HPC HN1 HY1;clear HS HN hcast;go_wp2_with fail
     generalize wr.alloc (Obj.cells #[.slice sa sl.length sc,.int .i64 sn,.int .i64 sd] 146)=W at *;refine HPC.mono ?_;clear HPC;rintro e w1 ⟨rfl,hb2⟩;have q0:=keep hb2 HW.out r0;have q1:=keep hb2 HW.out r1;have q2:=keep hb2 HW.out r2;have HB3:Hid (Bw w w1):=HB2.out.trans (hb2.mono HB2.out.size);clear hb2 r0 r1 r2 c0 c1 c2
     by_cases q:3<=sn/\sn<=64-((m:Int)+sl.length)/\1<=sd/\sd<=(m:Int)+sl.length
     ·rw [decide_eq_true q]
      have HS2:Hid (sqc ss (k+1)=some (m+sl.length+sn.toNat)):=HY1 q;obtain ⟨u1,u2,u3,u4⟩:=q;clear HN1 HY1 HY2;go_wp2;go_roundw
      case rel=>exact ⟨k+1,m+sl.length+sn.toNat,by omega,by omega,by go_num,by go_num,HS2.out,HB3.out⟩
      case measure=>simp [intOf];omega
     ·rw [decide_eq_false q]
      have HNQ:Hid (¬(3<=sn/\sn<=64-((m:Int)+sl.length)/\1<=sd/\sd<=(m:Int)+sl.length)):=q;clear HY1 q
      by_cases hla:k+1=n
      ·have hla':((k:Int) == (n:Int)-1)=true:=by rw [beq_iff_eq];omega
       have HRS:=zgo sa sc sl sn sd w1 hll;go_wp2_with fail
       refine HRS.mono ?_;clear HRS;rintro e w2 ⟨rfl,hb4⟩;have hz1:wr.heap.size<w1.heap.size:=World.block_lt_of_cell? _ _ q0;have v1:=keep hb4 hz1 q1;have HB4:Hid (Bw w w2):=HB3.out.trans (hb4.mono HB3.out.size);clear hb4 q0 q1 q2
       by_cases qr:sn=0/\sd=0/\0<sl.length
       ·rw [decide_eq_true qr]
        have HS2:Hid (sqc ss (k+1)=some (m+sl.length+sn.toNat)):=HY2 (by simpa using hla) qr
        obtain ⟨rfl,rfl,u3⟩:=qr;clear HN1 HY2;go_wp2;go_roundw
        case rel=>exact ⟨k+1,m+sl.length+(0:Int).toNat,by omega,by simp;omega,by go_num,by go_num,HS2.out,HB4.out⟩
        case measure=>simp [intOf];omega
       ·rw [decide_eq_false qr]
        have HF:Hid (Z=-1):=HZN.out (HN1 HNQ.out (fun h=>qr h.2))
        clear HN1 HY2 qr;go_wp2;go_ret;exact ⟨by rw [HF.out];rfl,HB4.out⟩
      ·have hla':((k:Int) == (n:Int)-1)=false:=by rw [beq_eq_false_iff_ne];omega
       have HF:Hid (Z=-1):=HZN.out (HN1 HNQ.out (fun h=>hla (by simpa using h.1)))
       clear HN1 HY2;go_wp2;go_ret;exact ⟨by rw [HF.out];rfl,HB3.out⟩
   ·have hkn:k=n:=by omega
    subst hkn;have HF:Hid (Z=(m:Int)):=HZS.out (HYE.out m HSQ.out h40);go_wp2;go_ret;exact ⟨by rw [HF.out];rfl,hbel⟩
 ·have HF:Hid (sqz ss=-1):=z59 (zfw (by omega))
  go_enter Tryz.func149,Tryz.ntmps149
  go_wp2
  go_ret;exact ⟨by rw [HF.out];rfl,Below.refl _ _⟩
theorem z9n (a:Option Addr) (cap:Nat) (ss:List Sq) (w:World) (hb:Sqs w a ss) (hx:ss.length<=281474976710656) (hxl:∀ s ∈ ss,s.ls.length<=281474976710656) :
  Calls Tryz.prog 130 #[.slice a ss.length cap] w fun e w'=>e=.returned (.bool (sqn ss).isSome)/\Below w.heap.size w w':=by
 have HSB:=z3a a cap ss w hb hx hxl
 cases hs:sqn ss with
 | none=>
  rw [z59 hs] at HSB
  go_enter Tryz.func130,Tryz.ntmps130
  go_wp2_with fail
  refine HSB.mono ?_;rintro e w1 ⟨rfl,hb1⟩;clear HSB;go_wp2;go_ret;exact ⟨rfl,hb1⟩
 | some m=>
  rw [z7y hs] at HSB
  go_enter Tryz.func130,Tryz.ntmps130
  go_wp2_with fail
  refine HSB.mono ?_;rintro e w1 ⟨rfl,hb1⟩;clear HSB;go_wp2;go_ret;exact ⟨rfl,hb1⟩
end Go.Proofs.YtjmcjbmjgpponaaGreatDoor
