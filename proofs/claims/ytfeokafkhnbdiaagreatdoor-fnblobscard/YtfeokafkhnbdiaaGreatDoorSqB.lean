/- Lemmas on the way. -/
import Derived.Test.YtfeokafkhnbdiaaGreatDoorSy2
import Derived.BigQuiet
import Derived.Deep.RegionWith
import Derived.Deep.RegionHeld3
import Derived.Test.YtfeokafkhnbdiaaGreatDoorEnF
set_option maxRecDepth 20000
set_option maxHeartbeats 16000000
namespace Go.Proofs.YtfeokafkhnbdiaaGreatDoor
open Go.RowKit
set_option linter.unusedVariables false
set_option linter.unusedSimpArgs false
theorem WI.grownI {w w':World} {B R n V:Nat} {v:Value} {zs:List Int} (h:WI w B R n V) (ho:OVI w B v zs) (hg:w.grownBy w' v.ownBlock):WI w' B R n V:=by
 obtain ⟨u,h1,h2,h3,h4,h5⟩:=h
 refine ⟨u,grown_blkI hg h1 (ho.blk_ne h1 (by decide)),⟨⟨h2.1.1,?_⟩,h2.2⟩,h3,h4,Nat.le_trans h5 hg.size⟩
 rcases h2.1.2 with h' | ⟨g,cap,cur,h',hgg,hh,r⟩
 ·exact .inl h'
 ·exact .inr ⟨g,cap,cur,h',hgg,grown_blkI hg hh (ho.blk_ne hh (by decide)),r⟩
theorem WI.setOther {w:World} {B R n V:Nat} (h:WI w B R n V) {P:Nat} {cur:Array Value} {T:TypeId} (hP:w.heap[P]?=some (.cells cur T (0,0))) (hT:T≠5) (hPR:P≠R) (j:Nat) (x:Value):WI (w.setCell ⟨P,j,none⟩ x) B R n V:=by
 have ho:Only (fun b=>b=P) w (w.setCell ⟨P,j,none⟩ x):=Only.setCell (Only.refl (fun b=>b=P) w) (p:=⟨P,j,none⟩) (.inl rfl) _
 obtain ⟨u,h1,h2,h3,h4,h5⟩:=h
 refine ⟨u,(ho.block R (Array.getElem?_eq_some_iff.1 h1).1 (fun e=>hPR e.symm)).trans h1,⟨⟨h2.1.1,?_⟩,h2.2⟩,h3,h4,Nat.le_trans h5 ho.size⟩
 rcases h2.1.2 with h' | ⟨g,cap,cur',h',hgg,hh,r⟩
 ·exact .inl h'
 ·refine .inr ⟨g,cap,cur',h',hgg,(ho.block g (Array.getElem?_eq_some_iff.1 hh).1 (fun e=>?_)).trans hh,r⟩
  subst e
  rw [hP] at hh
  simp at hh
  exact hT hh.2
structure SwS (w:World) (B P R:Nat) (st:SyT):Prop where
 box:∃ a c,w.heap[P]?=some (.cells #[.slice a st.1.length c,.pointer (some ⟨R,0,none⟩)] 68 (0,0))∧OVI w B (.slice a st.1.length c) st.1
 wi:WI w B R st.2.1 st.2.2
 BP:B≤P
theorem SwS.ne {w:World} {B P R:Nat} {st:SyT} (h:SwS w B P R st):P≠R:=by
 obtain ⟨a,c,h1,_⟩:=h.box
 obtain ⟨v,h2,_⟩:=h.wi
 rintro rfl
 rw [h1] at h2
 simp at h2
theorem SwS.put {w w':World} {B P R:Nat} {st:SyT} {n V:Nat} (h:SwS w B P R st) (hs:WI w' B R n V) (hk:KeepT R w w'):SwS w' B P R (st.1,n,V):=by
 obtain ⟨a,c,h1,h2⟩:=h.box
 refine ⟨⟨a,c,hk P _ _ h1 (by decide) h.ne,h2.keepT hk (fun e=>?_)⟩,hs,h.BP⟩
 obtain ⟨v,h3,_⟩:=h.wi
 exact h2.blk_ne h3 (by decide) e.symm
def KeepS (w w':World):Prop:=∀ (X:Nat) (cur:Array Value),w.heap[X]?=some (.cells cur 37 (0,0))→w'.heap[X]?=some (.cells cur 37 (0,0))
theorem KeepS.trans {a b c:World} (h:KeepS a b) (k:KeepS b c):KeepS a c:=fun X cur hX=>k X cur (h X cur hX)
theorem WI.keepS {w w':World} {B R n V:Nat} (h:WI w B R n V) (hk:KeepT R w w'):KeepS w w':=fun X cur hX=>hk X cur _ hX (by decide) (fun e=>by
 obtain ⟨v,h1,_⟩:=h
 rw [e] at hX
 rw [hX] at h1
 simp at h1)
theorem app_keepS {w w4:World} {B P:Nat} {cur0:Array Value} {a:Option Addr} {n c:Nat} {ts:List Int} {x:Value} (ho:OVI w B (.slice a n c) ts) (o:Obj) (hg:(w.alloc o).grownBy w4 (Value.slice a n c).ownBlock) (hP4:w4.heap[P]?=some (.cells cur0 68 (0,0))):KeepS w (w4.setCell ⟨P,0,none⟩ x):=by
 intro X cur hX
 have hA:Below w.heap.size w (w.alloc o):=(Below.refl _ _).alloc nl o
 have hXA:(w.alloc o).heap[X]?=some (.cells cur 37 (0,0)):=(hA.block X (Array.getElem?_eq_some_iff.1 hX).1).trans hX
 have hX4:=grown_blkI hg hXA ((ho.below hA).blk_ne hXA (by decide))
 refine ((Only.setCell (Only.refl (fun b=>b=P) w4) (p:=⟨P,0,none⟩) (.inl rfl) x).block X (Array.getElem?_eq_some_iff.1 hX4).1 (fun e=>?_)).trans hX4
 subst e
 rw [hX4] at hP4
 simp at hP4
theorem SwS.app {w w4:World} {B P R:Nat} {st:SyT} {a a4:Option Addr} {c c4:Nat} {z:Int} (h:SwS w B P R st) (hP:w.heap[P]?=some (.cells #[.slice a st.1.length c,.pointer (some ⟨R,0,none⟩)] 68 (0,0))) (ho:OVI w B (.slice a st.1.length c) st.1) (o:Obj) (hov:OVI w4 B (.slice a4 (st.1.length+1) c4) (st.1++[z])) (hg:(w.alloc o).grownBy w4 (Value.slice a st.1.length c).ownBlock) :
  w4.heap[P]?=some (.cells #[.slice a st.1.length c,.pointer (some ⟨R,0,none⟩)] 68 (0,0))∧SwS (w4.setCell ⟨P,0,none⟩ (.slice a4 (st.1.length+1) c4)) B P R (st.1++[z],st.2.1,st.2.2)∧Below B w (w4.setCell ⟨P,0,none⟩ (.slice a4 (st.1.length+1) c4)):=by
 have hA:Below w.heap.size w (w.alloc o):=(Below.refl _ _).alloc nl o
 have hoA:OVI (w.alloc o) B (.slice a st.1.length c) st.1:=ho.below hA
 have hPA:(w.alloc o).heap[P]?=some (.cells #[.slice a st.1.length c,.pointer (some ⟨R,0,none⟩)] 68 (0,0)):=(hA.block P (Array.getElem?_eq_some_iff.1 hP).1).trans hP
 have hP4:=grown_blkI hg hPA (hoA.blk_ne hPA (by decide))
 have hs4:=(h.wi.stay hA).grownI hoA hg
 have hB:B≤w.heap.size:=by obtain ⟨v,_,_,_,_,h5⟩:=h.wi;exact h5
 refine ⟨hP4,⟨⟨a4,c4,?_,?_⟩,hs4.setOther hP4 (by decide) h.ne 0 _,h.BP⟩,?_⟩
 ·rw [List.length_append,List.length_singleton,heap_setCell_same _ P 0 _ _ _ hP4]
  simp
 ·rw [List.length_append,List.length_singleton]
  exact hov.setOther hP4 (by decide) 0 _
 ·exact (((Below.refl B w).alloc hB o).grown hg (by simp;omega) (fun k hk=>ho.blk hk)).setCell (p:=⟨P,0,none⟩) h.BP _
theorem putLetter_any (B P R:Nat) (z:Int) (st:SyT) (w:World) (h:SwS w B P R st) (hz:0≤z∧z≤255) (hN:st.2.1≤4000) (hl:st.1.length≤1000) :
  Calls Tryz.prog 63 #[.pointer (some ⟨P,0,none⟩),.int .u8 z] w fun e w'=>e=.returned .nilIface∧SwS w' B P R (putL st z)∧Below B w w'∧KeepS w w':=by
 obtain ⟨i0,hi,hz0,hz1,hz2⟩:=info_parts Tryz.infoI64
 obtain ⟨a,c,hP,ho⟩:=h.box
 have HS:Hid (SwS w B P R st∧w.heap[P]?=some (.cells #[.slice a st.1.length c,.pointer (some ⟨R,0,none⟩)] 68 (0,0))∧OVI w B (.slice a st.1.length c) st.1):=⟨h,hP,ho⟩
 have c0:w.cell? ⟨P,0,none⟩=some (.slice a st.1.length c):=cellRR (j:=0) hP rfl
 have c1:w.cell? ⟨P,1,none⟩=some (.pointer (some ⟨R,0,none⟩)):=cellRR (j:=1) hP rfl
 have hB:B≤w.heap.size:=by obtain ⟨v,_,_,_,_,h5⟩:=h.wi;exact h5
 have hu:=ho.1
 obtain ⟨ts,n,V⟩:=st
 simp only at *
 have HAND:Hid ((((z % 16).toNat:Nat):Int)=z % 16∧(z % 16).toNat<2 ^ 4):=⟨by omega,by omega⟩
 clear h hP ho
 go_enter Tryz.func63,Tryz.ntmps63
 go_wp2_with (at_builtin;(refine wpList_append_lies _ rfl (.tmp 9) (.tmp 13) 38 rfl B 3 i0 (.int .i64 0) 1 8 Tryz.underlying38 hi hz0 hz1 hz2 rfl (by decide) (.slice a ts.length c) ts.length (ts.map (Value.int .i64)) rfl (hu.alloc _) ⟨w.heap.size,0,none⟩ 1 1 [.int .i64 (z / 16)] rfl rfl (by intro j y hj;match j,hj with | 0,hj=>(simp at hj;subst hj;simp [Addr.add])) (by intro y hy;simp at hy;subst hy;rfl) (by omega) (by unfold maxLen;omega) (by omega) (by simp;omega) _ rfl ?_);intro g cap1 w4 hown hgrow hat hlt1;have k4:=(HS.out.1.app HS.out.2.1 HS.out.2.2 _ (OVI.app rfl HS.out.2.2.2 (by omega) hown) hgrow).1;have k0:w4.cell? ⟨P,0,none⟩=some (.slice a ts.length c):=cellRR (j:=0) k4 rfl;have kf:=frozen_of_row w4 P 0 _ _ k4;have k1:w4.cell? ⟨P,1,none⟩=some (.pointer (some ⟨R,0,none⟩)):=cellRR (j:=1) k4 rfl)
 have HS4:Hid _:=(HS.out.1.app HS.out.2.1 HS.out.2.2 _ (OVI.app rfl HS.out.2.2.2 (by omega) hown) hgrow).2
 have HKS:Hid (KeepS w (w4.setCell ⟨P,0,none⟩ (.slice (some ⟨g,0,none⟩) (ts.length+1) cap1))):=app_keepS HS.out.2.2 _ hgrow k4
 clear hown hgrow hat hlt1 k4 hu c0 c1
 have HC:=HS4.out.1.wi.putK (z % 16).toNat 4 (by omega) HAND.out.2 (by simp only;omega)
 rw [HAND.out.1] at HC
 clear k0 kf k1
 refine HC.mono ?_
 clear HC
 rintro e w5 ⟨rfl,hs5,hb5,hk5⟩
 have HY:Hid (SwS w5 B P R (putL (ts,n,V) z)∧Below B w w5∧KeepS w w5):=⟨HS4.out.1.put hs5 hk5,HS4.out.2.trans hb5,HKS.out.trans (HS4.out.1.wi.keepS hk5)⟩
 clear hs5 hb5 hk5 HS4
 go_wp2
 go_ret
 exact ⟨rfl,HY.out⟩
theorem classOf_any (m:Nat) (w:World) (h1:1≤m) (h2:m<256) :
  Calls Tryz.prog 80 #[.int .i64 (m:Nat)] w fun e w'=>e=.returned (.int .i64 (cl m:Nat))∧w'=w:=by
 have HC:=len_any m w h2
 have hc:=(cl_fact h1 h2).2.2
 rw [hc.2] at HC
 have hc7:=hc.1
 clear hc
 generalize cl m=k at *
 go_enter Tryz.func80,Tryz.ntmps80
 go_wp2_with fail
 refine HC.mono ?_
 clear HC
 rintro e w9 ⟨rfl,hw9⟩
 rw [hw9]
 go_wp2
 go_ret
 exact ⟨ret_int (by omega),rfl⟩
theorem putNumber_any (B P R base m:Nat) (st:SyT) (w:World) (h:SwS w B P R st) (hm:1≤m∧m<256) (hba:base≤28) (hN:st.2.1≤4000) (hl:st.1.length≤1000) :
  Calls Tryz.prog 64 #[.pointer (some ⟨P,0,none⟩),.int .i64 (m:Nat),.int .i64 (base:Nat)] w fun e w'=>e=.returned .nilIface∧SwS w' B P R (putN base m st)∧Below B w w'∧KeepS w w':=by
 obtain ⟨i0,hi,hz0,hz1,hz2⟩:=info_parts Tryz.infoI64
 obtain ⟨a,c,hP,ho⟩:=h.box
 have HS:Hid (SwS w B P R st∧w.heap[P]?=some (.cells #[.slice a st.1.length c,.pointer (some ⟨R,0,none⟩)] 68 (0,0))∧OVI w B (.slice a st.1.length c) st.1):=⟨h,hP,ho⟩
 have c0:w.cell? ⟨P,0,none⟩=some (.slice a st.1.length c):=cellRR (j:=0) hP rfl
 have c1:w.cell? ⟨P,1,none⟩=some (.pointer (some ⟨R,0,none⟩)):=cellRR (j:=1) hP rfl
 have hB:B≤w.heap.size:=by obtain ⟨v,_,_,_,_,h5⟩:=h.wi;exact h5
 have hu:=ho.1
 obtain ⟨ts,n,V⟩:=st
 simp only at *
 have hc:=cl_fact hm.1 hm.2
 have HCL:=classOf_any m w hm.1 hm.2
 have hc7:=hc.2.2.1
 obtain ⟨k,hk⟩:∃ k,cl m=k:=⟨_,rfl⟩
 rw [hk] at HCL hc7
 have HK:Hid (cl m=k∧2 ^ k≤m∧m-2 ^ k<2 ^ k):=by
  refine ⟨hk,by rw [←hk];exact hc.1,?_⟩
  have h9:=hc.2.1
  rw [hk,Nat.pow_succ] at h9
  have h8:=hc.1
  rw [hk] at h8
  omega
 have HW:Hid (wrap64 ((m:Int)-wrap64 (2 ^ k))=((m-2 ^ k:Nat):Int)∧((base:Nat):Int)+(k:Nat)=((base+k:Nat):Int)):=by
  refine ⟨?_,by omega⟩
  rw [wpowS k (by omega)]
  have h9:=HK.out.2.1
  generalize 2 ^ k=Q at *
  rw [IntWalk.wrap64_in _ (by omega)]
  omega
 have HW2:Hid (IntKind.i64.wrap ((m:Int)-IntKind.i64.wrap (2 ^ k))=((m-2 ^ k:Nat):Int)∧True):=by
  refine ⟨?_,trivial⟩
  have h9:=HK.out.2.1
  have hm2:=hm.2
  have e1:IntKind.i64.wrap (2 ^ k)=((2 ^ k:Nat):Int):=by
   rw [show ((2:Int) ^ k)=((2 ^ k:Nat):Int) from by simp]
   generalize 2 ^ k=Q at *
   rw [IntKind.wrap_i64]
   omega
  rw [e1]
  generalize 2 ^ k=Q at *
  rw [show (m:Int)-((Q:Nat):Int)=((m-Q:Nat):Int) by omega]
  have h8:m-Q≤255:=by omega
  generalize m-Q=S at *
  rw [IntKind.wrap_i64]
  omega
 clear h hP ho hc hk
 go_enter Tryz.func64,Tryz.ntmps64
 go_wp2_with fail
 refine HCL.mono ?_
 clear HCL
 rintro e w9 ⟨rfl,hw9⟩
 rw [hw9]
 clear hw9
 go_wp2_with (at_builtin;(refine wpList_append_lies _ rfl (.tmp 14) (.tmp 18) 38 rfl B 3 i0 (.int .i64 0) 1 8 Tryz.underlying38 hi hz0 hz1 hz2 rfl (by decide) (.slice a ts.length c) ts.length (ts.map (Value.int .i64)) rfl (hu.alloc _) ⟨w.heap.size,0,none⟩ 1 1 [.int .i64 ((base:Int)+(k:Nat))] rfl rfl (by intro j y hj;match j,hj with | 0,hj=>(simp at hj;subst hj;simp [Addr.add])) (by intro y hy;simp at hy;subst hy;rfl) (by omega) (by unfold maxLen;omega) (by omega) (by simp;omega) _ rfl ?_);intro g cap1 w4 hown hgrow hat hlt1;have k4:=(HS.out.1.app HS.out.2.1 HS.out.2.2 _ (OVI.app rfl HS.out.2.2.2 (by omega) hown) hgrow).1;have k0:w4.cell? ⟨P,0,none⟩=some (.slice a ts.length c):=cellRR (j:=0) k4 rfl;have kf:=frozen_of_row w4 P 0 _ _ k4;have k1:w4.cell? ⟨P,1,none⟩=some (.pointer (some ⟨R,0,none⟩)):=cellRR (j:=1) k4 rfl)
 have HS4:Hid _:=(HS.out.1.app HS.out.2.1 HS.out.2.2 _ (OVI.app rfl HS.out.2.2.2 (by omega) hown) hgrow).2
 have HKS:Hid (KeepS w (w4.setCell ⟨P,0,none⟩ (.slice (some ⟨g,0,none⟩) (ts.length+1) cap1))):=app_keepS HS.out.2.2 _ hgrow k4
 clear hown hgrow hat hlt1 k4 hu c0 c1
 rw [HW.out.2] at HS4
 simp only at HS4
 have hP4:(w4.setCell ⟨P,0,none⟩ (.slice (some ⟨g,0,none⟩) (ts.length+1) cap1)).cell? ⟨P,1,none⟩=some (.pointer (some ⟨R,0,none⟩)):=by
  obtain ⟨a5,c5,h5,_⟩:=HS4.out.1.box
  exact cellRR (j:=1) h5 rfl
 have HP4:Hid ((w4.setCell ⟨P,0,none⟩ (.slice (some ⟨g,0,none⟩) (ts.length+1) cap1)).cell? ⟨P,1,none⟩=some (.pointer (some ⟨R,0,none⟩))∧True):=⟨hP4,trivial⟩
 clear k0 kf k1 hP4
 generalize w4.setCell ⟨P,0,none⟩ (.slice (some ⟨g,0,none⟩) (ts.length+1) cap1)=W5 at *
 go_region_held3 (fun W=>W.cell? ⟨P,1,none⟩=some (.pointer (some ⟨R,0,none⟩)))
  (first | exact HP4.out.1 | exact HP6.out.1)
  (first
   | (go_at_call 79;rw [HW2.out.1];refine ((HS4.out.1.wi.drewN 1).putK (m-2 ^ k) k (by omega) HK.out.2.2 (by simp only;omega)).mono ?_;rintro e w6 ⟨rfl,hs6,hb6,hk6⟩;have HY:Hid (SwS w6 B P R (putN base m (ts,n,V))∧Below B w w6∧KeepS w w6):=(by unfold putN;rw [HK.out.1];have hk7:KeepT R W5 w6:=(fun g cur T h1 h2 h3=>hk6 g cur T h1 h2 h3);exact ⟨HS4.out.1.put hs6 hk7,HS4.out.2.trans ⟨hb6.os,hb6.tape,hb6.output,hb6.size,hb6.block⟩,HKS.out.trans (HS4.out.1.wi.keepS hk7)⟩);have HP6:Hid (w6.cell? ⟨P,1,none⟩=some (.pointer (some ⟨R,0,none⟩))∧True):=(by obtain ⟨a5,c5,h5,_⟩:=HY.out.1.box;exact ⟨cellRR (j:=1) h5 rfl,trivial⟩);clear hs6 hb6 hk6))
 clear HP4 HP6
 go_wp2
 go_ret
 exact ⟨rfl,HY.out⟩
theorem SwS.below {w w':World} {B P R:Nat} {st:SyT} (h:SwS w B P R st) (hb:Below w.heap.size w w'):SwS w' B P R st:=by
 obtain ⟨a,c,h1,h2⟩:=h.box
 exact ⟨⟨a,c,(hb.block P (Array.getElem?_eq_some_iff.1 h1).1).trans h1,h2.below hb⟩,h.wi.stay hb,h.BP⟩
theorem putSeq_any (B P R:Nat) (qa:Option Addr) (qc:Nat) (ql:List Int) (qn qd:Int) (st:SyT) (w0 w:World) (hB:w0.heap.size=B) (hbel:Below B w0 w) (h:SwS w B P R st) (hby:Byt w0 qa ql) (hnm:qn=0∨(3≤qn∧qn≤64∧1≤qd∧qd≤64)) (hbn:st.1.length+ql.length≤200∧st.2.1+4*ql.length≤1000) :
  Calls Tryz.prog 43 #[.pointer (some ⟨P,0,none⟩),.agg #[.slice qa ql.length qc,.int .i64 qn,.int .i64 qd]] w fun e w'=>e=.returned .nilIface∧SwS w' B P R (putQ st ⟨qa,qc,ql,qn,qd⟩)∧Below B w0 w':=by
 have hBw:B≤w.heap.size:=by have:=hbel.size;omega
 have hA:Below w.heap.size w (w.alloc (Obj.cells #[.slice qa ql.length qc,.int .i64 qn,.int .i64 qd] 37)):=bAw
 have HST:Hid (SwS (w.alloc (Obj.cells #[.slice qa ql.length qc,.int .i64 qn,.int .i64 qd] 37)) B P R st∧Below B w0 (w.alloc (Obj.cells #[.slice qa ql.length qc,.int .i64 qn,.int .i64 qd] 37))∧(w.alloc (Obj.cells #[.slice qa ql.length qc,.int .i64 qn,.int .i64 qd] 37)).heap[w.heap.size]?=some (.cells #[.slice qa ql.length qc,.int .i64 qn,.int .i64 qd] 37 (0,0))):=⟨h.below hA,hbel.trans (hA.mono hBw),heap_alloc_new w _⟩
 have HBY:Hid (Byt w0 qa ql∧w0.heap.size=B):=⟨hby,hB⟩
 clear h hA hbel hby hB
 go_enter Tryz.func43,Tryz.ntmps43
 go_wp2
 have HX:Hid (∃ W1,W1=w.alloc (Obj.cells #[.slice qa ql.length qc,.int .i64 qn,.int .i64 qd] 37)):=⟨_,rfl⟩
 clear HX
 go_loopw [12] (fun jv wi=>∃ j:Nat,j≤ql.length∧jv=.int .i64 j∧SwS wi B P R (putLs (ql.take j) st)∧Below B w0 wi∧wi.heap[w.heap.size]?=some (.cells #[.slice qa ql.length qc,.int .i64 qn,.int .i64 qd] 37 (0,0))) (fun jv _=>ql.length-(intOf jv).toNat)
 case atStart=>exact ⟨0,Nat.zero_le _,rfl,by simpa [putLs] using HST.out.1,HST.out.2.1,HST.out.2.2⟩
 case round=>
  clear HST
  obtain ⟨j,hj,rfl,hsy,hbel,hX⟩:=hrel
  have hpl:=putLs_len (ql.take j) st
  have htl:(ql.take j).length=j:=by rw [List.length_take];omega
  rw [htl] at hpl
  have HS:Hid (SwS wr B P R (putLs (ql.take j) st)∧Below B w0 wr∧wr.heap[w.heap.size]?=some (.cells #[.slice qa ql.length qc,.int .i64 qn,.int .i64 qd] 37 (0,0))):=⟨hsy,hbel,hX⟩
  have x1:wr.cell? ⟨w.heap.size,1,none⟩=some (.int .i64 qn):=cellRR (j:=1) hX rfl
  have x2:wr.cell? ⟨w.heap.size,2,none⟩=some (.int .i64 qd):=cellRR (j:=2) hX rfl
  have hby:=HBY.out.1.below hbel (by rw [HBY.out.2];exact Nat.le_refl _)
  clear hsy hbel hX htl
  by_cases hjl:j<ql.length
  ·obtain ⟨lb,lo,rfl,hlb,hlc⟩:=hby.len_pos j hjl
   have hc:=hlc j hjl
   have hr:=getD_rng hby.1 j
   have HPT:Hid (putLs (ql.take (j+1)) st=putL (putLs (ql.take j) st) (ql.getD j 0)∧True):=⟨putLs_take ql st j hjl,trivial⟩
   have HC:=putLetter_any B P R (ql.getD j 0) (putLs (ql.take j) st) wr HS.out.1 hr (by omega) (by omega)
   clear hby hlc
   generalize ql.getD j 0=z at *
   go_wp2_with fail
   refine HC.mono ?_
   clear HC
   rintro e w5 ⟨rfl,hs5,hb5,hk5⟩
   have HS5:Hid (SwS w5 B P R (putLs (ql.take (j+1)) st)∧Below B w0 w5∧w5.heap[w.heap.size]?=some (.cells #[.slice (some ⟨lb,lo,none⟩) ql.length qc,.int .i64 qn,.int .i64 qd] 37 (0,0))):=⟨by rw [HPT.out.1];exact hs5,HS.out.2.1.trans hb5,hk5 _ _ HS.out.2.2⟩
   clear hs5 hb5 hk5 HS
   go_wp2
   go_roundw
   case rel=>exact ⟨j+1,by omega,by go_num,HS5.out.1,HS5.out.2.1,HS5.out.2.2⟩
   case measure=>simp [intOf];omega
  ·have hjl2:j=ql.length:=by omega
   subst hjl2
   rw [List.take_length] at HS hpl
   clear hby
   by_cases hq0:qn=0
   ·have HSF:Hid (SwS wr B P R (putQ st ⟨qa,qc,ql,qn,qd⟩)∧Below B w0 wr):=by
     unfold putQ
     rw [if_pos hq0]
     exact ⟨HS.out.1,HS.out.2.1⟩
    subst hq0
    clear HS
    go_wp2
    go_ret
    exact ⟨rfl,HSF.out⟩
   ·have hq1:=hnm.resolve_left hq0
    obtain ⟨m1,rfl⟩:=Int.eq_ofNat_of_zero_le (show 0≤qn by omega)
    obtain ⟨m2,rfl⟩:=Int.eq_ofNat_of_zero_le (show 0≤qd by omega)
    have hm1:3≤m1∧m1≤64∧1≤m2∧m2≤64:=by omega
    have hcl:=cl_fact (n:=m1-2) (by omega) (by omega)
    have HC:=putNumber_any B P R 16 (m1-2) (putLs ql st) wr HS.out.1 ⟨by omega,by omega⟩ (by omega) (by omega) (by omega)
    have e1:(((m1-2:Nat)):Int)=(m1:Int)-3+1:=by omega
    rw [e1] at HC
    have HQ:Hid (putQ st ⟨qa,qc,ql,(m1:Nat),(m2:Nat)⟩=putN 28 m2 (putN 16 (m1-2) (putLs ql st))∧(putN 16 (m1-2) (putLs ql st)).2.1≤4000∧(putN 16 (m1-2) (putLs ql st)).1.length≤1000):=by
     refine ⟨?_,?_,?_⟩
     ·unfold putQ
      rw [if_neg hq0]
      simp
     ·simp only [putN];omega
     ·simp only [putN,List.length_append,List.length_cons,List.length_nil];omega
    have hmp:((m1:Int) == 0)=false:=by rw [beq_eq_false_iff_ne];omega
    clear e1 hq0 hq1 hnm hcl hpl
    go_wp2_with fail
    refine HC.mono ?_
    clear HC
    rintro e w5 ⟨rfl,hs5,hb5,hk5⟩
    have hX5:=hk5 _ _ HS.out.2.2
    have x2':w5.cell? ⟨w.heap.size,2,none⟩=some (.int .i64 (m2:Nat)):=cellRR (j:=2) hX5 rfl
    have HC:=putNumber_any B P R 28 m2 _ w5 hs5 ⟨by omega,by omega⟩ (by omega) HQ.out.2.1 HQ.out.2.2
    have HB5:Hid (Below B w0 w5):=HS.out.2.1.trans hb5
    clear hs5 hb5 hk5 hX5 HS x1 x2
    go_wp2_with fail
    refine HC.mono ?_
    clear HC
    rintro e w6 ⟨rfl,hs6,hb6,hk6⟩
    have HSF:Hid (SwS w6 B P R (putQ st ⟨qa,qc,ql,(m1:Nat),(m2:Nat)⟩)∧Below B w0 w6):=⟨by rw [HQ.out.1];exact hs6,HB5.out.trans hb6⟩
    clear hs6 hb6 hk6
    go_wp2
    go_ret
    exact ⟨rfl,HSF.out⟩
theorem isPiece_any (a:Option Addr) (c:Nat) (zs:List Int) (n d:Int) (m:Nat) (w:World) (hm:m≤64) (rn:rI n) (rd:rI d) :
  Calls Tryz.prog 39 #[.agg #[.slice a zs.length c,.int .i64 n,.int .i64 d],.int .i64 m] w fun e w'=>e=.returned (.bool (decide (3≤n∧n≤64-(m:Int)∧1≤d∧d≤(m:Int))))∧Below w.heap.size w w':=by
 have hw:Below w.heap.size w (w.alloc (Obj.cells #[.slice a zs.length c,.int .i64 n,.int .i64 d] 37)):=bAw
 obtain ⟨rn1,rn2⟩:=rn
 obtain ⟨rd1,rd2⟩:=rd
 by_cases q:3≤n∧n≤64-(m:Int)∧1≤d∧d≤(m:Int)
 ·have HE:Hid (decide (3≤n∧n≤64-(m:Int)∧1≤d∧d≤(m:Int))=true):=by simpa [Hid] using q
  generalize decide (3≤n∧n≤64-(m:Int)∧1≤d∧d≤(m:Int))=E at *
  obtain ⟨q1,q2,q3,q4⟩:=q
  go_enter Tryz.func39,Tryz.ntmps39
  go_wp2
  go_ret
  exact ⟨by rw [HE.out];first | rfl | (simp;omega),hw⟩
 ·have HE:Hid (decide (3≤n∧n≤64-(m:Int)∧1≤d∧d≤(m:Int))=false):=by simpa only [Hid,decide_eq_false_iff_not] using q
  have key:n<3∨(3≤n∧64-(m:Int)<n)∨(3≤n∧n≤64-(m:Int)∧d<1)∨(3≤n∧n≤64-(m:Int)∧1≤d∧(m:Int)<d):=by omega
  generalize decide (3≤n∧n≤64-(m:Int)∧1≤d∧d≤(m:Int))=E at *
  clear q
  rcases key with q1 | ⟨q1,q2⟩ | ⟨q1,q2,q3⟩ | ⟨q1,q2,q3,q4⟩
  all_goals
   go_enter Tryz.func39,Tryz.ntmps39
   go_wp2
   go_ret
   exact ⟨by rw [HE.out];first | rfl | (simp;omega),hw⟩
theorem isRest_any (a:Option Addr) (c:Nat) (zs:List Int) (n d:Int) (w:World) (hl:zs.length≤281474976710656) :
  Calls Tryz.prog 40 #[.agg #[.slice a zs.length c,.int .i64 n,.int .i64 d]] w fun e w'=>e=.returned (.bool (decide (n=0∧d=0∧0<zs.length)))∧Below w.heap.size w w':=by
 have hw:Below w.heap.size w (w.alloc (Obj.cells #[.slice a zs.length c,.int .i64 n,.int .i64 d] 37)):=bAw
 by_cases q1:n=0
 ·by_cases q2:d=0
  ·by_cases q3:0<zs.length
   ·have HE:Hid (decide (n=0∧d=0∧0<zs.length)=true):=by unfold Hid;rw [decide_eq_true_eq];exact ⟨q1,q2,q3⟩
    generalize decide (n=0∧d=0∧0<zs.length)=E at *
    subst q1 q2
    have q3':(0:Int)<zs.length:=by omega
    go_enter Tryz.func40,Tryz.ntmps40
    go_wp2
    go_ret
    exact ⟨by rw [HE.out];first | rfl | (simp;omega),hw⟩
   ·have HE:Hid (decide (n=0∧d=0∧0<zs.length)=false):=by unfold Hid;rw [decide_eq_false_iff_not];exact fun h=>q3 h.2.2
    generalize decide (n=0∧d=0∧0<zs.length)=E at *
    subst q1 q2
    obtain rfl:zs=[]:=List.eq_nil_of_length_eq_zero (by omega)
    clear q3
    go_enter Tryz.func40,Tryz.ntmps40
    go_wp2
    go_ret
    exact ⟨by rw [HE.out];first | rfl | (simp;omega),hw⟩
  ·have HE:Hid (decide (n=0∧d=0∧0<zs.length)=false):=by unfold Hid;rw [decide_eq_false_iff_not];exact fun h=>q2 h.2.1
   have q2':(d == 0)=false:=by rw [beq_eq_false_iff_ne];exact q2
   generalize decide (n=0∧d=0∧0<zs.length)=E at *
   subst q1
   clear q2
   go_enter Tryz.func40,Tryz.ntmps40
   go_wp2
   go_ret
   exact ⟨by rw [HE.out];first | rfl | (simp;omega),hw⟩
 ·have HE:Hid (decide (n=0∧d=0∧0<zs.length)=false):=by unfold Hid;rw [decide_eq_false_iff_not];exact fun h=>q1 h.1
  have q1':(n == 0)=false:=by rw [beq_eq_false_iff_ne];exact q1
  generalize decide (n=0∧d=0∧0<zs.length)=E at *
  clear q1
  go_enter Tryz.func40,Tryz.ntmps40
  go_wp2
  go_ret
  exact ⟨by rw [HE.out];first | rfl | (simp;omega),hw⟩
def sqz (ss:List Sq):Int:=match sqn ss with
 | some m=>m
 | none=>-1
theorem sqz_none {ss:List Sq} (h:sqn ss=none):sqz ss=-1:=by simp [sqz,h]
theorem sqz_some {ss:List Sq} {m:Nat} (h:sqn ss=some m):sqz ss=m:=by simp [sqz,h]
theorem stp_yes1 {last:Bool} {m:Nat} {s:Sq} (h:¬64<m+s.ls.length) (q:3≤s.n∧s.n≤64-((m+s.ls.length:Nat):Int)∧1≤s.d∧s.d≤((m+s.ls.length:Nat):Int)):stp last m s=some (m+s.ls.length+s.n.toNat):=by
 rw [stp_piece h (by omega),if_pos q]
theorem stp_yes2 {last:Bool} {m:Nat} {s:Sq} (h:¬64<m+s.ls.length) (hl:last=true) (q:s.n=0∧s.d=0∧0<s.ls.length):stp last m s=some (m+s.ls.length+s.n.toNat):=by
 rw [stp_rest h q.1,if_pos ⟨q.2.1,hl,q.2.2⟩,q.1]
 simp
theorem stp_no {last:Bool} {m:Nat} {s:Sq} (h:¬64<m+s.ls.length) (q1:¬(3≤s.n∧s.n≤64-((m+s.ls.length:Nat):Int)∧1≤s.d∧s.d≤((m+s.ls.length:Nat):Int))) (q2:¬(last=true∧s.n=0∧s.d=0∧0<s.ls.length)):stp last m s=none:=by
 by_cases h0:s.n=0
 ·rw [stp_rest h h0,if_neg (fun hh=>q2 ⟨hh.2.1,h0,hh.1,hh.2.2⟩)]
 ·rw [stp_piece h h0,if_neg q1]
theorem implSeqBytes_any (a:Option Addr) (cap:Nat) (ss:List Sq) (w:World) (hb:Sqs w a ss) (hx:ss.length≤281474976710656) (hxl:∀ s ∈ ss,s.ls.length≤281474976710656) :
  Calls Tryz.prog 15 #[.slice a ss.length cap] w fun e w'=>e=.returned (.int .i64 (sqz ss))∧Below w.heap.size w w':=by
 by_cases h40:ss.length≤40
 ·have HSS:Hid (Sqs w a ss):=hb
  have HXL:Hid (∀ s ∈ ss,s.ls.length≤281474976710656):=hxl
  have HST:Hid _:=fun k m=>@sqc_step ss k m
  have HNO:Hid _:=fun k m=>@sqn_none ss k m
  have HYE:Hid _:=fun m=>@sqn_some ss m
  have HZN:Hid _:=@sqz_none ss
  have HZS:Hid _:=@sqz_some ss
  clear hb hxl
  generalize hlen:ss.length=n at *
  have HL:Hid (ss.length=n):=hlen
  clear hlen
  generalize sqz ss=Z at *
  go_enter Tryz.func15,Tryz.ntmps15
  go_wp2
  go_loopw [3,12] (fun x i wr=>∃ k m:Nat,k≤n∧m≤64∧i=.int .i64 k∧x=.int .i64 m∧sqc ss k=some m∧Below w.heap.size w wr) (fun _ i _=>n-(intOf i).toNat)
  case atStart=>exact ⟨0,0,Nat.zero_le _,by omega,rfl,rfl,rfl,Below.refl _ _⟩
  case round=>
   obtain ⟨k,m,hk,hm,rfl,rfl,hsq,hbel⟩:=hrel
   have HSQ:Hid (sqc ss k=some m):=hsq
   clear hsq
   by_cases hlt:k<n
   ·obtain ⟨b,off,rfl,hb1,hc1⟩:=(HSS.out.below hbel nl).len_pos k (by rw [HL.out];exact hlt)
    have hli:=hc1 k (by rw [HL.out];exact hlt)
    have hrg:=HSS.out.rng k (by rw [HL.out];exact hlt)
    have hll:=HXL.out _ (getD_memS (k:=k) (by rw [HL.out];exact hlt))
    have HS:=HST.out k m HSQ.out
    have HN:=HNO.out k m HSQ.out hlt
    clear hc1
    generalize ss.getD k dq=s at *
    obtain ⟨sa,sc,sl,sn,sd⟩:=s
    obtain ⟨c0,c1,c2,hby⟩:=hli
    simp only at c0 c1 c2 hrg hll
    have HRG:Hid (rI sn∧rI sd):=⟨hrg.1,hrg.2.1⟩
    obtain ⟨⟨rn1,rn2⟩,⟨rd1,rd2⟩,-⟩:=hrg
    have HB2:Hid (Below w.heap.size w (wr.alloc (Obj.cells #[.slice sa sl.length sc,.int .i64 sn,.int .i64 sd] 37))):=hbel.alloc hbel.size _
    have HW:Hid (wr.heap.size<(wr.alloc (Obj.cells #[.slice sa sl.length sc,.int .i64 sn,.int .i64 sd] 37)).heap.size):=by simp [Hid]
    clear hby
    by_cases g1:64<m+sl.length
    ·have HF:Hid (Z=-1):=HZN.out (HN (stp_over g1))
     have g1':64-(m:Int)<sl.length:=by omega
     clear HS HN
     go_wp2
     go_ret
     exact ⟨by rw [HF.out];rfl,HB2.out⟩
    ·have g1':¬64-(m:Int)<sl.length:=by omega
     have HN1:=fun q1 q2=>HN (stp_no (s:=⟨sa,sc,sl,sn,sd⟩) g1 q1 q2)
     have HY1:=fun q=>HS.trans (stp_yes1 (s:=⟨sa,sc,sl,sn,sd⟩) g1 q)
     have HY2:=fun hl q=>HS.trans (stp_yes2 (s:=⟨sa,sc,sl,sn,sd⟩) g1 hl q)
     simp only at HN1 HY1 HY2
     have r0:(wr.alloc (Obj.cells #[.slice sa sl.length sc,.int .i64 sn,.int .i64 sd] 37)).cell? ⟨wr.heap.size,0,none⟩=some (.slice sa sl.length sc):=by simp
     have r1:(wr.alloc (Obj.cells #[.slice sa sl.length sc,.int .i64 sn,.int .i64 sd] 37)).cell? ⟨wr.heap.size,1,none⟩=some (.int .i64 sn):=by simp
     have r2:(wr.alloc (Obj.cells #[.slice sa sl.length sc,.int .i64 sn,.int .i64 sd] 37)).cell? ⟨wr.heap.size,2,none⟩=some (.int .i64 sd):=by simp
     have HPC:=isPiece_any sa sc sl sn sd (m+sl.length) (wr.alloc (Obj.cells #[.slice sa sl.length sc,.int .i64 sn,.int .i64 sd] 37)) (by omega) HRG.out.1 HRG.out.2
     have hcast:((m+sl.length:Nat):Int)=(m:Int)+sl.length:=by omega
     rw [hcast] at HPC HN1 HY1
     clear HS HN hcast
     go_wp2_with fail
     generalize wr.alloc (Obj.cells #[.slice sa sl.length sc,.int .i64 sn,.int .i64 sd] 37)=W at *
     refine HPC.mono ?_
     clear HPC
     rintro e w1 ⟨rfl,hb2⟩
     have q0:=keep hb2 HW.out r0
     have q1:=keep hb2 HW.out r1
     have q2:=keep hb2 HW.out r2
     have HB3:Hid (Below w.heap.size w w1):=HB2.out.trans (hb2.mono HB2.out.size)
     clear hb2 r0 r1 r2 c0 c1 c2
     by_cases q:3≤sn∧sn≤64-((m:Int)+sl.length)∧1≤sd∧sd≤(m:Int)+sl.length
     ·rw [decide_eq_true q]
      have HS2:Hid (sqc ss (k+1)=some (m+sl.length+sn.toNat)):=HY1 q
      obtain ⟨u1,u2,u3,u4⟩:=q
      clear HN1 HY1 HY2
      go_wp2
      go_roundw
      case rel=>exact ⟨k+1,m+sl.length+sn.toNat,by omega,by omega,by go_num,by go_num,HS2.out,HB3.out⟩
      case measure=>simp [intOf];omega
     ·rw [decide_eq_false q]
      have HNQ:Hid (¬(3≤sn∧sn≤64-((m:Int)+sl.length)∧1≤sd∧sd≤(m:Int)+sl.length)):=q
      clear HY1 q
      by_cases hla:k+1=n
      ·have hla':((k:Int) == (n:Int)-1)=true:=by rw [beq_iff_eq];omega
       have HRS:=isRest_any sa sc sl sn sd w1 hll
       go_wp2_with fail
       refine HRS.mono ?_
       clear HRS
       rintro e w2 ⟨rfl,hb4⟩
       have hz1:wr.heap.size<w1.heap.size:=World.block_lt_of_cell? _ _ q0
       have v1:=keep hb4 hz1 q1
       have HB4:Hid (Below w.heap.size w w2):=HB3.out.trans (hb4.mono HB3.out.size)
       clear hb4 q0 q1 q2
       by_cases qr:sn=0∧sd=0∧0<sl.length
       ·rw [decide_eq_true qr]
        have HS2:Hid (sqc ss (k+1)=some (m+sl.length+sn.toNat)):=HY2 (by simpa using hla) qr
        obtain ⟨rfl,rfl,u3⟩:=qr
        clear HN1 HY2
        go_wp2
        go_roundw
        case rel=>exact ⟨k+1,m+sl.length+(0:Int).toNat,by omega,by simp;omega,by go_num,by go_num,HS2.out,HB4.out⟩
        case measure=>simp [intOf];omega
       ·rw [decide_eq_false qr]
        have HF:Hid (Z=-1):=HZN.out (HN1 HNQ.out (fun h=>qr h.2))
        clear HN1 HY2 qr
        go_wp2
        go_ret
        exact ⟨by rw [HF.out];rfl,HB4.out⟩
      ·have hla':((k:Int) == (n:Int)-1)=false:=by rw [beq_eq_false_iff_ne];omega
       have HF:Hid (Z=-1):=HZN.out (HN1 HNQ.out (fun h=>hla (by simpa using h.1)))
       clear HN1 HY2
       go_wp2
       go_ret
       exact ⟨by rw [HF.out];rfl,HB3.out⟩
   ·have hkn:k=n:=by omega
    subst hkn
    have HF:Hid (Z=(m:Int)):=HZS.out (HYE.out m HSQ.out h40)
    go_wp2
    go_ret
    exact ⟨by rw [HF.out];rfl,hbel⟩
 ·have HF:Hid (sqz ss=-1):=sqz_none (sqn_len (by omega))
  go_enter Tryz.func15,Tryz.ntmps15
  go_wp2
  go_ret
  exact ⟨by rw [HF.out];rfl,Below.refl _ _⟩
theorem implSeqsOk_any (a:Option Addr) (cap:Nat) (ss:List Sq) (w:World) (hb:Sqs w a ss) (hx:ss.length≤281474976710656) (hxl:∀ s ∈ ss,s.ls.length≤281474976710656) :
  Calls Tryz.prog 13 #[.slice a ss.length cap] w fun e w'=>e=.returned (.bool (sqn ss).isSome)∧Below w.heap.size w w':=by
 have HSB:=implSeqBytes_any a cap ss w hb hx hxl
 cases hs:sqn ss with
 | none=>
  rw [sqz_none hs] at HSB
  go_enter Tryz.func13,Tryz.ntmps13
  go_wp2_with fail
  refine HSB.mono ?_
  rintro e w1 ⟨rfl,hb1⟩
  clear HSB
  go_wp2
  go_ret
  exact ⟨rfl,hb1⟩
 | some m=>
  rw [sqz_some hs] at HSB
  go_enter Tryz.func13,Tryz.ntmps13
  go_wp2_with fail
  refine HSB.mono ?_
  rintro e w1 ⟨rfl,hb1⟩
  clear HSB
  go_wp2
  go_ret
  exact ⟨rfl,hb1⟩
end Go.Proofs.YtfeokafkhnbdiaaGreatDoor
