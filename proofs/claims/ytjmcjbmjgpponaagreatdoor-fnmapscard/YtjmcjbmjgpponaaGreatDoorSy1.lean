import Derived.Lib.SliceRun
import Derived.Test.YtjmcjbmjgpponaaGreatDoorLzT
import Derived.Test.YtjmcjbmjgpponaaGreatDoorPour
set_option maxRecDepth 20000
set_option maxHeartbeats 16000000
namespace Go.Proofs.YtjmcjbmjgpponaaGreatDoor
open Go.RowKit
set_option linter.unusedVariables false
theorem z4i (a:Option Addr) (cap:Nat) (zs:List Int) (w:World) (hb:Byt w a zs) (hn:zs.length<=1000000) :
  Calls Tryz.prog 71 #[.slice a zs.length cap] w fun e w'=>(∃ v,e=.returned v/\OVB w' w.heap.size v zs)/\Below w.heap.size w w':=by
 cases a with
 | none=>
  have hz:zs=[]:=by
   rcases Nat.eq_zero_or_pos zs.length with h0 | h0
   ·exact List.eq_nil_of_length_eq_zero h0
   ·obtain ⟨b,off,e,_⟩:=hb.2 h0
    cases e
  subst hz;have heq:(binOp .eql 22 (.slice none 0 cap) (.slice none 0 0)).run Tryz.prog w=.ok (.bool true) w:=Lib.run_eql_slice_nil w _ _ none 0 cap 0 0 Tryz.underlying22
  go_enter Tryz.func71,Tryz.ntmps71
  go_wp2
  go_ret;exact ⟨⟨_,rfl,OVB.nil _ _⟩,Below.refl _ _⟩
 | some ad=>
  have HO:Hid (OVB (w.alloc (Obj.cells #[] 5)) w.heap.size (.slice (some ⟨w.heap.size,0,none⟩) 0 0) []):=OVB.empty w _ nl;have HY:Hid (Byt (w.alloc (Obj.cells #[] 5)) (some ad) zs):=hb.alloc _;have HB:Hid (Bw w (w.alloc (Obj.cells #[] 5))):=bAw;clear hb;have heq:(binOp .eql 22 (.slice (some ad) zs.length cap) (.slice none 0 0)).run Tryz.prog w=.ok (.bool false) w:=Lib.run_eql_slice_nil w _ _ (some ad) zs.length cap 0 0 Tryz.underlying22
  go_enter Tryz.func71,Tryz.ntmps71
  go_wp2_with (at_builtin;(refine zi rfl (.tmp 5) (.tmp 6) rfl w.heap.size (.slice (some ⟨w.heap.size,0,none⟩) 0 0) [] rfl HO.out (some ad) cap zs rfl HY.out (by simp;omega) (by simp) ?_;intro v1 w1 hov1 hgr1;have HB1:Hid (Below w.heap.size w w1):=z0l HB.out (by simp) HO.out hgr1;have HV1:Hid (OVB w1 w.heap.size v1 zs):=(by simpa [Hid] using hov1);clear hov1 hgr1))
  go_ret;exact ⟨⟨_,rfl,HV1.out⟩,HB1.out⟩
set_option linter.unusedSimpArgs false
def BxP (w:World) (X x y:Nat):Prop:=w.heap[X]?=some (.cells #[.int .i64 x,.int .i64 y] 176 (0,0))
def RD (w:World) (B R:Nat) (a:Option Addr) (L cap n p:Nat):Prop:=w.heap[R]?=some (.cells #[.slice a L cap,.int .i64 n,.int .i64 p] 188 (0,0))/\B<=R/\B<=w.heap.size
theorem zd {w:World} {R j:Nat} {cur:Array Value} {T:TypeId} {v:Value} (hR:w.heap[R]?=some (.cells cur T (0,0))) (hv:cur[j]?=some v):w.cell? ⟨R,j,none⟩=some v:=by
 rw [cell_of_row w R j cur T (0,0) hR];exact hv
theorem RD.frz {w:World} {B R:Nat} {a:Option Addr} {L cap n p:Nat} (h:RD w B R a L cap n p) (j:Nat):w.frozen? ⟨R,j,none⟩=false:=frozen_of_row w R j _ _ h.1
theorem RD.yes {w:World} {B R:Nat} {a:Option Addr} {zs:List Int} {cap n p:Nat} (h:RD w B R a zs.length cap n p) (v:Nat) (width:Int) (hn:n<=4104) (hb:Byt w a zs) (hz:zs=enc n v) (k1:0<=width) (k2:width<=30) (k4:(p:Int)<=(n:Int)-width) :
  Calls Tryz.prog 166 #[.pointer (some ⟨R,0,none⟩),.int .i64 width] w fun e w'=>
   e=.returned (.tuple #[.int .i64 (v / 2 ^ p % 2 ^ width.toNat:Nat),.nilIface])/\RD w' B R a zs.length cap n (p+width.toNat)/\Only (fun k=>k=R) w w'/\Below B w w':=by
 refine (znq R a cap zs n v p width w hn hb hz (zd (j:=0) h.1 rfl) (zd (j:=1) h.1 rfl) (zd (j:=2) h.1 rfl) (h.frz 2) k1 k2 (by omega) k4).mono ?_
 rintro e w' ⟨rfl,m,rfl⟩;have hR:(w.drewN m).heap[R]?=some (.cells #[.slice a zs.length cap,.int .i64 n,.int .i64 p] 188 (0,0)):=h.1;have hO:Only (fun k=>k=R) w ((w.drewN m).setCell ⟨R,2,none⟩ (.int .i64 ((p:Int)+width))):=by
  have h0:Only (fun k=>k=R) w (w.drewN m):=Only.ofBelow (S:=fun k=>k=R) (B:=w.heap.size) ⟨rfl,rfl,rfl,Nat.le_refl _,fun _ _=>rfl⟩ nl
  exact Only.setCell h0 (p:=⟨R,2,none⟩) (.inl rfl) _
 refine ⟨by simp,⟨?_,h.2.1,Nat.le_trans h.2.2 hO.size⟩,hO,hO.below h.2.2 (fun k hk=>by rw [hk];exact h.2.1)⟩
 rw [heap_setCell_same _ R 2 _ _ _ hR];have e:((p:Int)+width)=((p+width.toNat:Nat):Int):=by omega
 rw [e]
 simp
theorem RD.no {w:World} {B R:Nat} {a:Option Addr} {zs:List Int} {cap n p:Nat} (h:RD w B R a zs.length cap n p) (width:Int) (hn:n<=4104) (hp:p<=4104) (s0:Sent w 10) (s2:Sent w 17) (k4:width<0\/30<width\/(n:Int)-width<p) :
  Calls Tryz.prog 166 #[.pointer (some ⟨R,0,none⟩),.int .i64 width] w fun e w'=>(∃ T x,e=.returned (.tuple #[.int .i64 0,.iface T x]))/\∃ m,w'=w.drewN m:=
 zqa R a cap zs n p width w hn (by omega) (zd (j:=0) h.1 rfl) (zd (j:=1) h.1 rfl) (zd (j:=2) h.1 rfl) s0 s2 (by omega)
theorem RD.only {w w':World} {B R:Nat} {a:Option Addr} {L cap n p:Nat} {S:Nat->Prop} (h:RD w B R a L cap n p) (ho:Only S w w') (hs:¬S R):RD w' B R a L cap n p:=
 ⟨(ho.block R (Array.getElem?_eq_some_iff.1 h.1).1 hs).trans h.1,h.2.1,Nat.le_trans h.2.2 ho.size⟩
def zh2 (R:Nat) (w w':World):Prop:=∀ (g:Nat) (cur:Array Value) (T:TypeId),w.heap[g]?=some (.cells cur T (0,0))->T≠5->g≠R->w'.heap[g]?=some (.cells cur T (0,0))
theorem SI.putK {w:World} {B R n V:Nat} (h:SI w B R n V) (x width:Nat) (h2:width<=30) (hxw:x<2 ^ width) (hn:n<=4096) :
  Calls Tryz.prog 92 #[.pointer (some ⟨R,0,none⟩),.int .i64 (x:Int),.int .i64 (width:Int)] w fun e w'=>e=.returned (.tuple #[])/\SI w' B R (n+width) (V+x*2 ^ n)/\Below B w w'/\zh2 R w w':=by
 obtain ⟨v,hR,hv,hV,hBR,hB⟩:=h;have hp:2 ^ width<=2 ^ 30:=Nat.pow_le_pow_right (by omega) h2
 refine (z20 R B v n V x width w hR hv hV hB (by omega) (by omega) (by omega) (by omega) (by omega)).mono ?_
 rintro e w' ⟨rfl,v',hR',hv',ho,_⟩
 simp only [Int.toNat_natCast] at hR' hv'
 rw [Nat.mod_eq_of_lt hxw] at hv';have hb:Below B w w':=ho.below hB (fun k hk=>by
  rcases hk with hk | hk
  ·omega
  ·exact hv.blk hk)
 refine ⟨rfl,⟨v',hR',hv',z0x n V width x hV hxw,hBR,Nat.le_trans hB hb.size⟩,hb,fun g cur T hg hT hgR=>?_⟩
 refine (ho.block g (Array.getElem?_eq_some_iff.1 hg).1 ?_).trans hg;rintro (hk | hk)
 ·exact hgR hk
 ·exact hv.neP hk hg hT rfl
theorem OVI.keepT {R:Nat} {w w':World} {B:Nat} {v:Value} {zs:List Int} (h:OVI w B v zs) (hk:zh2 R w w') (hR:v.ownBlock≠some R):OVI w' B v zs:=by
 refine ⟨⟨h.1.1,?_⟩,h.2⟩;rcases h.1.2 with h' | ⟨g,cap,cur,h',hg,hh,r⟩
 ·exact .inl h'
 ·exact .inr ⟨g,cap,cur,h',hg,hk g cur _ hh (by decide) (fun e=>hR (by rw [h',<-e];rfl)),r⟩
theorem SI.grownI {w w':World} {B R n V:Nat} {v:Value} {zs:List Int} (h:SI w B R n V) (ho:OVI w B v zs) (hg:w.grownBy w' v.ownBlock):SI w' B R n V:=by
 obtain ⟨u,h1,h2,h3,h4,h5⟩:=h;refine ⟨u,z0c hg h1 (ho.blk_ne h1 (by decide)),⟨⟨h2.1.1,?_⟩,h2.2⟩,h3,h4,Nat.le_trans h5 hg.size⟩
 rcases h2.1.2 with h' | ⟨g,cap,cur,h',hgg,hh,r⟩
 ·exact .inl h'
 ·exact .inr ⟨g,cap,cur,h',hgg,z0c hg hh (ho.blk_ne hh (by decide)),r⟩
theorem SI.setOther {w:World} {B R n V:Nat} (h:SI w B R n V) {P:Nat} {cur:Array Value} {T:TypeId} (hP:w.heap[P]?=some (.cells cur T (0,0))) (hT:T≠5) (hPR:P≠R) (j:Nat) (x:Value):SI (w.setCell ⟨P,j,none⟩ x) B R n V:=by
 have ho:Only (fun b=>b=P) w (w.setCell ⟨P,j,none⟩ x):=Only.setCell (Only.refl (fun b=>b=P) w) (p:=⟨P,j,none⟩) (.inl rfl) _
 obtain ⟨u,h1,h2,h3,h4,h5⟩:=h;refine ⟨u,(ho.block R (Array.getElem?_eq_some_iff.1 h1).1 (fun e=>hPR e.symm)).trans h1,⟨⟨h2.1.1,?_⟩,h2.2⟩,h3,h4,Nat.le_trans h5 ho.size⟩
 rcases h2.1.2 with h' | ⟨g,cap,cur',h',hgg,hh,r⟩
 ·exact .inl h'
 ·refine .inr ⟨g,cap,cur',h',hgg,(ho.block g (Array.getElem?_eq_some_iff.1 hh).1 (fun e=>?_)).trans hh,r⟩
  subst e;rw [hP] at hh
  simp at hh
  exact hT hh.2
theorem OVI.setOther {w:World} {B:Nat} {v:Value} {zs:List Int} (h:OVI w B v zs) {P:Nat} {cur:Array Value} {T:TypeId} (hP:w.heap[P]?=some (.cells cur T (0,0))) (hT:T≠3) (j:Nat) (x:Value):OVI (w.setCell ⟨P,j,none⟩ x) B v zs:=by
 have ho:Only (fun b=>b=P) w (w.setCell ⟨P,j,none⟩ x):=Only.setCell (Only.refl (fun b=>b=P) w) (p:=⟨P,j,none⟩) (.inl rfl) _
 refine ⟨⟨h.1.1,?_⟩,h.2⟩;rcases h.1.2 with h' | ⟨g,cap,cur',h',hg,hh,r⟩
 ·exact .inl h'
 ·refine .inr ⟨g,cap,cur',h',hg,(ho.block g (Array.getElem?_eq_some_iff.1 hh).1 (fun e=>?_)).trans hh,r⟩
  subst e;rw [hP] at hh
  simp at hh
  exact hT hh.2
structure SyS (w:World) (B P R:Nat) (st:SyT):Prop where
 box:∃ a c,w.heap[P]?=some (.cells #[.slice a st.1.length c] 57 (0,0))/\OVI w B (.slice a st.1.length c) st.1
 si:SI w B R st.2.1 st.2.2
 BP:B<=P
theorem SyS.ne {w:World} {B P R:Nat} {st:SyT} (h:SyS w B P R st):P≠R:=by
 obtain ⟨a,c,h1,_⟩:=h.box;obtain ⟨v,h2,_⟩:=h.si;rintro rfl;rw [h1] at h2
 simp at h2
theorem SyS.put {w w':World} {B P R:Nat} {st:SyT} {n V:Nat} (h:SyS w B P R st) (hs:SI w' B R n V) (hk:zh2 R w w'):SyS w' B P R (st.1,n,V):=by
 obtain ⟨a,c,h1,h2⟩:=h.box;refine ⟨⟨a,c,hk P _ _ h1 (by decide) h.ne,h2.keepT hk (fun e=>?_)⟩,hs,h.BP⟩
 obtain ⟨v,h3,_⟩:=h.si;exact h2.blk_ne h3 (by decide) e.symm
theorem SyS.app {w w4:World} {B P R:Nat} {st:SyT} {a a4:Option Addr} {c c4:Nat} {z:Int} (h:SyS w B P R st) (hP:w.heap[P]?=some (.cells #[.slice a st.1.length c] 57 (0,0))) (ho:OVI w B (.slice a st.1.length c) st.1) (o:Obj) (hov:OVI w4 B (.slice a4 (st.1.length+1) c4) (st.1++[z])) (hg:(w.alloc o).grownBy w4 (Value.slice a st.1.length c).ownBlock) :
  w4.heap[P]?=some (.cells #[.slice a st.1.length c] 57 (0,0))/\SyS (w4.setCell ⟨P,0,none⟩ (.slice a4 (st.1.length+1) c4)) B P R (st.1++[z],st.2.1,st.2.2)/\Below B w (w4.setCell ⟨P,0,none⟩ (.slice a4 (st.1.length+1) c4)):=by
 have hA:Bw w (w.alloc o):=(Below.refl _ _).alloc nl o;have hoA:OVI (w.alloc o) B (.slice a st.1.length c) st.1:=ho.below hA;have hPA:(w.alloc o).heap[P]?=some (.cells #[.slice a st.1.length c] 57 (0,0)):=(hA.block P (Array.getElem?_eq_some_iff.1 hP).1).trans hP;have hP4:=z0c hg hPA (hoA.blk_ne hPA (by decide))
 have hs4:=(h.si.stay hA).grownI hoA hg;have hB:B<=w.heap.size:=by obtain ⟨v,_,_,_,_,h5⟩:=h.si;exact h5
 refine ⟨hP4,⟨⟨a4,c4,?_,?_⟩,hs4.setOther hP4 (by decide) h.ne 0 _,h.BP⟩,?_⟩
 ·rw [List.length_append,List.length_singleton,heap_setCell_same _ P 0 _ _ _ hP4]
  simp
 ·rw [List.length_append,List.length_singleton]
  exact hov.setOther hP4 (by decide) 0 _
 ·exact (((Below.refl B w).alloc hB o).grown hg (by simp;omega) (fun k hk=>ho.blk hk)).setCell (p:=⟨P,0,none⟩) h.BP _
theorem zdu (B P R:Nat) (z:Int) (st:SyT) (w:World) (h:SyS w B P R st) (hz:0<=z/\z<=255) (hN:st.2.1<=4000) (hl:st.1.length<=1000) :
  Calls Tryz.prog 117 #[.pointer (some ⟨P,0,none⟩),.pointer (some ⟨R,0,none⟩),.int .u8 z] w fun e w'=>e=.returned (.tuple #[])/\SyS w' B P R (z44 st z)/\Below B w w':=by
 obtain ⟨i0,hi,hz0,hz1,hz2⟩:=info_parts Tryz.infoI64;obtain ⟨a,c,hP,ho⟩:=h.box;have HS:Hid (SyS w B P R st/\w.heap[P]?=some (.cells #[.slice a st.1.length c] 57 (0,0))/\OVI w B (.slice a st.1.length c) st.1):=⟨h,hP,ho⟩;have c0:w.cell? ⟨P,0,none⟩=some (.slice a st.1.length c):=zd (j:=0) hP rfl;have hB:B<=w.heap.size:=by obtain ⟨v,_,_,_,_,h5⟩:=h.si;exact h5
 have hu:=ho.1;obtain ⟨ts,n,V⟩:=st
 simp only at *
 clear h hP ho
 go_enter Tryz.func117,Tryz.ntmps117
 have HAND:Hid ((((z % 16).toNat:Nat):Int)=z % 16/\(z % 16).toNat<2 ^ 4):=⟨by omega,by omega⟩
 go_wp2_with (at_builtin;(refine wpList_append_lies _ rfl (.tmp 9) (.tmp 13) 57 rfl B 3 i0 (.int .i64 0) 1 8 Tryz.underlying57 hi hz0 hz1 hz2 rfl (by decide) (.slice a ts.length c) ts.length (ts.map (Value.int .i64)) rfl (hu.alloc _) ⟨w.heap.size,0,none⟩ 1 1 [.int .i64 (z / 16)] rfl rfl (by intro j y hj;match j,hj with | 0,hj=>(simp at hj;subst hj;simp [Addr.add])) (by intro y hy;simp at hy;subst hy;rfl) (by omega) (by unfold maxLen;omega) (by omega) (by simp;omega) _ rfl ?_);intro g cap1 w4 hown hgrow hat hlt1;have k4:=(HS.out.1.app HS.out.2.1 HS.out.2.2 _ (OVI.app rfl HS.out.2.2.2 (by omega) hown) hgrow).1;have k0:=zd (j:=0) k4 rfl;have kf:=frozen_of_row w4 P 0 _ _ k4)
 have HS4:Hid _:=(HS.out.1.app HS.out.2.1 HS.out.2.2 _ (OVI.app rfl HS.out.2.2.2 (by omega) hown) hgrow).2
 clear hown hgrow hat hlt1 k4 k0 kf hu c0;have HC:=HS4.out.1.si.putK (z % 16).toNat 4 (by omega) HAND.out.2 (by simp only;omega)
 rw [HAND.out.1] at HC;refine HC.mono ?_;clear HC;rintro e w5 ⟨rfl,hs5,hb5,hk5⟩;have HY:Hid (SyS w5 B P R (z44 (ts,n,V) z)/\Below B w w5):=⟨HS4.out.1.put hs5 hk5,HS4.out.2.trans hb5⟩;clear hs5 hb5 hk5 HS4;go_wp2
 go_end0
 exact ⟨rfl,HY.out⟩
theorem zeq (n:Nat) (w:World) (h1:1<=n) (h2:n<256) :
  Calls Tryz.prog 143 #[.int .i64 (n:Nat)] w fun e w'=>e=.returned (.int .i64 (cl n:Nat))/\w'=w:=by
 have hc:=z25 h1 h2;have HC:Hid (2 ^ cl n<=n/\n<2 ^ (cl n+1)):=⟨hc.1,hc.2.1⟩;have hc7:=hc.2.2.1;clear hc;generalize cl n=m at *
 go_enter Tryz.func143,Tryz.ntmps143
 go_wp2
 go_loopw [3] (fun kv wr=>∃ k:Nat,k<=m/\kv=.int .i64 k/\wr=w) (fun kv _=>m-(intOf kv).toNat)
 case atStart=>exact ⟨0,Nat.zero_le _,rfl,rfl⟩
 case round=>
  obtain ⟨k,hk,rfl,rfl⟩:=hrel
  by_cases hlt:k<m
  ·have hq:(0:Int)<(n:Int) / 2 ^ (k+1):=by
    have h9:2 ^ (k+1)<=2 ^ m:=Nat.pow_le_pow_right (by omega) (by omega)
    have h8:1<=n / 2 ^ (k+1):=(Nat.le_div_iff_mul_le (Nat.two_pow_pos _)).2 (by have:=HC.out.1;omega)
    have e:((n:Int) / 2 ^ (k+1))=((n / 2 ^ (k+1):Nat):Int):=by simp
    rw [e]
    omega
   go_wp2
   go_roundw
   case rel=>exact ⟨k+1,by omega,by go_num,by simp⟩
   case measure=>simp [intOf];omega
  ·have hkm:k=m:=by omega
   subst hkm;have hq:¬(0:Int)<(n:Int) / 2 ^ (k+1):=by
    have h8:n / 2 ^ (k+1)=0:=Nat.div_eq_of_lt HC.out.2;have e:((n:Int) / 2 ^ (k+1))=((n / 2 ^ (k+1):Nat):Int):=by simp
    rw [e]
    omega
   go_wp2
   go_ret;exact ⟨rfl,rfl⟩
theorem zqu (k:Nat) (h:k<=12):wrap64 (2 ^ k)=((2 ^ k:Nat):Int):=by
 have h2:2 ^ k<=2 ^ 12:=Nat.pow_le_pow_right (by omega) h
 have e:((2:Int) ^ k)=((2 ^ k:Nat):Int):=by simp
 rw [e];generalize 2 ^ k=P at *;exact IntWalk.wrap64_in _ (by omega)
theorem z6f (B P R base m:Nat) (st:SyT) (w:World) (h:SyS w B P R st) (hm:1<=m/\m<256) (hba:base<=28) (hN:st.2.1<=4000) (hl:st.1.length<=1000) :
  Calls Tryz.prog 118 #[.pointer (some ⟨P,0,none⟩),.pointer (some ⟨R,0,none⟩),.int .i64 (base:Nat),.int .i64 (m:Nat)] w fun e w'=>e=.returned (.tuple #[])/\SyS w' B P R (z12 base m st)/\Below B w w':=by
 obtain ⟨i0,hi,hz0,hz1,hz2⟩:=info_parts Tryz.infoI64;obtain ⟨a,c,hP,ho⟩:=h.box;have HS:Hid (SyS w B P R st/\w.heap[P]?=some (.cells #[.slice a st.1.length c] 57 (0,0))/\OVI w B (.slice a st.1.length c) st.1):=⟨h,hP,ho⟩;have c0:w.cell? ⟨P,0,none⟩=some (.slice a st.1.length c):=zd (j:=0) hP rfl;have hB:B<=w.heap.size:=by obtain ⟨v,_,_,_,_,h5⟩:=h.si;exact h5
 have hu:=ho.1;obtain ⟨ts,n,V⟩:=st
 simp only at *
 have hc:=z25 hm.1 hm.2;have HCL:=zeq m w hm.1 hm.2;have HCF:Hid (2 ^ cl m<=m/\m<2 ^ (cl m+1)/\∃ k,cl m=k):=⟨hc.1,hc.2.1,_,rfl⟩;have hc7:=hc.2.2.1;obtain ⟨k,hk⟩:=HCF.out.2.2;rw [hk] at HCL hc7;have HK:Hid (cl m=k/\2 ^ k<=m/\m-2 ^ k<2 ^ k):=by
  refine ⟨hk,by rw [<-hk];exact hc.1,?_⟩
  have h9:=hc.2.1;rw [hk,Nat.pow_succ] at h9;have h8:=hc.1;rw [hk] at h8
  omega
 have HW:Hid (wrap64 ((m:Int)-wrap64 (2 ^ k))=((m-2 ^ k:Nat):Int)/\((base:Nat):Int)+(k:Nat)=((base+k:Nat):Int)):=by
  refine ⟨?_,by omega⟩
  rw [zqu k (by omega)]
  have h9:=HK.out.2.1;generalize 2 ^ k=Q at *;rw [IntWalk.wrap64_in _ (by omega)]
  omega
 clear h hP ho hc hk HCF
 go_enter Tryz.func118,Tryz.ntmps118
 go_wp2_with fail
 refine HCL.mono ?_;clear HCL;rintro e w9 ⟨rfl,hw9⟩;rw [hw9];clear hw9;go_wp2_with (at_builtin;(refine wpList_append_lies _ rfl (.tmp 14) (.tmp 18) 57 rfl B 3 i0 (.int .i64 0) 1 8 Tryz.underlying57 hi hz0 hz1 hz2 rfl (by decide) (.slice a ts.length c) ts.length (ts.map (Value.int .i64)) rfl (hu.alloc _) ⟨w.heap.size,0,none⟩ 1 1 [.int .i64 ((base:Int)+(k:Nat))] rfl rfl (by intro j y hj;match j,hj with | 0,hj=>(simp at hj;subst hj;simp [Addr.add])) (by intro y hy;simp at hy;subst hy;rfl) (by omega) (by unfold maxLen;omega) (by omega) (by simp;omega) _ rfl ?_);intro g cap1 w4 hown hgrow hat hlt1;have k4:=(HS.out.1.app HS.out.2.1 HS.out.2.2 _ (OVI.app rfl HS.out.2.2.2 (by omega) hown) hgrow).1;have k0:=zd (j:=0) k4 rfl;have kf:=frozen_of_row w4 P 0 _ _ k4)
 have HS4:Hid _:=(HS.out.1.app HS.out.2.1 HS.out.2.2 _ (OVI.app rfl HS.out.2.2.2 (by omega) hown) hgrow).2
 clear hown hgrow hat hlt1 k4 k0 kf hu c0;rw [HW.out.2] at HS4;have HC:=HS4.out.1.si.putK (m-2 ^ k) k (by omega) HK.out.2.2 (by simp only;omega)
 rw [HW.out.1];refine HC.mono ?_;clear HC;rintro e w5 ⟨rfl,hs5,hb5,hk5⟩;have HY:Hid (SyS w5 B P R (z12 base m (ts,n,V))/\Below B w w5):=by
  unfold z12;rw [HK.out.1];exact ⟨HS4.out.1.put hs5 hk5,HS4.out.2.trans hb5⟩
 clear hs5 hb5 hk5 HS4;go_wp2
 go_end0
 exact ⟨rfl,HY.out⟩
end Go.Proofs.YtjmcjbmjgpponaaGreatDoor
