import Derived.Test.YtjmcjbmjgpponaaGreatDoorPut3
set_option maxRecDepth 20000
set_option maxHeartbeats 16000000
namespace Go.Proofs.YtjmcjbmjgpponaaGreatDoor
open Go.RowKit
set_option linter.unusedVariables false
set_option maxRecDepth 100000 in
theorem zli (R B:Nat) (v:Value) (n V:Nat) (x width room:Int) (w:World) (hR:w.heap[R]?=some (.cells #[v,.int .i64 n,.int .i64 room] 154 (0,0))) (hv:OwnV w B v (enc n V)) (hV:V<2 ^ n) (hB:B<=w.heap.size)
  (hx:0<=x) (h1:0<=width) (h2:width<=30) (hxw:x<2 ^ width.toNat) (h3:width<=room-n) (hn:n<=4104) (hroom:room<=5000) :
  Calls Tryz.prog 132 #[.pointer (some ⟨R,0,none⟩),.int .i64 x,.int .i64 width] w fun e w'=>e=.returned .nilIface /\
   ∃ v',w'.heap[R]?=some (.cells #[v',.int .i64 ((n+width.toNat:Nat):Int),.int .i64 room] 154 (0,0))/\OwnV w' B v' (enc (n+width.toNat) (V+x.toNat*2 ^ n)) /\
    Only (fun k=>k=R\/v.ownBlock=some k) w w'/\(v'.ownBlock=v.ownBlock\/∃ k,v'.ownBlock=some k/\w.heap.size<=k):=by
 obtain ⟨X,rfl⟩:=Int.eq_ofNat_of_zero_le hx;obtain ⟨m,rfl⟩:=Int.eq_ofNat_of_zero_le h1
 simp only [Int.toNat_natCast] at *
 have hXm:X<2 ^ m:=by
  have e:((2:Int) ^ m)=((2 ^ m:Nat):Int):=by simp
  rw [e] at hxw
  omega
 have hXb:X<=1073741824:=by
  have:2 ^ m<=2 ^ 30:=Nat.pow_le_pow_right (by omega) (by omega)
  omega
 have HXM:Hid (X<2 ^ m):=hXm;rw [<-ze7 m (by omega)] at hxw
 have hRlt:R<w.heap.size:=(Array.getElem?_eq_some_iff.1 hR).1;have HR:Hid (w.heap[R]?=some (.cells #[v,.int .i64 n,.int .i64 room] 154 (0,0))):=hR;have HV:Hid (OwnV w B v (enc n V)):=hv;have HVV:Hid (V<2 ^ n):=hV;have c1:w.cell? ⟨R,1,none⟩=some (.int .i64 n):=zm (j:=1) hR rfl;have c2:w.cell? ⟨R,2,none⟩=some (.int .i64 room):=zm (j:=2) hR rfl;have hd:Hid (decide (0<=(m:Int)/\(m:Int)<=30)=true):=by simp [Hid];omega
 clear hR hv hV hXm;obtain ⟨i0,hi,hz0,hz1,hz2⟩:=info_parts Tryz.infoU8
 go_enter Tryz.func132,Tryz.ntmps132
 go_wp2_with fail
 refine (z08 _ _).mono ?_;rintro e w1 ⟨rfl,hw1⟩;rw [hd.out];rw [hw1];clear hw1;go_wp2
 go_quiet (fail)
 go_wp2
 clear hxw c1 c2
 go_loopw [1,7] (fun y l wr=>∃ (d:Nat) (u:Value),d<=m/\l=.int .i64 ((m:Int)-d)/\y=.int .i64 ((X / 2 ^ d:Nat):Int)/\wr.heap[R]?=some (.cells #[u,.int .i64 ((n+d:Nat):Int),.int .i64 room] 154 (0,0))/\OwnV wr B u (enc (n+d) (V+(X % 2 ^ d)*2 ^ n)) /\
   Only (fun k=>k=R\/v.ownBlock=some k) w wr/\(u.ownBlock=v.ownBlock\/∃ k,u.ownBlock=some k/\w.heap.size<=k)) (fun _ l _=>(intOf l).toNat)
 case atStart=>exact ⟨0,v,Nat.zero_le _,by simp,by simp,HR.out,by simp only [Nat.pow_zero,Nat.mod_one,Nat.zero_mul,Nat.add_zero];exact HV.out,(Only.refl _ _).drewN _,.inl rfl⟩
 case round=>
  obtain ⟨d,u,hdm,rfl,rfl,hRr,hur,honly,hrow⟩:=hrel
  by_cases hlt:d<m
  ·obtain ⟨s,hs⟩:∃ s,s=min (8-(n+d) % 8) (m-d):=⟨_,rfl⟩
   have hs1:0<s:=by omega
   have hVk:V+X % 2 ^ d*2 ^ n<2 ^ (n+d):=z0x n V d _ HVV.out (Nat.mod_lt _ (Nat.pow_pos (by omega)))
   have hY:X / 2 ^ d<2 ^ (m-d):=by
    rw [Nat.div_lt_iff_lt_mul (Nat.pow_pos (by omega)),<-Nat.pow_add,show m-d+d=m from by omega]
    exact HXM.out
   have hYb:X / 2 ^ d<=X:=Nat.div_le_self _ _;have hnext:=zct (n+d) (V+X % 2 ^ d*2 ^ n) s (X / 2 ^ d % 2 ^ s) hVk (Nat.mod_lt _ (Nat.pow_pos (by omega))) hs1 (by omega)
   rw [z5b n V X d s] at hnext;have htop:=z9y (n+d) _ hVk;have hlast:=z7w (n+d) _ hVk;have hlen:=z0a (n+d) (V+X % 2 ^ d*2 ^ n);have hdiv:X / 2 ^ (d+s)=X / 2 ^ d / 2 ^ s:=by rw [Nat.div_div_eq_div_mul,<-Nat.pow_add]
   have HDIV:Hid (X / 2 ^ (d+s)=X / 2 ^ d / 2 ^ s):=hdiv;generalize hZp:enc (n+d+s) (V+X % 2 ^ (d+s)*2 ^ n)=Z' at *;have HPART:Hid (enc (n+d+s) (V+X % 2 ^ (d+s)*2 ^ n)=Z'):=hZp;clear hZp hdiv;generalize (V+X % 2 ^ d*2 ^ n) / 256 ^ ((n+d) / 8)=old at *;generalize enc (n+d) (V+X % 2 ^ d*2 ^ n)=Z at *;generalize hYY:X / 2 ^ d=Y at *;have HYY:Hid (X / 2 ^ d=Y):=hYY;have hq4:n+d<=4134:=by omega
   generalize hq:n+d=q at *;have HQ:Hid (n+d=q):=hq;clear hq hYY hVk;have hch:=zj5 old Y (q % 8) s (m-d) (by omega) htop hY hs (by omega)
   have hrng:(0:Int)<=((old+Y % 2 ^ s*2 ^ (q % 8):Nat):Int)/\((old+Y % 2 ^ s*2 ^ (q % 8):Nat):Int)<=255:=by omega
   rw [<-hch.1] at hrng hnext;have HRNG:Hid (0<=bits .or .u8 (old:Int) (wrap64 ((Y:Int)*2 ^ (q % 8)) % 256)/\bits .or .u8 (old:Int) (wrap64 ((Y:Int)*2 ^ (q % 8)) % 256)<=255):=hrng;clear hrng hch hY
   by_cases h8:q % 8=0
   ·rw [if_pos h8] at hnext
    have hlen':Z.length=q / 8:=by omega
    have HNEXT:Hid (Z'=(Z++[0]).set (q / 8) (bits .or .u8 (old:Int) (wrap64 ((Y:Int)*2 ^ (q % 8)) % 256))):=hnext;have hold:old=0:=by rw [h8] at htop;simp at htop;exact htop
    have hBw:B<=wr.heap.size:=Nat.le_trans hB honly.size;have h8':((q:Int) % 8 == 0)=true:=by simp;omega
    have hu:=hur.1;rw [hlen'] at hu;obtain ⟨au,cu,rfl⟩:∃ (x:Option Addr) (c:Nat),u=.slice x (q / 8) c:=by
     rcases hu.2 with ⟨rfl,h0⟩ | ⟨g',cap',cur',rfl,_⟩
     ·exact ⟨none,0,by rw [h0]⟩
     ·exact ⟨_,_,rfl⟩
    have c0:wr.cell? ⟨R,0,none⟩=some (.slice au (q / 8) cu):=zm (j:=0) hRr rfl;have c1:wr.cell? ⟨R,1,none⟩=some (.int .i64 (q:Nat)):=zm (j:=1) hRr rfl;have HRR:Hid (wr.heap[R]?=some (.cells #[.slice au (q / 8) cu,.int .i64 ((q:Nat):Int),.int .i64 room] 154 (0,0))):=hRr;have HZR:Hid (∀ z ∈ Z,0<=z/\z<=255):=hur.2;have HONLY:Hid (Only (fun k=>k=R\/v.ownBlock=some k) w wr):=honly
    have HROW:Hid ((Value.slice au (q / 8) cu).ownBlock=v.ownBlock\/∃ k,(Value.slice au (q / 8) cu).ownBlock=some k/\w.heap.size<=k):=hrow;have HZL:Hid (Z.length=q / 8):=hlen';have huR:Hid (some R≠(Value.slice au (q / 8) cu).ownBlock):=by
     intro he
     rcases hu.2 with ⟨h',_⟩ | ⟨g',cap',cur',h',hg',hh,r⟩
     ·simp at h'
      rw [h'.1] at he
      simp [Value.ownBlock] at he
     ·simp at h'
      rw [h'.1] at he
      simp [Value.ownBlock] at he
      subst he;rw [hRr] at hh
      simp at hh
    have HS:Hid (s=min (8-q % 8) (m-d)):=hs;clear hnext hlast honly hrow hRr hlen hlen' hur hs;go_wp2_with (at_builtin;(refine wpList_append_lies _ rfl (.tmp 53) (.tmp 54) 22 rfl B 5 i0 (.int .u8 0) 1 1 Tryz.underlying22 hi hz0 hz1 hz2 rfl (by decide) (.slice au (q / 8) cu) (q / 8) (Z.map (Value.int .u8)) rfl (hu.alloc _) ⟨wr.heap.size,0,none⟩ 1 1 [.int .u8 0] rfl rfl (by intro j y hj;match j,hj with | 0,hj=>(simp at hj;subst hj;simp [Addr.add])) (by intro y hy;simp at hy;subst hy;rfl) (by omega) (by unfold maxLen;omega) (by omega) (by simp;omega) _ rfl ?_);intro g cap w1 hown hgrow hat hlt1;have hR1:=z4o hgrow HRR.out huR.out;have d0:=zm (j:=0) hR1 rfl;have d1:=zm (j:=1) hR1 rfl;have e0:=z0q (j:=0) hR1)
    have G:=zhw (v:=v) HRR.out huR.out HZR.out HZL.out hgrow hown hat HONLY.out HROW.out;clear hown hgrow hat hR1 d0 d1 e0 c0 c1 hu hlt1;generalize w1.setCell ⟨R,0,none⟩ (.slice (some ⟨g,0,none⟩) (q / 8+1) cap)=W at *;obtain ⟨hRr,hown,honly,hrow'⟩:=G;have hlen':(Z++[0]).length=q / 8+1:=by rw [List.length_append,HZL.out];rfl
    have CL:Hid _:=z95 (v:=v) (s:=s) hRr hlen' hown HNEXT.out HRNG.out honly hrow';have HROW2:Hid (v.ownBlock=some g\/w.heap.size<=g):=hrow';have hne:=hown.ne hRr (by decide)
    have c0:W.cell? ⟨R,0,none⟩=some (.slice (some ⟨g,0,none⟩) (q / 8+1) cap):=zm (j:=0) hRr rfl;have c1:W.cell? ⟨R,1,none⟩=some (.int .i64 (q:Nat)):=zm (j:=1) hRr rfl;have f1:=z0q (j:=1) hRr;have cg:W.cell? ⟨g,q / 8,none⟩=some (.int .u8 (old:Nat)):=by
     rw [hown.cell (q / 8) (by omega),hold]
     simp [<-HZL.out]
    have fg:=hown.frozen (q / 8);clear hown honly hrow' hRr hlen' HNEXT HRNG h8 hold HRR HZR HONLY HROW HZL huR
    go_region
    go_wp2
    go_roundw
    case rel=>
     have hmin:(if (m:Int)-(d:Int)<8-(q:Int) % 8 then (m:Int)-(d:Int) else 8-(q:Int) % 8)=(s:Int):=by
      have:=HS.out
      split <;> omega
     rw [hmin];have C:=CL.out;refine ⟨d+s,.slice (some ⟨g,0,none⟩) (q / 8+1) cap,by have:=HS.out;omega,congrArg (Value.int .i64) (by omega),congrArg (Value.int .i64) (by rw [HDIV.out];simp),?_,?_,?_,?_⟩
     ·rw [show n+(d+s)=q+s from by have:=HQ.out;omega];exact C.1
     ·rw [show n+(d+s)=q+s from by have:=HQ.out;omega,HPART.out];exact C.2.1
     ·exact C.2.2.drew
     ·rcases HROW2.out with h | h
      ·exact .inl h.symm
      ·exact .inr ⟨g,rfl,h⟩
    case measure=>
     have:=HS.out
     simp [intOf]
     split <;> omega
   ·rw [if_neg h8] at hnext
    have hlen':Z.length=q / 8+1:=by omega
    obtain ⟨g,cap,rfl,hown⟩:=hur.form (by omega)
    rw [hlen'] at hRr hrow;have HNEXT:Hid (Z'=Z.set (q / 8) (bits .or .u8 (old:Int) (wrap64 ((Y:Int)*2 ^ (q % 8)) % 256))):=hnext;have hrow':v.ownBlock=some g\/w.heap.size<=g:=by
     rcases hrow with h | ⟨kk,h,h'⟩
     ·exact .inl (h.symm.trans rfl)
     ·right
      simp [Value.ownBlock] at h
      omega
    have CL:Hid _:=z95 (v:=v) (s:=s) hRr hlen' hown HNEXT.out HRNG.out honly hrow';have HROW:Hid (v.ownBlock=some g\/w.heap.size<=g):=hrow';have hne:=hown.ne hRr (by decide)
    have c0:wr.cell? ⟨R,0,none⟩=some (.slice (some ⟨g,0,none⟩) (q / 8+1) cap):=zm (j:=0) hRr rfl;have c1:wr.cell? ⟨R,1,none⟩=some (.int .i64 (q:Nat)):=zm (j:=1) hRr rfl;have f1:=z0q (j:=1) hRr;have cg:=hown.cell (q / 8) (by omega)
    have fg:=hown.frozen (q / 8);rw [hlast h8] at cg;have h8':((q:Int) % 8 == 0)=false:=by simp;omega
    have HS:Hid (s=min (8-q % 8) (m-d)):=hs;clear hnext hlast hown honly hrow hrow' hRr hlen hlen' hur HNEXT HRNG h8 hs;go_wp2
    go_region
    go_wp2
    go_roundw
    case rel=>
     have hmin:(if (m:Int)-(d:Int)<8-(q:Int) % 8 then (m:Int)-(d:Int) else 8-(q:Int) % 8)=(s:Int):=by
      have:=HS.out
      split <;> omega
     rw [hmin];have C:=CL.out;refine ⟨d+s,.slice (some ⟨g,0,none⟩) (q / 8+1) cap,by have:=HS.out;omega,congrArg (Value.int .i64) (by omega),congrArg (Value.int .i64) (by rw [HDIV.out];simp),?_,?_,?_,?_⟩
     ·rw [show n+(d+s)=q+s from by have:=HQ.out;omega];exact C.1
     ·rw [show n+(d+s)=q+s from by have:=HQ.out;omega,HPART.out];exact C.2.1
     ·exact C.2.2.drew
     ·rcases HROW.out with h | h
      ·exact .inl h.symm
      ·exact .inr ⟨g,rfl,h⟩
    case measure=>
     have:=HS.out
     simp [intOf]
     split <;> omega
  ·have hdm':d=m:=by omega
   subst hdm';rw [Nat.mod_eq_of_lt HXM.out] at hur;have HF:Hid _:=(⟨hRr,hur,honly,hrow⟩:_/\_/\_/\_);clear hRr hur honly hrow;go_wp2;go_ret;have F:=HF.out;exact ⟨rfl,u,F.1,F.2.1,F.2.2.1,F.2.2.2⟩
theorem OwnV.blk {w:World} {B:Nat} {v:Value} {zs:List Int} (h:OwnV w B v zs) {k:Nat} (hk:v.ownBlock=some k):B<=k:=by
 rcases h.1.2 with ⟨rfl,h0⟩ | ⟨g,cap,cur,rfl,hg,_⟩
 ·simp [Value.ownBlock] at hk
 ·simp [Value.ownBlock] at hk
  omega
def WI (w:World) (B R n V:Nat):Prop:=∃ v,w.heap[R]?=some (.cells #[v,.int .i64 n,.int .i64 4096] 154 (0,0))/\OwnV w B v (enc n V)/\V<2 ^ n/\B<=R/\B<=w.heap.size
def SI (w:World) (B R n V:Nat):Prop:=∃ v,w.heap[R]?=some (.cells #[v,.int .i64 n] 106 (0,0))/\OwnV w B v (enc n V)/\V<2 ^ n/\B<=R/\B<=w.heap.size
theorem SI.put {w:World} {B R n V:Nat} (h:SI w B R n V) (x width:Int) (hx:0<=x) (h1:0<=width) (h2:width<=30) (hxw:x<2 ^ width.toNat) (hn:n<=4096) :
  Calls Tryz.prog 92 #[.pointer (some ⟨R,0,none⟩),.int .i64 x,.int .i64 width] w fun e w'=>e=.returned (.tuple #[])/\SI w' B R (n+width.toNat) (V+x.toNat*2 ^ n)/\Below B w w':=by
 obtain ⟨v,hR,hv,hV,hBR,hB⟩:=h;have e:((2:Int) ^ width.toNat)=((2 ^ width.toNat:Nat):Int):=by simp
 rw [e] at hxw;have hp:2 ^ width.toNat<=2 ^ 30:=Nat.pow_le_pow_right (by omega) (by omega)
 refine (z20 R B v n V x width w hR hv hV hB hx (by omega) h1 h2 (by omega)).mono ?_
 rintro e w' ⟨rfl,v',hR',hv',ho,_⟩;rw [Nat.mod_eq_of_lt (by omega)] at hv'
 have hb:Below B w w':=ho.below hB (fun k hk=>by
  rcases hk with hk | hk
  ·omega
  ·exact hv.blk hk)
 exact ⟨rfl,⟨v',hR',hv',z0x n V width.toNat x.toNat hV (by omega),hBR,Nat.le_trans hB hb.size⟩,hb⟩
theorem zmu :enc 0 0=[]:=by
 have:=z0a 0 0;exact List.eq_nil_of_length_eq_zero (by simpa using this)
theorem SI.new (w:World) (B:Nat) (hB:B<=w.heap.size):SI (w.alloc (.cells #[.slice none 0 0,.int .i64 0] 106)) B w.heap.size 0 0:=by
 refine ⟨.slice none 0 0,by simpa using heap_alloc_new w (.cells #[.slice none 0 0,.int .i64 0] 106),?_,by simp,hB,by simp;omega⟩
 rw [zmu];exact ⟨⟨rfl,.inl ⟨rfl,rfl⟩⟩,by simp⟩
theorem zpn (V0 V x n0 N:Nat):V0+V*2 ^ n0+x*2 ^ (n0+N)=V0+(V+x*2 ^ N)*2 ^ n0:=by
 rw [Nat.add_mul,Nat.add_assoc,Nat.mul_assoc,<-Nat.pow_add,Nat.add_comm N n0]
theorem OwnV.neP {w:World} {B k R:Nat} {v:Value} {zs:List Int} {cur:Array Value} {T:TypeId} (h:OwnV w B v zs) (hk:v.ownBlock=some k) (hR:w.heap[R]?=some (.cells cur T (0,0))) (hT:T≠5):k≠R:=by
 rcases h.1.2 with ⟨rfl,h2⟩ | ⟨g,cap,cur',rfl,hg,hh,r⟩
 ·simp [Value.ownBlock] at hk
 ·simp [Value.ownBlock] at hk
  subst hk;rintro rfl;rw [hR] at hh
  simp at hh
  exact hT hh.2
theorem OwnV.stayP {w w':World} {B:Nat} {v:Value} {zs:List Int} (h:OwnV w B v zs) (hb:Below w.heap.size w w'):OwnV w' B v zs:=by
 rcases h.1.2 with ⟨h1,h2⟩ | ⟨g,cap,cur,rfl,hg,hh,r⟩
 ·exact ⟨⟨h.1.1,.inl ⟨h1,h2⟩⟩,h.2⟩
 ·exact ⟨⟨h.1.1,.inr ⟨g,cap,cur,rfl,hg,(hb.block g (Array.getElem?_eq_some_iff.1 hh).1).trans hh,r⟩⟩,h.2⟩
theorem SI.stay {w w':World} {B R n V:Nat} (h:SI w B R n V) (hb:Below w.heap.size w w'):SI w' B R n V:=by
 obtain ⟨v,h1,h2,h3,h4,h5⟩:=h;exact ⟨v,(hb.block R (Array.getElem?_eq_some_iff.1 h1).1).trans h1,h2.stayP hb,h3,h4,Nat.le_trans h5 hb.size⟩
theorem OwI.blockG {w w':World} {B g cap:Nat} {zs:List Int} (h:OwI w B g cap zs):∃ cur,w.heap[g]?=some (.cells cur 3 (0,0))/\(w'.heap[g]?=some (.cells cur 3 (0,0))->OwI w' B g cap zs):=by
 rcases h.1.2 with ⟨h',_⟩ | ⟨g',cap',cur,h',hg,hh,r⟩
 ·simp at h'
 ·have e:g'=g:=by simp at h';exact h'.1.symm
  subst e;exact ⟨cur,hh,fun hk=>⟨⟨h.1.1,.inr ⟨g',cap',cur,h',hg,hk,r⟩⟩,h.2⟩⟩
def OVI (w:World) (B:Nat) (v:Value) (zs:List Int):Prop:=w.ownsRow B 3 1 v zs.length (zs.map (Value.int .i64))/\∀ z ∈ zs,-9223372036854775808<=z/\z<=9223372036854775807
theorem OVI.nil (w:World) (B:Nat):OVI w B (.slice none 0 0) []:=⟨⟨rfl,.inl ⟨rfl,rfl⟩⟩,by simp⟩
theorem OVI.form {w:World} {B:Nat} {v:Value} {zs:List Int} (h:OVI w B v zs):∃ (a:Option Addr) (c:Nat),v=.slice a zs.length c:=by
 rcases h.1.2 with ⟨rfl,h0⟩ | ⟨g,cap,cur,rfl,_⟩
 ·exact ⟨none,0,by rw [h0]⟩
 ·exact ⟨_,_,rfl⟩
theorem OVI.blk {w:World} {B:Nat} {v:Value} {zs:List Int} (h:OVI w B v zs) {k:Nat} (hk:v.ownBlock=some k):B<=k:=by
 rcases h.1.2 with ⟨rfl,h0⟩ | ⟨g,cap,cur,rfl,hg,_⟩
 ·simp [Value.ownBlock] at hk
 ·simp [Value.ownBlock] at hk
  omega
theorem OVI.mine {w:World} {B:Nat} {v:Value} {zs:List Int} (h:OVI w B v zs):∃ (a:Option Addr) (cp:Nat),v=.slice a zs.length cp/\MinI w B w.heap.size a cp zs:=by
 rcases h.1.2 with ⟨rfl,h0⟩ | ⟨g,cap,cur,rfl,hg,hh,r⟩
 ·exact ⟨none,0,by rw [h0],.inl ⟨rfl,List.eq_nil_of_length_eq_zero h0,rfl⟩⟩
 ·exact ⟨some ⟨g,0,none⟩,cap,rfl,OwI.mine (cap:=cap) h⟩
theorem OVI.app {w1:World} {B g cap n:Nat} {zs:List Int} {x:Int} (hl:zs.length=n) (hr:∀ z ∈ zs,-9223372036854775808<=z/\z<=9223372036854775807) (hx:-9223372036854775808<=x/\x<=9223372036854775807)
  (hown:w1.ownsRow B 3 1 (.slice (some ⟨g,0,none⟩) (n+1) cap) (n+1) (zs.map (Value.int .i64)++[.int .i64 x])):OVI w1 B (.slice (some ⟨g,0,none⟩) (n+1) cap) (zs++[x]):=by
 refine ⟨?_,?_⟩
 ·have e:(zs++[x]).length=n+1:=by simp [hl]
  rw [e]
  simpa using hown
 ·intro z hz
  simp only [List.mem_append,List.mem_singleton] at hz
  rcases hz with hz | rfl
  ·exact hr z hz
  ·exact hx
theorem z26 {w0 wr w1:World} {B:Nat} {o:Obj} {v:Value} {zs:List Int} (hbel:Below B w0 wr) (hB:B<=wr.heap.size) (h:OVI wr B v zs) (hg:(wr.alloc o).grownBy w1 v.ownBlock):Below B w0 w1:=
 (hbel.alloc hB o).grown hg (by simp;omega) (fun k hk=>h.blk hk)
theorem OVI.only {S:Nat->Prop} {w w':World} {B:Nat} {v:Value} {zs:List Int} (h:OVI w B v zs) (ho:Only S w w') (hs:∀ k,B<=k->¬S k):OVI w' B v zs:=by
 refine ⟨⟨h.1.1,?_⟩,h.2⟩;rcases h.1.2 with h' | ⟨g,cap,cur,h',hg,hh,r⟩
 ·exact .inl h'
 ·exact .inr ⟨g,cap,cur,h',hg,(ho.block g (Array.getElem?_eq_some_iff.1 hh).1 (hs g hg)).trans hh,r⟩
def atL (zs:List Int) (L i:Nat):List Int:=((List.range i).filter (fun s=>decide (zs.getD s 0=(L:Int)))).map (fun s=>((s:Nat):Int))
def sbL (zs:List Int):Nat->List Int
 | 0=>[]
 | l+1=>sbL zs l++atL zs (l+1) zs.length
theorem z3c (zs:List Int) (L:Nat):atL zs L 0=[]:=by simp [atL]
theorem z24 (zs:List Int) (L i:Nat) (h:zs.getD i 0=(L:Int)):atL zs L (i+1)=atL zs L i++[(i:Int)]:=by
 unfold atL;rw [List.range_succ,List.filter_append,List.map_append]
 congr 1
 rw [List.filter_cons_of_pos (by simpa using h)]
 simp
theorem z4h (zs:List Int) (L i:Nat) (h:¬zs.getD i 0=(L:Int)):atL zs L (i+1)=atL zs L i:=by
 unfold atL;rw [List.range_succ,List.filter_append,List.map_append];rw [List.filter_cons_of_neg (by simpa using h)]
 simp
theorem z75 (zs:List Int) (L i:Nat):(atL zs L i).length<=i:=by
 unfold atL;rw [List.length_map];have:=List.length_filter_le (fun s=>decide (zs.getD s 0=(L:Int))) (List.range i)
 simpa using this
theorem z37 (zs:List Int) (l:Nat):(sbL zs l).length<=l*zs.length:=by
 induction l with
 | zero=>simp [sbL]
 | succ l ih=>
  have:=z75 zs (l+1) zs.length
  simp only [sbL,List.length_append,Nat.add_mul]
  omega
theorem zao (zs:List Int) (L i:Nat):∀ z ∈ atL zs L i,∃ s:Nat,z=s/\s<i/\zs.getD s 0=(L:Int):=by
 intro z hz
 simp only [atL,List.mem_map,List.mem_filter,List.mem_range,decide_eq_true_eq] at hz
 obtain ⟨s,⟨h1,h2⟩,rfl⟩:=hz;exact ⟨s,rfl,h1,h2⟩
theorem zak (zs:List Int) (l:Nat):∀ z ∈ sbL zs l,∃ s:Nat,z=s/\s<zs.length/\1<=zs.getD s 0/\zs.getD s 0<=(l:Int):=by
 induction l with
 | zero=>simp [sbL]
 | succ l ih=>
  intro z hz
  simp only [sbL,List.mem_append] at hz
  rcases hz with hz | hz
  ·obtain ⟨s,h1,h2,h3,h4⟩:=ih z hz
   exact ⟨s,h1,h2,h3,by omega⟩
  ·obtain ⟨s,h1,h2,h3⟩:=zao _ _ _ z hz
   exact ⟨s,h1,h2,by omega,by omega⟩
theorem zm1 (a:Option Addr) (cap:Nat) (zs:List Int) (w:World) (hb:Ins w a zs) (hn:zs.length<=80) :
  Calls Tryz.prog 203 #[.slice a zs.length cap] w fun e w'=>
   ∃ a' cp,e=.returned (.slice a' (sbL zs 12).length cp)/\MinI w' w.heap.size w'.heap.size a' cp (sbL zs 12)/\Below w.heap.size w w':=by
 obtain ⟨i0,hi,hz0,hz1,hz2⟩:=info_parts Tryz.infoI64;have HSB:Hid (∀ l,sbL zs (l+1)=sbL zs l++atL zs (l+1) zs.length):=fun _=>rfl
 have HSL:Hid _:=z37 zs;have HAY:Hid _:=z24 zs;have HAN:Hid _:=z4h zs;have HAZ:Hid _:=z3c zs;have HAL:Hid _:=z75 zs;generalize hlen:zs.length=n at *;have HL:Hid (zs.length=n):=hlen;clear hlen
 go_enter Tryz.func203,Tryz.ntmps203
 go_wp2
 go_loopw [3,4] (fun o l wr=>∃ (M:Nat) (y:Int),y=M/\1<=M/\M<=13/\l=.int .i64 y/\OVI wr w.heap.size o (sbL zs (M-1))/\Below w.heap.size w wr) (fun _ l _=>13-(intOf l).toNat)
 case atStart=>exact ⟨1,1,rfl,by omega,by omega,rfl,OVI.nil _ _,Below.refl _ _⟩
 case round=>
  obtain ⟨M,y,hy,hM1,hM,rfl,hov,hbel⟩:=hrel;obtain ⟨ao,co,rfl⟩:=hov.form;have hsl:=HSL.out (M-1);have hlb:(M-1)*n<=12*80:=Nat.mul_le_mul (by omega) hn
  have hm:(sbL zs (M-1)).length<=960:=by omega
  have HOV:Hid (OVI wr w.heap.size (.slice ao (sbL zs (M-1)).length co) (sbL zs (M-1))):=hov;clear hov hsl hlb;have HMY:Hid (y=(M:Int)):=hy;have HM1:Hid (1<=M/\M<=13):=⟨hM1,hM⟩;have hy1:1<=y/\y<=13:=by omega
  clear hy hM1 hM
  by_cases hL12:y<=12
  ·have HB0:Hid (Bw w wr):=hbel
   have HMS:Hid (sbL zs (M+1-1)=sbL zs (M-1)++atL zs M n):=by
    obtain ⟨l,rfl⟩:∃ l,M=l+1:=⟨M-1,by have:=HM1.out;omega⟩
    exact HSB.out l
   clear hbel;generalize sbL zs (M-1)=q0 at *;generalize hm0:q0.length=m0 at *;have HM0:Hid (q0.length=m0):=hm0;clear hm0;go_wp2
   go_loopw [3,13] (fun o i wi=>∃ k:Nat,k<=n/\i=.int .i64 k/\OVI wi w.heap.size o (q0++atL zs M k)/\Below w.heap.size w wi) (fun _ i _=>n-(intOf i).toNat)
   case atStart=>exact ⟨0,Nat.zero_le _,rfl,by rw [HAZ.out,List.append_nil];exact HOV.out,HB0.out⟩
   case round=>
    clear HOV HB0;obtain ⟨k,hk,rfl,hov,hbel⟩:=hrel
    by_cases hlt:k<n
    ·obtain ⟨b1,o1,rfl,hb1,hc1⟩:=(hb.below hbel nl).len_pos k (by rw [HL.out];exact hlt)
     have hs1:=hc1 k (by rw [HL.out];exact hlt)
     have g1:=z3q hb.1 k;have hal:=HAL.out M k;have HY:=HAY.out M k;have HN:=HAN.out M k;obtain ⟨au,cu,rfl⟩:=hov.form;have hsz:=hbel.size;clear hc1;generalize zs.getD k 0=x at *;have hlen2:(q0++atL zs M k).length<=2000:=by rw [List.length_append,HM0.out];omega
     clear hal;generalize hq:q0++atL zs M k=q at *
     by_cases hx:x=y
     ·have HE:Hid (q++[(k:Int)]=q0++atL zs M (k+1)):=by unfold Hid;rw [HY (hx.trans HMY.out),<-List.append_assoc,hq]
      have HQR:Hid (∀ z ∈ q,-9223372036854775808<=z/\z<=9223372036854775807):=hov.2;have hu:=hov.1;have HOV:Hid (OVI wr w.heap.size (.slice au q.length cu) q):=hov;clear HY HN hq hov;subst hx;generalize hql:q.length=m at *;have HQL:Hid (q.length=m):=hql;clear hql;go_wp2_with (at_builtin;(refine wpList_append_lies _ rfl (.tmp 21) (.tmp 23) 57 rfl w.heap.size 3 i0 (.int .i64 0) 1 8 Tryz.underlying57 hi hz0 hz1 hz2 rfl (by decide) (.slice au m cu) m (q.map (Value.int .i64)) rfl (hu.alloc _) ⟨wr.heap.size,0,none⟩ 1 1 [.int .i64 (k:Nat)] rfl rfl (by intro j y hj;match j,hj with | 0,hj=>(simp at hj;subst hj;simp [Addr.add])) (by intro y hy;simp at hy;subst hy;rfl) (by omega) (by unfold maxLen;omega) (by omega) (by simp;omega) _ rfl ?_);intro g cap1 w1 hown hgrow hat hlt1)
      have HOV2:Hid (OVI w1 w.heap.size (.slice (some ⟨g,0,none⟩) (m+1) cap1) (q++[(k:Int)])):=OVI.app HQL.out HQR.out (by omega) hown
      have HB2:Hid (Bw w w1):=z26 hbel hsz HOV.out hgrow;clear hown hgrow hat hlt1 HOV hu hbel;go_roundw
      case rel=>exact ⟨k+1,by omega,by go_num,by rw [<-HE.out];exact HOV2.out,HB2.out⟩
      case measure=>simp [intOf];omega
     ·have HE:Hid (q=q0++atL zs M (k+1)):=by unfold Hid;rw [HN (fun h=>hx (h.trans HMY.out.symm)),hq]
      have hxx:(x == y)=false:=by simpa using hx
      have HOV:Hid _:=hov;clear HY HN hq hov hx;go_wp2;go_roundw
      case rel=>exact ⟨k+1,by omega,by go_num,by rw [<-HE.out];exact HOV.out,hbel⟩
      case measure=>simp [intOf];omega
    ·have hkn:k=n:=by omega
     subst hkn;obtain ⟨au,cu,rfl⟩:=hov.form;have HOV:Hid _:=hov;clear hov;go_wp2;go_roundw
     case rel=>exact ⟨M+1,y+1,by have:=HMY.out;omega,by omega,by have:=HMY.out;omega,by go_num,by rw [HMS.out];exact HOV.out,hbel⟩
     case measure=>simp [intOf];omega
  ·have hLe:M=13:=by have:=HMY.out;have:=HM1.out;omega
   subst hLe;have HOV2:Hid (OVI wr w.heap.size (.slice ao (sbL zs (13-1)).length co) (sbL zs 12)):=HOV.out;clear HOV;go_wp2;go_ret;obtain ⟨a',cp,he,hmm⟩:=HOV2.out.mine;exact ⟨a',cp,congrArg Ending.returned he,hmm,hbel⟩
def zN (zs:List Int) (s:Int):Nat:=(zs.getD s.toNat 0).toNat
def cst (zs:List Int) (st:Nat × Nat × List Int) (s:Int):Nat × Nat × List Int:=
 (st.1*2 ^ (zN zs s-st.2.1)+1,zN zs s,st.2.2.set s.toNat ((st.1*2 ^ (zN zs s-st.2.1):Nat):Int))
def zh (zs l:List Int):Nat × Nat × List Int:=l.foldl (cst zs) (0,0,List.replicate zs.length 0)
theorem z5d (zs:List Int):zh zs []=(0,0,List.replicate zs.length 0):=rfl
theorem z3n (zs l:List Int) (s:Int):zh zs (l++[s])=cst zs (zh zs l) s:=by simp [zh,List.foldl_append]
theorem z5g (zs l:List Int):(zh zs l).2.2.length=zs.length:=by
 have:∀ (l:List Int) (st:Nat × Nat × List Int),(l.foldl (cst zs) st).2.2.length=st.2.2.length:=by
  intro l
  induction l with
  | nil=>intro st;rfl
  | cons s l ih=>intro st;rw [List.foldl_cons,ih];simp [cst]
 unfold zh;rw [this]
 simp
def asc (zs l:List Int):Prop:=l.Pairwise (fun a b=>zN zs a<=zN zs b)
theorem zcp (zs:List Int) (m:Nat) (l:List Int) (h:∀ a ∈ l,zN zs a=m):asc zs l:=by
 unfold asc
 induction l with
 | nil=>exact List.Pairwise.nil
 | cons a l ih=>
  refine List.Pairwise.cons (fun b hb=>?_) (ih (fun x hx=>h x (by simp [hx])))
  rw [h a (by simp),h b (by simp [hb])]
  exact Nat.le_refl _
theorem z6u (zs:List Int) (L i:Nat):∀ a ∈ atL zs L i,zN zs a=L:=by
 intro a ha
 obtain ⟨s,rfl,_,h⟩:=zao zs L i a ha;unfold zN;rw [Int.toNat_natCast,h]
 simp
theorem z51 (zs:List Int) (l:Nat):∀ a ∈ sbL zs l,zN zs a<=l:=by
 intro a ha
 obtain ⟨s,rfl,_,h1,h2⟩:=zak zs l a ha;unfold zN;rw [Int.toNat_natCast]
 omega
theorem zii (zs:List Int) (l:Nat):asc zs (sbL zs l):=by
 induction l with
 | zero=>exact List.Pairwise.nil
 | succ l ih=>
  simp only [sbL]
  refine List.pairwise_append.2 ⟨ih,zcp zs (l+1) _ (z6u zs (l+1) _),fun a ha b hb=>?_⟩
  rw [z6u zs (l+1) _ b hb];have:=z51 zs l a ha
  omega
theorem zlc (zs:List Int) (l i:Nat):asc zs (sbL zs l++atL zs (l+1) i):=by
 refine List.pairwise_append.2 ⟨zii zs l,zcp zs (l+1) _ (z6u zs (l+1) _),fun a ha b hb=>?_⟩
 rw [z6u zs (l+1) _ b hb];have:=z51 zs l a ha
 omega
theorem z3o (l:List Int) (t:Nat) (h:t<l.length):l.take (t+1)=l.take t++[l.getD t 0]:=by
 rw [List.take_succ_eq_append_getElem h]
 simp [List.getD_eq_getElem?_getD,List.getElem?_eq_getElem h]
theorem zai (nx ln z t:Nat) (hl:ln<=z) (h:nx<=t*2 ^ ln):nx*2 ^ (z-ln)<=t*2 ^ z/\nx*2 ^ (z-ln)+1<=(t+1)*2 ^ z:=by
 have h1:nx*2 ^ (z-ln)<=t*2 ^ ln*2 ^ (z-ln):=Nat.mul_le_mul_right _ h;rw [Nat.mul_assoc,<-Nat.pow_add,show ln+(z-ln)=z from by omega] at h1
 have h2:0<2 ^ z:=Nat.pow_pos (by omega)
 rw [Nat.add_mul]
 omega
theorem zeh (zs l:List Int) (h:asc zs l) (t:Nat) (ht:t<=l.length):(zh zs (l.take t)).1<=t*2 ^ (zh zs (l.take t)).2.1/\(t<l.length->(zh zs (l.take t)).2.1<=zN zs (l.getD t 0)):=by
 induction t with
 | zero=>simp [z5d]
 | succ t ih=>
  obtain ⟨i1,i2⟩:=ih (by omega)
  rw [z3o l t (by omega),z3n]
  simp only [cst]
  refine ⟨(zai _ _ _ t (i2 (by omega)) i1).2,fun ht2=>?_⟩
  have hp:=List.pairwise_iff_getElem.1 h t (t+1) (by omega) ht2 (by omega)
  simpa [List.getD_eq_getElem?_getD,List.getElem?_eq_getElem (show t<l.length by omega),List.getElem?_eq_getElem ht2] using hp
theorem zof (zs l:List Int) (h:asc zs l):(zh zs l).1<=l.length*2 ^ (zh zs l).2.1:=by
 have:=(zeh zs l h l.length nl).1;rw [List.take_length] at this;exact this
theorem zgk (zs l:List Int) (m:Nat) (h:∀ a ∈ l,zN zs a<=m):(zh zs l).2.1<=m:=by
 by_cases h0:l=[]
 ·subst h0;simp [z5d]
 ·have hl:0<l.length:=List.length_pos_iff.2 h0
  have e:l=l.take (l.length-1)++[l.getD (l.length-1) 0]:=by
   rw [<-z3o l (l.length-1) (by omega),show l.length-1+1=l.length from by omega,List.take_length]
  rw [e,z3n]
  simp only [cst]
  exact h _ (zp (by omega))
theorem zrg (c L:Nat) (h:L<=12):rvp (c % 65536) 16 16 / 2 ^ (16-L)=rvp c L L:=by
 rw [zk8 _ L (by omega),show 65536=2 ^ 16 from rfl,zp8 c L 16 (by omega)]
def hN (ls ts:List Int):Nat->Nat
 | 0=>0
 | k+1=>hN ls ts k+zN ls (ts.getD k 0)
def hV (ls cs ts:List Int):Nat->Nat
 | 0=>0
 | k+1=>hV ls cs ts k+rvp (cs.getD (ts.getD k 0).toNat 0).toNat (zN ls (ts.getD k 0)) (zN ls (ts.getD k 0))*2 ^ hN ls ts k
theorem zn3 {ls ts:List Int} (h:∀ z ∈ ls,0<=z/\z<=12) (k:Nat):hN ls ts k<=12*k:=by
 induction k with
 | zero=>simp [hN]
 | succ k ih=>
  have h1:zN ls (ts.getD k 0)<=12:=by
   unfold zN
   by_cases hi:(ts.getD k 0).toNat<ls.length
   ·have:=h _ (zp hi);omega
   ·rw [List.getD_eq_getElem?_getD,List.getElem?_eq_none (by omega)];simp
  simp only [hN]
  omega
def cv (zs l:List Int) (L:Nat):Nat:=(zh zs l).1*2 ^ (L-(zh zs l).2.1)
theorem zay (zs l:List Int) (L:Nat) (h:(zh zs l).2.1<=L):cv zs l (L+1)=cv zs l L*2:=by
 unfold cv;rw [show L+1-(zh zs l).2.1=(L-(zh zs l).2.1)+1 from by omega,Nat.pow_succ,Nat.mul_assoc]
theorem z9v (zs l:List Int) (s:Int) (L:Nat) (h:zN zs s=L):cv zs (l++[s]) L=cv zs l L+1/\(zh zs (l++[s])).2.2=(zh zs l).2.2.set s.toNat (cv zs l L:Nat):=by
 unfold cv;rw [z3n]
 simp only [cst,h]
 simp
theorem zll (zs l:List Int) (L:Nat) (h:asc zs l) (hl:(zh zs l).2.1<=L) (hL:L<=12) (hn:l.length<=2000):cv zs l L<=8192000:=by
 have h1:=(zai _ _ L l.length hl (zof zs l h)).1;have h2:2 ^ L<=2 ^ 12:=Nat.pow_le_pow_right (by omega) hL
 have h3:l.length*2 ^ L<=2000*2 ^ 12:=Nat.mul_le_mul hn h2;unfold cv;exact Nat.le_trans h1 (Nat.le_trans h3 (by decide))
theorem zi0 (zs:List Int):cv zs [] 0=0:=by simp [cv,z5d]
structure At (zs:List Int) (M k c:Nat) (out:List Int):Prop where
 c:cv zs (sbL zs (M-1)++atL zs M k) M=c
 out:(zh zs (sbL zs (M-1)++atL zs M k)).2.2=out
theorem zmd {zs:List Int} {M k c:Nat} {out:List Int} (h:At zs M k c out) (hM:1<=M) (hM2:M<=12) (hn:zs.length<=80) (hk:k<=zs.length):c<=8192000/\out.length=zs.length:=by
 obtain ⟨l,rfl⟩:∃ l,M=l+1:=⟨M-1,by omega⟩
 have hs:=z37 zs l;have ha:=z75 zs (l+1) k;have hm:l*zs.length<=11*80:=Nat.mul_le_mul (by omega) hn
 refine ⟨?_,by rw [<-h.out];exact z5g zs _⟩
 rw [<-h.c];refine zll zs _ _ (zlc zs l k) (zgk zs _ _ (fun a ha=>?_)) hM2 (by rw [List.length_append];simp;omega)
 rcases List.mem_append.1 ha with h1 | h1
 ·have:=z51 zs l a h1;omega
 ·have:=z6u zs (l+1) k a h1;omega
theorem zpt {zs:List Int} {M k c:Nat} {out:List Int} (h:At zs M k c out) (hz:zs.getD k 0=(M:Int)):At zs M (k+1) (c+1) (out.set k ((c:Nat):Int)):=by
 have e:sbL zs (M-1)++atL zs M (k+1)=(sbL zs (M-1)++atL zs M k)++[(k:Int)]:=by rw [z24 zs M k hz,List.append_assoc]
 have hzn:zN zs (k:Int)=M:=by unfold zN;rw [Int.toNat_natCast,hz];simp
 obtain ⟨s1,s2⟩:=z9v zs (sbL zs (M-1)++atL zs M k) (k:Int) M hzn;refine ⟨by rw [e,s1,h.c],?_⟩
 rw [e,s2,h.c,h.out]
 simp
theorem zqy {zs:List Int} {M k c:Nat} {out:List Int} (h:At zs M k c out) (hz:¬zs.getD k 0=(M:Int)):At zs M (k+1) c out:=by
 refine ⟨?_,?_⟩
 ·rw [z4h zs M k hz];exact h.c
 ·rw [z4h zs M k hz];exact h.out
theorem zmp (zs:List Int):cv zs (sbL zs 0) 0=0/\(zh zs (sbL zs 0)).2.2=List.replicate zs.length 0:=⟨zi0 zs,rfl⟩
theorem zl4 {zs:List Int} {M c:Nat} {out:List Int} (hM:1<=M) (hc:cv zs (sbL zs (M-1)) (M-1)=c) (ho:(zh zs (sbL zs (M-1))).2.2=out):At zs M 0 (c*2) out:=by
 obtain ⟨l,rfl⟩:∃ l,M=l+1:=⟨M-1,by omega⟩
 simp only [Nat.add_sub_cancel] at hc ho
 refine ⟨?_,?_⟩
 ·rw [z3c,List.append_nil,Nat.add_sub_cancel,zay zs _ l (zgk zs _ _ (z51 zs l)),hc]
 ·rw [z3c,List.append_nil,Nat.add_sub_cancel];exact ho
theorem zq6 {zs:List Int} {M c:Nat} {out:List Int} (hM:1<=M) (h:At zs M zs.length c out):cv zs (sbL zs M) M=c/\(zh zs (sbL zs M)).2.2=out:=by
 obtain ⟨l,rfl⟩:∃ l,M=l+1:=⟨M-1,by omega⟩
 have e:sbL zs (l+1)=sbL zs (l+1-1)++atL zs (l+1) zs.length:=rfl;rw [e];exact ⟨h.c,h.out⟩
def SJ (w:World) (X U n V:Nat):Prop:=∃ v,w.heap[X]?=some (.cells #[v,.int .i64 n] 106 (0,0))/\OwnV w U v (enc n V)/\V<2 ^ n/\U<=w.heap.size
theorem zjd (ls:List Int) (hl:ls.length<=80):∀ z ∈ (zh ls (sbL ls 12)).2.2,0<=z/\z<=8192000:=by
 have hsl:(sbL ls 12).length<=2000:=by have:=z37 ls 12;omega
 have key:∀ t,t<=(sbL ls 12).length->∀ z ∈ (zh ls ((sbL ls 12).take t)).2.2,0<=z/\z<=8192000:=by
  intro t
  induction t with
  | zero=>intro _ z hz;simp [z5d] at hz;omega
  | succ t ih=>
   intro ht z hz
   rw [z3o _ t (by omega),z3n] at hz
   simp only [cst] at hz
   rcases List.mem_or_eq_of_mem_set hz with hz | rfl
   ·exact ih (by omega) z hz
   ·obtain ⟨b1,b2⟩:=zeh ls (sbL ls 12) (zii ls 12) t (by omega)
    have b3:=(zai _ _ _ t (b2 (by omega)) b1).1
    have b4:=z51 ls 12 _ (zp (zs:=sbL ls 12) (k:=t) (by omega))
    have b5:2 ^ zN ls ((sbL ls 12).getD t 0)<=2 ^ 12:=Nat.pow_le_pow_right (by omega) b4
    have b6:t*2 ^ zN ls ((sbL ls 12).getD t 0)<=2000*2 ^ 12:=Nat.mul_le_mul (by omega) b5
    omega
 intro z hz
 exact key _ nl z (by rw [List.take_length];exact hz)
theorem zp3 (c k:Nat) (hc:c<=8192000):bits .and .i64 ((c:Int) / 2 ^ k) 1=((c / 2 ^ k % 2:Nat):Int):=by
 have e:((c:Int) / 2 ^ k)=((c / 2 ^ k:Nat):Int):=by simp
 have hle:c / 2 ^ k<=c:=Nat.div_le_self _ _;have h1:=z43 (c / 2 ^ k) 1 (by omega) (by omega)
 rw [show ((1:Nat):Int)=1 from rfl,nat_mask1] at h1
 rw [e,h1]
theorem zm9 (V c L j n:Nat):V+rvp c L j*2 ^ n+(c / 2 ^ (L-1-j) % 2)*2 ^ (n+j)=V+rvp c L (j+1)*2 ^ n:=by
 simp only [rvp]
 rw [Nat.add_mul,Nat.pow_add];have e:c / 2 ^ (L-1-j) % 2*(2 ^ n*2 ^ j)=c / 2 ^ (L-1-j) % 2*2 ^ j*2 ^ n:=by rw [Nat.mul_comm (2 ^ n),<-Nat.mul_assoc]
 omega
end Go.Proofs.YtjmcjbmjgpponaaGreatDoor
