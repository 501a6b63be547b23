import Derived.Test.YtjmcjbmjgpponaaGreatDoorHGet8
set_option maxRecDepth 20000
set_option maxHeartbeats 16000000
namespace Go.Proofs.YtjmcjbmjgpponaaGreatDoor
open Go.RowKit
set_option linter.unusedVariables false
theorem zb4 {zs:List Int} (h:zv zs=true):1<=zs.length/\zs.length<=80/\∀ z ∈ zs,0<=z/\z<=12:=by
 simp only [zv,decide_eq_true_eq] at h
 exact ⟨h.1,h.2.1,h.2.2.1⟩
theorem zlw (H R B B0:Nat) (ao:Option Addr) (co:Nat) (ls:List Int) (x:Option Addr) (cx:Nat) (zs:List Int) (n V p N:Nat) (w0 w:World) (hx:Byt w0 x zs) (hB:w0.heap.size=B) (hbel:Below B w0 w) (hz:zs=enc n V) (hn:n<=4096) (hp:p<=n) (hN:N<=300) (hn2:ls.length<=80)
  (hHR:HR w H R (hm ls (sbL ls 12)) ao (sbL ls 12).length co) (hMO:MinI w B0 H ao co (sbL ls 12)) (hRD:RD w B R x zs.length cx n p) (hRH:R<H) (hRB0:R<B0)
  (s0:Sent w0 10) (s1:Sent w0 17) (s2:Sent w0 25) (hG:10<w0.heap.size/\17<w0.heap.size/\25<w0.heap.size) :
  Calls Tryz.prog 193 #[.pointer (some ⟨H,0,none⟩),.int .i64 N] w fun e w'=>Only (fun k=>k=R) w w'/\Below B w0 w' /\
   ((∃ q E g, q.length = N /\ Reads ls (zh ls (sbL ls 12)).2.2 n V p q E /\ OwI w' w.heap.size g N q /\ RD w' B R x zs.length cx n E /\ e = .returned (.tuple #[.slice (some ⟨g, 0, none⟩) N N, .nilIface])) \/
    (∃ q E T y,q.length<N/\Reads ls (zh ls (sbL ls 12)).2.2 n V p q E/\z0y ls (zh ls (sbL ls 12)).2.2 V E (min 12 (n-E))/\e=.returned (.tuple #[.slice none 0 0,.iface T y]))):=by
 obtain ⟨i0,hi,hz0,hz1,hz2⟩:=info_parts Tryz.infoI64;have HPK:Hid (Byt w0 x zs/\w0.heap.size=B/\zs=enc n V/\Sent w0 10/\Sent w0 17/\Sent w0 25/\(10<w0.heap.size/\17<w0.heap.size/\25<w0.heap.size)):=⟨hx,hB,hz,s0,s1,s2,hG⟩;have HW:Hid (HR w H R (hm ls (sbL ls 12)) ao (sbL ls 12).length co/\MinI w B0 H ao co (sbL ls 12)/\RD w B R x zs.length cx n p/\Below B w0 w):=⟨hHR,hMO,hRD,hbel⟩;have hRlt:R<w.heap.size:=(Array.getElem?_eq_some_iff.1 hRD.1).1
 have hBR:=hRD.2.1;have hHw:H<w.heap.size:=hHR.lt;clear hx hB hz s0 s1 s2 hG hHR hMO hRD hbel
 go_enter Tryz.func193,Tryz.ntmps193
 go_wp2_with (at_make;refine wpList_make_full _ rfl _ _ 57 rfl w.heap.size 3 i0 (.int .i64 0) 1 Tryz.underlying57 hi hz0 hz1 .i64 .i64 _ _ N rfl rfl rfl rfl (by rw [hz2];omega) (by unfold maxLen;omega) nl ?_;intro w5 hown hgrow)
 have hbw:Below w.heap.size w w5:=(Below.refl _ _).grown hgrow nl (by intro k hk;cases hk)
 have H0:Hid (OwI w5 w.heap.size w.heap.size N ([]++List.replicate N 0)):=by
  rw [List.nil_append];refine ⟨?_,by intro z hz;simp at hz;omega⟩
  rw [z0n] at hown
  simpa using hown
 have HO5:Only (fun _=>False) w w5:=Only.ofBelow (S:=fun _=>False) hbw nl
 have HW5:Hid (HR w5 H R (hm ls (sbL ls 12)) ao (sbL ls 12).length co/\MinI w5 B0 H ao co (sbL ls 12)/\RD w5 B R x zs.length cx n p/\Below B w0 w5/\Only (fun k=>k=R) w w5):=
  ⟨HW.out.1.only HO5 (by simp),HW.out.2.1.only HO5 (by simp),HW.out.2.2.1.only HO5 (by simp),HW.out.2.2.2.trans (hbw.mono HW.out.2.2.1.2.2),Only.ofBelow hbw nl⟩
 clear HW HO5 hbw hown hgrow hi hz0 hz1 hz2;generalize hg4:w.heap.size=g at *;have HG4:Hid (w.heap.size=g/\True):=⟨hg4,trivial⟩;clear hg4
 go_loopw [14] (fun i wr=>∃ (k:Nat) (q:List Int) (P:Nat),k<=N/\q.length=k/\i=.int .i64 k/\Reads ls (zh ls (sbL ls 12)).2.2 n V p q P/\OwI wr g g N (q++List.replicate (N-k) 0)/\HR wr H R (hm ls (sbL ls 12)) ao (sbL ls 12).length co/\MinI wr B0 H ao co (sbL ls 12)/\RD wr B R x zs.length cx n P/\Below B w0 wr/\Only (fun k=>k=R) w wr) (fun i _=>N-(intOf i).toNat)
 case atStart=>exact ⟨0,[],p,Nat.zero_le _,rfl,rfl,.nil,H0.out,HW5.out.1,HW5.out.2.1,HW5.out.2.2.1,HW5.out.2.2.2.1,HW5.out.2.2.2.2⟩
 case round=>
  clear H0 HW5;obtain ⟨k,q,P,hk,hql,rfl,hrds,hown,hhr,hmo,hrd,hbel,honw⟩:=hrel;have HS:Hid (q.length=k/\Reads ls (zh ls (sbL ls 12)).2.2 n V p q P/\OwI wr g g N (q++List.replicate (N-k) 0)/\HR wr H R (hm ls (sbL ls 12)) ao (sbL ls 12).length co/\MinI wr B0 H ao co (sbL ls 12)/\RD wr B R x zs.length cx n P/\Below B w0 wr/\Only (fun k=>k=R) w wr/\P<=n):=⟨hql,hrds,hown,hhr,hmo,hrd,hbel,honw,hrds.le hp⟩
  have hgl:=hown.lt.2;clear hql hrds hown hhr hmo hrd hbel honw
  by_cases hlt:k<N
  ·have HSY:=zge H R B B0 ao co ls x cx zs n V P w0 wr HPK.out.1 HPK.out.2.1 HS.out.2.2.2.2.2.2.1 HPK.out.2.2.1 hn HS.out.2.2.2.2.2.2.2.2 hn2 HS.out.2.2.2.1 HS.out.2.2.2.2.1 HS.out.2.2.2.2.2.1 (by omega) (by omega) HPK.out.2.2.2.1 HPK.out.2.2.2.2.1 HPK.out.2.2.2.2.2.1 (by have h:=HPK.out.2.2.2.2.2.2;rw [HPK.out.2.1] at h;exact h)
   go_wp2_with fail
   refine HSY.mono ?_;clear HSY;rintro e w6 ⟨hon,⟨i,m,hone,rfl,hrd6⟩ | ⟨hno,T,y,u,rfl⟩⟩
   ·have hll:(q++List.replicate (N-k) 0).length=N:=by rw [List.length_append,List.length_replicate,HS.out.1];omega
    have hib:i<80:=by have:=hone.2.2.2.1;omega
    have ho6:OwI w6 g g N (q++List.replicate (N-k) 0):=HS.out.2.2.1.only hon (by omega)
    have hdst:=ho6.cell k (by rw [hll];exact hlt)
    have hfz:=ho6.frozen k;have hset:(q++List.replicate (N-k) (0:Int)).set k ((i:Nat):Int)=(q++[((i:Nat):Int)])++List.replicate (N-(k+1)) 0:=by
     rw [List.set_append_right _ _ (by rw [HS.out.1];exact Nat.le_refl _),HS.out.1,Nat.sub_self,show N-k=(N-(k+1))+1 from by omega,List.replicate_succ,List.set_cons_zero,List.append_assoc]
     rfl
    have hR7:=ho6.store k ((i:Nat):Int) (by omega)
    rw [hset] at hR7;have hon7:Only (fun b=>b=g) w6 (w6.setCell ⟨g,k,none⟩ (.int .i64 (i:Nat))):=Only.setCell (Only.refl (fun b=>b=g) w6) (p:=⟨g,k,none⟩) (.inl rfl) _
    have hBwr:B<=wr.heap.size:=HS.out.2.2.2.2.2.1.2.2;have hHg:H<wr.heap.size:=HS.out.2.2.2.1.lt;have HF:Hid ((q++[((i:Nat):Int)]).length=k+1/\Reads ls (zh ls (sbL ls 12)).2.2 n V p (q++[(i:Int)]) (P+m)/\OwI (w6.setCell ⟨g,k,none⟩ (.int .i64 (i:Nat))) g g N ((q++[((i:Nat):Int)])++List.replicate (N-(k+1)) 0)/\HR (w6.setCell ⟨g,k,none⟩ (.int .i64 (i:Nat))) H R (hm ls (sbL ls 12)) ao (sbL ls 12).length co/\MinI (w6.setCell ⟨g,k,none⟩ (.int .i64 (i:Nat))) B0 H ao co (sbL ls 12)/\RD (w6.setCell ⟨g,k,none⟩ (.int .i64 (i:Nat))) B R x zs.length cx n (P+m)/\Below B w0 (w6.setCell ⟨g,k,none⟩ (.int .i64 (i:Nat)))/\Only (fun k=>k=R) w (w6.setCell ⟨g,k,none⟩ (.int .i64 (i:Nat)))):=by
     refine ⟨by rw [List.length_append,HS.out.1];rfl,.snoc HS.out.2.1 hone,hR7,?_,?_,hrd6.only hon7 (by omega),?_,?_⟩
     ·exact (HS.out.2.2.2.1.only hon (by omega)).only hon7 (by omega)
     ·exact (HS.out.2.2.2.2.1.only hon (fun j h1 h2=>by omega)).only hon7 (fun j h1 h2=>by omega)
     ·exact (HS.out.2.2.2.2.2.2.1.trans (hon.below hBwr (fun j hj=>by omega))).setCell (p:=⟨g,k,none⟩) (by have:=HG4.out.1;simp;omega) _
     ·exact (HS.out.2.2.2.2.2.2.2.1.trans hon).setCell (.inr (by rw [HG4.out.1];exact Nat.le_refl _)) _
    clear hR7 hon7 hset hll hon hone hrd6 ho6 HS;generalize (q++List.replicate (N-k) 0).getD k 0=old at *;go_wp2;go_roundw
    case rel=>exact ⟨k+1,q++[((i:Nat):Int)],P+m,by omega,HF.out.1,by go_num,HF.out.2.1,HF.out.2.2.1,HF.out.2.2.2.1,HF.out.2.2.2.2.1,HF.out.2.2.2.2.2.1,HF.out.2.2.2.2.2.2.1,HF.out.2.2.2.2.2.2.2⟩
    case measure=>simp [intOf];omega
   ·have HF:Hid (Only (fun k=>k=R) w w6/\Below B w0 w6/\z0y ls (zh ls (sbL ls 12)).2.2 V P (min 12 (n-P))/\q.length<N/\Reads ls (zh ls (sbL ls 12)).2.2 n V p q P):=⟨HS.out.2.2.2.2.2.2.2.1.trans hon,HS.out.2.2.2.2.2.2.1.trans (hon.below HS.out.2.2.2.2.2.1.2.2 (fun j hj=>by omega)),hno,by rw [HS.out.1];exact hlt,HS.out.2.1⟩
    clear hno hon HS;go_wp2
    go_ret2
    exact ⟨HF.out.1,HF.out.2.1,.inr ⟨q,P,T,y,HF.out.2.2.2.1,HF.out.2.2.2.2,HF.out.2.2.1,rfl⟩⟩
  ·have hkn:k=N:=by omega
   subst hkn;have HFI:Hid (OwI wr w.heap.size g k q/\True):=by
    have:=HS.out.2.2.1;rw [Nat.sub_self] at this
    simp only [List.replicate_zero,List.append_nil] at this
    exact ⟨this.mono (by rw [HG4.out.1];exact Nat.le_refl _),trivial⟩
   go_wp2
   go_ret2
   exact ⟨HS.out.2.2.2.2.2.2.2.1,HS.out.2.2.2.2.2.2.1,.inl ⟨q,P,g,HS.out.1,HS.out.2.1,HFI.out.1,HS.out.2.2.2.2.2.1,rfl⟩⟩
theorem znv (R:Nat) (a:Option Addr) (cap:Nat) (zs:List Int) (n:Nat) (p width:Int) (w:World) (hn:n<=4104) (pb:p<=9223372036854775807)
  (c0:w.cell? ⟨R,0,none⟩=some (.slice a zs.length cap)) (c1:w.cell? ⟨R,1,none⟩=some (.int .i64 n)) (c2:w.cell? ⟨R,2,none⟩=some (.int .i64 p))
  (s0:Sent w 10) (s2:Sent w 17)
  (h:width<0\/30<width\/(n:Int)<p\/p<width) :
  Calls Tryz.prog 215 #[.pointer (some ⟨R,0,none⟩),.int .i64 width] w fun e w'=>(∃ T x,e=.returned (.tuple #[.int .i64 0,.iface T x]))/\∃ m,w'=w.drewN m:=by
 obtain ⟨T0,x0,g0⟩:=s0;obtain ⟨T2,x2,g2⟩:=s2;have key:(width<0\/30<width)\/(0<=width/\width<=30/\(n:Int)<p)\/(0<=width/\width<=30/\p<=(n:Int)/\p<width):=by omega
 clear h;rcases key with hh | ⟨k1,k2,k3⟩ | ⟨k1,k2,k3,k4⟩
 ·have hd:Hid (decide (0<=width/\width<=30)=false):=by simp [Hid];omega
  go_enter Tryz.func215,Tryz.ntmps215
  go_wp2_with fail
  refine (z08 width _).mono ?_;rintro e w1 ⟨rfl,rfl⟩;rw [hd.out];go_wp2_with fail
  go_quiet (fail)
  go_wp2
  go_ret2
  exact ⟨⟨_,_,rfl⟩,_,rfl⟩
 ·have hd:Hid (decide (0<=width/\width<=30)=true):=by simp [Hid];omega
  have hp:decide ((n:Int)<p)=true:=by simpa using k3
  go_enter Tryz.func215,Tryz.ntmps215
  go_wp2_with fail
  refine (z08 width _).mono ?_;rintro e w1 ⟨rfl,rfl⟩;rw [hd.out];go_wp2_with fail
  go_quiet (fail)
  go_wp2
  go_quiet (fail)
  go_wp2
  go_ret2
  exact ⟨⟨_,_,rfl⟩,_,World.drewN_drewN ..⟩
 ·have hd:Hid (decide (0<=width/\width<=30)=true):=by simp [Hid];omega
  have hp:decide ((n:Int)<p)=false:=by simpa using k3
  go_enter Tryz.func215,Tryz.ntmps215
  go_wp2_with fail
  refine (z08 width _).mono ?_;rintro e w1 ⟨rfl,rfl⟩;rw [hd.out];go_wp2_with fail
  go_quiet (fail)
  go_wp2
  go_quiet (fail)
  go_wp2
  go_ret2
  exact ⟨⟨_,_,rfl⟩,_,World.drewN_drewN ..⟩
theorem zmg (R:Nat) (a:Option Addr) (cap:Nat) (zs:List Int) (n v:Nat) (p width:Int) (w:World) (hn:n<=4104) (hb:∀ m x,Byt ((w.drewN m).setCell ⟨R,2,none⟩ x) a zs) (hz:zs=enc n v)
  (c0:w.cell? ⟨R,0,none⟩=some (.slice a zs.length cap)) (c1:w.cell? ⟨R,1,none⟩=some (.int .i64 n)) (c2:w.cell? ⟨R,2,none⟩=some (.int .i64 p)) (f2:w.frozen? ⟨R,2,none⟩=false)
  (k1:0<=width) (k2:width<=30) (k3:p<=(n:Int)) (k4:width<=p) :
  Calls Tryz.prog 215 #[.pointer (some ⟨R,0,none⟩),.int .i64 width] w fun e w'=>
   e=.returned (.tuple #[.int .i64 (v / 2 ^ (p-width).toNat % 2 ^ width.toNat:Nat),.nilIface])/\∃ m,w'=(w.drewN m).setCell ⟨R,2,none⟩ (.int .i64 (p-width)):=by
 have hd:Hid (decide (0<=width/\width<=30)=true):=by simp [Hid];omega
 have hp:decide ((n:Int)<p)=false:=by simpa using k3
 have HZ:Hid (zs=enc n v):=hz;clear hz
 go_enter Tryz.func215,Tryz.ntmps215
 go_wp2_with fail
 refine (z08 width _).mono ?_;rintro e w1 ⟨rfl,rfl⟩;rw [hd.out];go_wp2_with fail
 go_quiet (fail)
 go_wp2_with fail
 refine (z8s R a cap zs n p (p-width) width n v _ (hb _ _) HZ.out hn (by rw [World.cell?_setCell_other _ _ _ _ (by simp)];exact c0) (by omega) k1 k2 (by omega)).mono ?_
 rintro e w2 ⟨rfl,rfl⟩;go_wp2
 go_ret2
 exact ⟨rfl,_,rfl⟩
theorem RD.backY {w0 w:World} {B R:Nat} {a:Option Addr} {zs:List Int} {cap n p:Nat} (h:RD w B R a zs.length cap n p) (v:Nat) (width:Nat) (hn:n<=4104) (hb:Byt w0 a zs) (hB:w0.heap.size=B) (hbel:Below B w0 w) (hz:zs=enc n v) (k2:width<=30) (k3:p<=n) (k4:width<=p) :
  Calls Tryz.prog 215 #[.pointer (some ⟨R,0,none⟩),.int .i64 (width:Int)] w fun e w'=>
   e=.returned (.tuple #[.int .i64 (v / 2 ^ (p-width) % 2 ^ width:Nat),.nilIface])/\RD w' B R a zs.length cap n (p-width)/\Only (fun k=>k=R) w w'/\Below B w0 w':=by
 have hby:∀ m x,Byt ((w.drewN m).setCell ⟨R,2,none⟩ x) a zs:=fun m x=>hb.below ((show Below B w0 (w.drewN m) from ⟨hbel.os,hbel.tape,hbel.output,hbel.size,hbel.block⟩).setCell (p:=⟨R,2,none⟩) h.2.1 x) (by rw [hB];exact Nat.le_refl _)
 refine (zmg R a cap zs n v p width w hn hby hz (zd (j:=0) h.1 rfl) (zd (j:=1) h.1 rfl) (zd (j:=2) h.1 rfl) (h.frz 2) (by omega) (by omega) (by omega) (by omega)).mono ?_
 rintro e w' ⟨rfl,m,rfl⟩;have hR:(w.drewN m).heap[R]?=some (.cells #[.slice a zs.length cap,.int .i64 n,.int .i64 p] 188 (0,0)):=h.1;have hO:Only (fun k=>k=R) w ((w.drewN m).setCell ⟨R,2,none⟩ (.int .i64 ((p:Int)-width))):=by
  have h0:Only (fun k=>k=R) w (w.drewN m):=Only.ofBelow (S:=fun k=>k=R) (B:=w.heap.size) ⟨rfl,rfl,rfl,Nat.le_refl _,fun _ _=>rfl⟩ nl
  exact Only.setCell h0 (p:=⟨R,2,none⟩) (.inl rfl) _
 refine ⟨by rw [show ((p:Int)-(width:Int)).toNat=p-width from by omega,Int.toNat_natCast],⟨?_,h.2.1,Nat.le_trans h.2.2 hO.size⟩,hO,hbel.trans (hO.below h.2.2 (fun k hk=>by rw [hk];exact h.2.1))⟩
 rw [heap_setCell_same _ R 2 _ _ _ hR];have e:((p:Int)-(width:Int))=((p-width:Nat):Int):=by omega
 rw [e]
 simp
theorem RD.backN {w:World} {B R:Nat} {a:Option Addr} {zs:List Int} {cap n p:Nat} (h:RD w B R a zs.length cap n p) (width:Nat) (hn:n<=4104) (hp:p<=4104) (s0:Sent w 10) (s2:Sent w 17) (k4:p<width) :
  Calls Tryz.prog 215 #[.pointer (some ⟨R,0,none⟩),.int .i64 (width:Int)] w fun e w'=>(∃ T x,e=.returned (.tuple #[.int .i64 0,.iface T x]))/\∃ m,w'=w.drewN m:=
 znv R a cap zs n p width w hn (by omega) (zd (j:=0) h.1 rfl) (zd (j:=1) h.1 rfl) (zd (j:=2) h.1 rfl) s0 s2 (by omega)
theorem zal (R g B:Nat) (x:Option Addr) (cx:Nat) (zs:List Int) (N n:Nat) (w0 w:World) (hbel:Below B w0 w) (hN:N<6) (hRD:RD w B R x zs.length cx N N) (s0:Sent w0 10) (s1:Sent w0 17) (hG:10<B/\17<B) :
  Calls Tryz.prog 213 #[.pointer (some ⟨R,0,none⟩),.pointer (some ⟨g,0,none⟩),.int .i64 n] w fun e w'=>Only (fun k=>k=R) w w'/\∃ T' y,e=.returned (.tuple #[.slice none 0 0,.int .i64 0,.iface T' y]):=by
 have S0:Sent w 10:=s0.below hbel hG.1;have S1:Sent w 17:=s1.below hbel hG.2;have HB:=hRD.backN 6 (by omega) (by omega) S0 S1 hN
 go_enter Tryz.func213,Tryz.ntmps213
 go_wp2_with fail
 refine HB.mono ?_;clear HB;rintro e w1 ⟨⟨T',y,rfl⟩,m,rfl⟩;go_wp2;exact bodyPost_ret (v:=.tuple #[.slice none 0 0,.int .i64 0,.iface T' y]) (by simp [results,Tryz.results213,go_sem]) rfl ⟨(Only.refl _ _).drewN m,T',y,rfl⟩
theorem zbv (R g B:Nat) (x:Option Addr) (cx:Nat) (zs:List Int) (E N v n:Nat) (T:List Int) (L:Nat) (w0 w:World) (hx:Byt w0 x zs) (hB:w0.heap.size=B) (hbel:Below B w0 w) (hz:zs=enc N v) (hN:N<=4096) (hn:n<=300) (hNE:N=E+6) (hGd:Gd T L) (hL:L<=80) (hRD:RD w B R x zs.length cx N N) (hT:w.heap[g]?=some (.cells (cel T) 245 (0,0))) (hgR:g≠R) (s0:Sent w0 10) (s1:Sent w0 17) (hG:10<B/\17<B) :
  Calls Tryz.prog 213 #[.pointer (some ⟨R,0,none⟩),.pointer (some ⟨g,0,none⟩),.int .i64 n] w fun e w'=>Only (fun k=>k=R) w w' /\
   ((sg T v E n = none /\ ∃ T' y, e = .returned (.tuple #[.slice none 0 0, .int .i64 0, .iface T' y])) \/
    (∃ st en gq,sg T v E n=some (st,en)/\e=.returned (.tuple #[.slice (some ⟨gq,0,none⟩) n n,.int .i64 (st:Nat),.nilIface])/\OwI w' w.heap.size gq n (so T v E n)/\RD w' B R x zs.length cx N en)):=by
 obtain ⟨i0,hi,hz0,hz1,hz2⟩:=info_parts Tryz.infoI64;have HPK:Hid (zs=enc N v/\w0.heap.size=B/\N=E+6/\T.length=192):=⟨hz,hB,hNE,hGd.len⟩;have HTB:Hid (w.heap[g]?=some (.cells (cel T) 245 (0,0))/\g<w.heap.size):=⟨hT,(Array.getElem?_eq_some_iff.1 hT).1⟩;have HRL:Hid (R<w.heap.size/\B<=R):=⟨(Array.getElem?_eq_some_iff.1 hRD.1).1,hRD.2.1⟩;have HBK:=hRD.backY v 6 (by omega) hx hB hbel hz (by omega) nl (by omega)
 have HX:Hid (Byt w0 x zs):=hx;have HGD:Hid (Gd T L):=hGd;rw [show N-6=E from by omega,show 2 ^ 6=64 from rfl] at HBK
 have HSN:Hid (Sent w0 10/\Sent w0 17):=⟨s0,s1⟩;have hE:E<=4096:=by omega
 clear hz hB hNE hT hRD hx hGd s0 s1 hbel
 go_enter Tryz.func213,Tryz.ntmps213
 go_wp2_with fail
 refine HBK.mono ?_;clear HBK;rintro e w1 ⟨rfl,hrd1,hon1,hbel1⟩;have HR1:Hid (RD w1 B R x zs.length cx N E/\Only (fun k=>k=R) w w1/\Below B w0 w1):=⟨hrd1,hon1,hbel1⟩
 have hs1:=hon1.size;clear hrd1 hon1 hbel1;go_wp2_with (at_make;refine wpList_make_full _ rfl _ _ 57 rfl w1.heap.size 3 i0 (.int .i64 0) 1 Tryz.underlying57 hi hz0 hz1 .i64 .i64 _ _ n rfl rfl rfl rfl (by rw [hz2];omega) (by unfold maxLen;omega) nl ?_;intro w5 hown hgrow)
 have hbw:Below w1.heap.size w1 w5:=(Below.refl _ _).grown hgrow nl (by intro k hk;cases hk)
 have H0:Hid (OwI w5 w1.heap.size w1.heap.size n ([]++List.replicate n 0)):=by
  rw [List.nil_append];refine ⟨?_,by intro z hz;simp at hz;omega⟩
  rw [z0n] at hown
  simpa using hown
 have HR5:Hid (RD w5 B R x zs.length cx N E/\Only (fun k=>k=R) w w5/\Below B w0 w5):=
  ⟨HR1.out.1.only (Only.ofBelow (S:=fun _=>False) hbw nl) (by simp),HR1.out.2.1.trans (Only.ofBelow hbw nl),HR1.out.2.2.trans (hbw.mono HR1.out.1.2.2)⟩
 have HGQ:Hid (w.heap.size<=w1.heap.size):=hs1;clear HR1 hbw hown hgrow hs1 hi hz0 hz1 hz2;generalize w1.heap.size=gq at *
 go_loopw [9,28] (fun s i wr=>∃ (k st en:Nat),k<=n/\i=.int .i64 k/\s=.int .i64 st/\sg T v E k=some (st,en)/\OwI wr gq gq n (so T v E k++List.replicate (n-k) 0)/\RD wr B R x zs.length cx N en/\Only (fun k=>k=R) w wr/\Below B w0 wr) (fun _ i _=>n-(intOf i).toNat)
 case atStart=>exact ⟨0,v / 2 ^ E % 64,E,Nat.zero_le _,rfl,by simp,rfl,H0.out,HR5.out.1,HR5.out.2.1,HR5.out.2.2⟩
 case round=>
  clear H0 HR5;obtain ⟨k,st,en,hk,rfl,rfl,hsg,hown,hrd,hon,hbel⟩:=hrel;obtain ⟨hst,hen⟩:=zdy HGD.out v E k st en hsg;have HW:Hid (sg T v E k=some (st,en)/\OwI wr gq gq n (so T v E k++List.replicate (n-k) 0)/\RD wr B R x zs.length cx N en/\Only (fun k=>k=R) w wr/\Below B w0 wr):=⟨hsg,hown,hrd,hon,hbel⟩
  have HQL:Hid ((so T v E k).length=k/\True):=⟨zdo _ _ _ _,trivial⟩;have hgl:=hown.lt.2;clear hsg hown hrd hon hbel
  by_cases hlt:k<n
  ·obtain ⟨sy,b,z,e1,e2,e3,hsy,hb6,hz64⟩:=HGD.out.cell st hst
   have hTb:wr.heap[g]?=some (.cells (cel T) 245 (0,0)):=(HW.out.2.2.2.1.block g HTB.out.2 hgR).trans HTB.out.1;have t0:=z1s (tb:=T) hTb (st*3) (by rw [HPK.out.2.2.2];omega)
   have t1:=z1s (tb:=T) hTb (st*3+1) (by rw [HPK.out.2.2.2];omega)
   have t2:=z1s (tb:=T) hTb (st*3+2) (by rw [HPK.out.2.2.2];omega)
   rw [e1] at t0;rw [e2] at t1;rw [e3] at t2;have HCB:Hid (cB T st=b/\cZ T st=z/\T.getD (st*3) 0=(sy:Int)):=⟨by unfold cB;rw [e2,Int.toNat_natCast],by unfold cZ;rw [e3,Int.toNat_natCast],e1⟩
   have hpz:=Nat.pow_pos (n:=b) (show 0<2 by omega)
   have hz63:(z:Int)<=64:=by omega
   have HV:Hid (v / 2 ^ (en-b) % 2 ^ b<64):=by
    have h1:v / 2 ^ (en-b) % 2 ^ b<2 ^ b:=Nat.mod_lt _ (Nat.pow_pos (by omega))
    unfold Hid
    omega
   clear hTb e1 e2 e3 hz64 hpz;have HRA:Hid (RD (wr.alloc (Obj.cells #[.int .i64 sy,.int .i64 b,.int .i64 z] 171)) B R x zs.length cx N en/\Only (fun k=>k=R) w (wr.alloc (Obj.cells #[.int .i64 sy,.int .i64 b,.int .i64 z] 171))/\Below B w0 (wr.alloc (Obj.cells #[.int .i64 sy,.int .i64 b,.int .i64 z] 171))/\OwI (wr.alloc (Obj.cells #[.int .i64 sy,.int .i64 b,.int .i64 z] 171)) gq gq n (so T v E k++List.replicate (n-k) 0)):=
    ⟨HW.out.2.2.1.only (Only.alloc (Only.refl (fun _=>False) _) _) (by simp),HW.out.2.2.2.1.alloc _,HW.out.2.2.2.2.alloc HW.out.2.2.1.2.2 _,HW.out.2.1.alloc _⟩
   have HRb:Hid (R<wr.heap.size):=(Array.getElem?_eq_some_iff.1 HW.out.2.2.1.1).1
   by_cases hbe:en<b
   ·have HNO:Hid (sg T v E n=none/\True):=⟨zfr (zfq HW.out.1 (by rw [HCB.out.1];exact hbe)) n (by omega),trivial⟩
    have HBK:=HRA.out.1.backN b (by omega) (by omega) (HSN.out.1.below HRA.out.2.2.1 hG.1) (HSN.out.2.below HRA.out.2.2.1 hG.2) hbe
    have HOA:Hid (Only (fun k=>k=R) w (wr.alloc (Obj.cells #[.int .i64 sy,.int .i64 b,.int .i64 z] 171))/\True):=⟨HRA.out.2.1,trivial⟩
    clear HW HRA;go_wp2_with fail
    refine HBK.mono ?_;clear HBK;rintro e w6 ⟨⟨T',y,rfl⟩,m,rfl⟩;go_wp2;exact bodyPost_ret (v:=.tuple #[.slice none 0 0,.int .i64 0,.iface T' y]) (by simp [results,Tryz.results213,go_sem]) rfl ⟨HOA.out.1.drewN m,.inl ⟨HNO.out.1,T',y,rfl⟩⟩
   ·have HSG2:Hid (sg T v E (k+1)=some (z+v / 2 ^ (en-b) % 2 ^ b,en-b)/\so T v E (k+1)=so T v E k++[(sy:Int)]):=by
     have h1:=zfj HW.out.1 (show ¬en<cB T st by rw [HCB.out.1];exact hbe)
     have h2:=zfg HW.out.1;rw [HCB.out.1,HCB.out.2.1] at h1;rw [HCB.out.2.2] at h2;exact ⟨h1,h2⟩
    have HBK:=HRA.out.1.backY v b (by omega) HX.out HPK.out.2.1 HRA.out.2.2.1 HPK.out.1 (by omega) (by have:=HPK.out.2.2.1;omega) (by omega)
    obtain ⟨Xn,hXn⟩:∃ Xn,Xn=v / 2 ^ (en-b) % 2 ^ b:=⟨_,rfl⟩;rw [<-hXn] at HSG2 HV HBK;have hX64:(Xn:Int)<64:=by have:=HV.out;omega
    have HCC:Hid ((wr.alloc (Obj.cells #[.int .i64 sy,.int .i64 b,.int .i64 z] 171)).cell? ⟨wr.heap.size,0,none⟩=some (.int .i64 sy)/\(wr.alloc (Obj.cells #[.int .i64 sy,.int .i64 b,.int .i64 z] 171)).cell? ⟨wr.heap.size,2,none⟩=some (.int .i64 z)/\wr.heap.size<(wr.alloc (Obj.cells #[.int .i64 sy,.int .i64 b,.int .i64 z] 171)).heap.size):=⟨by simp,by simp,by simp⟩
    clear hXn HV HW;go_wp2_with fail
    refine HBK.mono ?_;clear HBK t0 t1 t2;rintro e w6 ⟨rfl,hrd6,hon6,hbel6⟩;have q0:w6.cell? ⟨wr.heap.size,0,none⟩=some (.int .i64 sy):=hon6.cell HCC.out.2.2 (by have:=HRb.out;omega) HCC.out.1
    have q2:w6.cell? ⟨wr.heap.size,2,none⟩=some (.int .i64 z):=hon6.cell HCC.out.2.2 (by have:=HRb.out;omega) HCC.out.2.1
    have ho6:OwI w6 gq gq n (so T v E k++List.replicate (n-k) 0):=HRA.out.2.2.2.only hon6 (by have:=HRL.out;have:=HGQ.out;omega)
    have hll:(so T v E k++List.replicate (n-k) 0).length=n:=by rw [List.length_append,List.length_replicate,HQL.out.1];omega
    have hdst:=ho6.cell k (by rw [hll];exact hlt)
    have hfz:=ho6.frozen k;have hset:(so T v E k++List.replicate (n-k) (0:Int)).set k (sy:Int)=so T v E (k+1)++List.replicate (n-(k+1)) 0:=by
     rw [HSG2.out.2,List.set_append_right _ _ (by rw [HQL.out.1];exact Nat.le_refl _),HQL.out.1,Nat.sub_self,show n-k=(n-(k+1))+1 from by omega,List.replicate_succ,List.set_cons_zero,List.append_assoc]
     rfl
    have hR7:=ho6.store k (sy:Int) (by omega)
    rw [hset] at hR7;have HF:Hid (OwI (w6.setCell ⟨gq,k,none⟩ (.int .i64 (sy:Int))) gq gq n (so T v E (k+1)++List.replicate (n-(k+1)) 0)/\RD (w6.setCell ⟨gq,k,none⟩ (.int .i64 (sy:Int))) B R x zs.length cx N (en-b)/\Only (fun k=>k=R) w (w6.setCell ⟨gq,k,none⟩ (.int .i64 (sy:Int)))/\Below B w0 (w6.setCell ⟨gq,k,none⟩ (.int .i64 (sy:Int)))):=by
     have hgR2:gq≠R:=by have:=HRL.out;have:=HGQ.out;omega
     refine ⟨hR7,hrd6.only (Only.setCell (Only.refl (fun b=>b=gq) w6) (p:=⟨gq,k,none⟩) (.inl rfl) _) hgR2.symm,(HRA.out.2.1.trans hon6).setCell (.inr HGQ.out) _,hbel6.setCell (p:=⟨gq,k,none⟩) (by have:=HRL.out;have:=HGQ.out;simp;omega) _⟩
    clear hR7 hset hll hrd6 hon6 hbel6 ho6 HRA HCC;generalize (so T v E k++List.replicate (n-k) 0).getD k 0=old at *;generalize wr.heap.size=cb at *;go_wp2;go_roundw
    case rel=>exact ⟨k+1,z+Xn,en-b,by omega,by go_num,by go_num,HSG2.out.1,HF.out.1,HF.out.2.1,HF.out.2.2.1,HF.out.2.2.2⟩
    case measure=>simp [intOf];omega
  ·have hkn:k=n:=by omega
   subst hkn;have HFI:Hid (OwI wr w.heap.size gq k (so T v E k)):=by
    have:=HW.out.2.1;rw [Nat.sub_self] at this
    simp only [List.replicate_zero,List.append_nil] at this
    exact this.mono HGQ.out
   go_wp2
   refine bodyPost_ret (v:=.tuple #[.slice (some ⟨gq,0,none⟩) k k,.int .i64 (st:Nat),.nilIface]) (by simp [results,Tryz.results213,go_sem]) rfl ?_
   exact ⟨HW.out.2.2.2.1,.inr ⟨st,en,gq,HW.out.1,rfl,HFI.out,HW.out.2.2.1⟩⟩
structure SentF (w:World):Prop where
 s0:Sent w 10
 s1:Sent w 17
 s2:Sent w 20
 hG:10<w.heap.size/\17<w.heap.size/\20<w.heap.size
theorem SentF.below {w w':World} (h:SentF w) (hb:Below w.heap.size w w'):SentF w':=
 ⟨h.s0.below hb h.hG.1,h.s1.below hb h.hG.2.1,h.s2.below hb h.hG.2.2,by have:=hb.size;have:=h.hG;omega⟩
theorem zdz {B:Nat} {a b:World} (h:Below B a b) (n:Nat):Below B a (b.drewN n):=⟨h.os,h.tape,h.output,h.size,h.block⟩
theorem zh4 {T:List Int} {v N n:Nat} (h:N<6):fgB T v N n=false:=by
 unfold fgB;rw [decide_eq_false_iff_not]
 omega
theorem zk3 {T:List Int} {v E n:Nat}:fgB T v (E+6) n=decide (sg T v E n=some (0,0)):=by unfold fgB;simp
theorem zby (a:Option Addr) (ca:Nat) (ls:List Int) (x:Option Addr) (cx:Nat) (zs:List Int) (N v n:Nat) (T:List Int) (w:World) (ha:Ins w a ls) (hx:Byt w x zs) (hz:zs=enc N v) (hN:N<=4096) (hn:n<=300) (hnb:zk ls=true) (hTe:tb (pl (fl 0 ls) (plc 64)) ls 64=T) (hS:SentF w) :
  Calls Tryz.prog 196 #[.slice a ls.length ca,.agg #[.slice x zs.length cx,.int .i64 N],.int .i64 n] w fun e w'=>Below w.heap.size w w' /\
   ((fgB T v N n = false /\ ∃ T' y, e = .returned (.tuple #[.slice none 0 0, .iface T' y])) \/
    (fgB T v N n=true/\∃ gq,e=.returned (.tuple #[.slice (some ⟨gq,0,none⟩) n n,.nilIface])/\OwI w' w.heap.size gq n (so T v (N-6) n))):=by
 have hw:Below w.heap.size w (w.alloc (Obj.cells #[.slice x zs.length cx,.int .i64 N] 106)):=bAw;have hbd:=z0p hnb;have hw2:Below (w.alloc (Obj.cells #[.slice x zs.length cx,.int .i64 N] 106)).heap.size (w.alloc (Obj.cells #[.slice x zs.length cx,.int .i64 N] 106)) ((w.alloc (Obj.cells #[.slice x zs.length cx,.int .i64 N] 106)).alloc (Obj.cells #[.slice x zs.length cx,.int .i64 N,.int .i64 N] 188)):=bAw
 have HRN:Hid (((w.alloc (Obj.cells #[.slice x zs.length cx,.int .i64 N] 106)).alloc (Obj.cells #[.slice x zs.length cx,.int .i64 N,.int .i64 N] 188)).heap[w.heap.size+1]?=some (.cells #[.slice x zs.length cx,.int .i64 N,.int .i64 N] 188 (0,0))/\(w.alloc (Obj.cells #[.slice x zs.length cx,.int .i64 N] 106)).heap.size=w.heap.size+1/\((w.alloc (Obj.cells #[.slice x zs.length cx,.int .i64 N] 106)).alloc (Obj.cells #[.slice x zs.length cx,.int .i64 N,.int .i64 N] 188)).heap.size=w.heap.size+2):=by
  have:=heap_alloc_new (w.alloc (Obj.cells #[.slice x zs.length cx,.int .i64 N] 106)) (Obj.cells #[.slice x zs.length cx,.int .i64 N,.int .i64 N] 188);rw [World.size_alloc] at this;exact ⟨this,by simp,by simp⟩
 have HX0:Hid (Byt (w.alloc (Obj.cells #[.slice x zs.length cx,.int .i64 N] 106)) x zs):=hx.alloc _;have HCO:=zf4 a ca ls _ ((ha.below hw nl).below hw2 nl) hnb;have HS1:Hid (SentF (w.alloc (Obj.cells #[.slice x zs.length cx,.int .i64 N] 106))):=hS.below hw;have HGD:Hid (Gd T ls.length):=by unfold Hid;rw [<-hTe];exact z90 hnb
 rw [hTe] at HCO;have HPK:Hid (zs=enc N v/\True):=⟨hz,trivial⟩;have HBW:Hid (_/\_):=⟨hw,hw2⟩;clear hz hTe hnb hw hw2 hx ha hS
 go_enter Tryz.func196,Tryz.ntmps196
 go_wp2_with fail
 generalize w.alloc (Obj.cells #[.slice x zs.length cx,.int .i64 N] 106)=W0 at *;generalize W0.alloc (Obj.cells #[.slice x zs.length cx,.int .i64 N,.int .i64 N] 188)=W1 at *;refine HCO.mono ?_;clear HCO;rintro e w2 ⟨g,rfl,hg,hTg,hb2⟩;have hTg':w2.heap[g]?=some (.cells (cel T) 245 (0,0)):=hTg;have hs2:=hb2.size;have HR2:Hid (RD w2 W0.heap.size (w.heap.size+1) x zs.length cx N N/\Below W0.heap.size W0 w2/\Below w.heap.size w w2):=by
  have h1:=HRN.out.2.1;have h2:=HRN.out.2.2;have hb02:=HBW.out.2.trans (hb2.mono (show W0.heap.size<=W1.heap.size by omega))
  exact ⟨⟨(hb2.block (w.heap.size+1) (by omega)).trans HRN.out.1,by omega,by omega⟩,hb02,HBW.out.1.trans (hb02.mono (by omega))⟩
 have HTG:Hid (w2.heap[g]?=some (.cells (cel T) 245 (0,0))/\g≠w.heap.size+1):=⟨hTg',by have:=HRN.out.2.2;omega⟩
 have HSS:Hid (w.heap.size+1<=w2.heap.size/\W0.heap.size=w.heap.size+1):=⟨by have:=HRN.out.2.2;omega,HRN.out.2.1⟩
 clear hTg hTg' hb2 hg hs2 HRN HBW
 by_cases h6:N<6
 ·have HBT:=zal (w.heap.size+1) g W0.heap.size x cx zs N n W0 w2 HR2.out.2.1 h6 HR2.out.1 HS1.out.s0 HS1.out.s1 ⟨HS1.out.hG.1,HS1.out.hG.2.1⟩
  go_wp2_with fail
  refine HBT.mono ?_;clear HBT;rintro e w3 ⟨hon,T',y,rfl⟩;have HB3:Hid (Below w.heap.size w w3/\True):=⟨HR2.out.2.2.trans (hon.below (by have:=HSS.out.1;omega) (fun k hk=>by omega)),trivial⟩
  have HF:Hid (fgB T v N n=false/\True):=⟨zh4 h6,trivial⟩;clear hon HR2 HTG;go_wp2
  go_ret2
  exact ⟨HB3.out.1,.inl ⟨HF.out.1,T',y,rfl⟩⟩
 ·obtain ⟨E,hE⟩:∃ E,N=E+6:=⟨N-6,by omega⟩
  have HNE:Hid (N=E+6/\N-6=E):=⟨hE,by omega⟩
  have HBT:=zbv (w.heap.size+1) g W0.heap.size x cx zs E N v n T ls.length W0 w2 HX0.out rfl HR2.out.2.1 HPK.out.1 hN hn hE HGD.out (by omega) HR2.out.1 HTG.out.1 HTG.out.2 HS1.out.s0 HS1.out.s1 ⟨HS1.out.hG.1,HS1.out.hG.2.1⟩
  have HF:Hid (fgB T v N n=decide (sg T v E n=some (0,0))/\True):=⟨by rw [hE];exact zk3,trivial⟩
  clear hE h6;go_wp2_with fail
  refine HBT.mono ?_;clear HBT;rintro e w3 ⟨hon,⟨hno,T',y,rfl⟩ | ⟨st,en,gq,hsg,rfl,how,hrd⟩⟩
  ·have HB3:Hid (Below w.heap.size w w3/\True):=⟨HR2.out.2.2.trans (hon.below (by have:=HSS.out.1;omega) (fun k hk=>by omega)),trivial⟩
   have HF2:Hid (fgB T v N n=false/\True):=⟨by rw [HF.out.1,hno];rfl,trivial⟩
   clear hon HR2 HTG hno HF;go_wp2
   go_ret2
   exact ⟨HB3.out.1,.inl ⟨HF2.out.1,T',y,rfl⟩⟩
  ·have HB3:Hid (Below w.heap.size w w3/\True):=⟨HR2.out.2.2.trans (hon.below (by have:=HSS.out.1;omega) (fun k hk=>by omega)),trivial⟩
   have c2:w3.cell? ⟨w.heap.size+1,2,none⟩=some (.int .i64 en):=zd (j:=2) hrd.1 rfl;have hS3:=HS1.out.below (HR2.out.2.1.trans (hon.below (by have:=HSS.out;omega) (fun k hk=>by have:=HSS.out;omega)))
   have HOW:Hid (OwI w3 w.heap.size gq n (so T v E n)):=how.mono (by have:=HSS.out.1;omega)
   have HSG:Hid (sg T v E n=some (st,en)/\True):=⟨hsg,trivial⟩;obtain ⟨Te,ye,hce⟩:=hS3.s2;clear hon hrd how HR2 HTG hsg hS3
   by_cases h1:st=0
   ·by_cases h2:en=0
    ·have HF2:Hid (fgB T v N n=true/\True):=⟨by rw [HF.out.1,HSG.out.1,h1,h2];rfl,trivial⟩
     subst h1 h2;clear HSG HF;go_wp2
     go_ret2
     exact ⟨HB3.out.1,.inr ⟨HF2.out.1,gq,rfl,by rw [HNE.out.2];exact HOW.out⟩⟩
    ·have HF2:Hid (fgB T v N n=false/\True):=⟨by rw [HF.out.1,HSG.out.1];simp;omega,trivial⟩
     have h2i:((en:Int) != 0)=true:=by simp;omega
     subst h1;clear HSG HF;go_wp2
     go_quiet (fail)
     go_wp2
     go_ret2
     exact ⟨zdz HB3.out.1 _,.inl ⟨HF2.out.1,Te,ye,rfl⟩⟩
   ·have HF2:Hid (fgB T v N n=false/\True):=⟨by rw [HF.out.1,HSG.out.1];simp;omega,trivial⟩
    have h2i:((st:Int) != 0)=true:=by simp;omega
    clear HSG HF;go_wp2
    go_quiet (fail)
    go_wp2
    go_ret2
    exact ⟨zdz HB3.out.1 _,.inl ⟨HF2.out.1,Te,ye,rfl⟩⟩
set_option linter.unusedSimpArgs false
theorem SentT.below {w w':World} (h:SentT w) (hb:Below w.heap.size w w'):SentT w':=by
 obtain ⟨pe,h0⟩:=h.over;obtain ⟨T,x,h1⟩:=h.full;exact ⟨⟨pe,keep hb h.lt.1 h0⟩,⟨T,x,keep hb h.lt.2 h1⟩,by have:=hb.size;have:=h.lt;omega⟩
structure SentD (w:World):Prop where
 t:SentT w
 f:SentF w
 s3:Sent w 19
 s4:Sent w 25
 s5:Sent w 13
 s6:Sent w 21
 s7:Sent w 15
 s8:Sent w 9
 four:Four w
 hG:19<w.heap.size/\25<w.heap.size/\13<w.heap.size/\21<w.heap.size/\15<w.heap.size/\9<w.heap.size
theorem SentD.below {w w':World} (h:SentD w) (hb:Below w.heap.size w w'):SentD w':=
 ⟨h.t.below hb,h.f.below hb,h.s3.below hb h.hG.1,h.s4.below hb h.hG.2.1,h.s5.below hb h.hG.2.2.1,h.s6.below hb h.hG.2.2.2.1,h.s7.below hb h.hG.2.2.2.2.1,h.s8.below hb h.hG.2.2.2.2.2,h.four.below hb,by have:=hb.size;have:=h.hG;omega⟩
structure AnO (R:Nat) (w W:World):Prop where
 r0:W.cell? ⟨w.heap.size,0,none⟩=some (.slice none 0 0)
 r1:W.cell? ⟨w.heap.size,1,none⟩=some (.int .i64 0)
 f0:W.frozen? ⟨w.heap.size,0,none⟩=false
 f1:W.frozen? ⟨w.heap.size,1,none⟩=false
 lt:w.heap.size<W.heap.size
 on:Only (fun k=>k=R) w W
theorem AnO.new (R:Nat) (w:World):AnO R w (w.alloc (Obj.cells #[.slice none 0 0,.int .i64 0] 106)):=⟨by simp,by simp,by simp,by simp,by simp,(Only.refl _ _).alloc _⟩
theorem AnO.step {R:Nat} {w W W':World} (h:AnO R w W) (ho:Only (fun k=>k=R) W W') (hR:R<w.heap.size):AnO R w W':=
 ⟨ho.cell h.lt (by omega) h.r0,ho.cell h.lt (by omega) h.r1,(World.frozen?_of_block (ho.block w.heap.size h.lt (by omega))).trans h.f0,(World.frozen?_of_block (ho.block w.heap.size h.lt (by omega))).trans h.f1,Nat.lt_of_lt_of_le h.lt ho.size,h.on.trans ho⟩
theorem zmx (n V s:Nat) (f:Nat):∀ (p:Nat) (out:List Int) (e:Bool) (res:List Int) (q:Nat),p<=n->gi n V s f p out e=some (res,q)->q<=n:=by
 induction f with
 | zero=>
  intro p out e res q hp h
  simp only [gi,Option.some.injEq,Prod.mk.injEq] at h
  omega
 | succ f ih=>
  intro p out e res q hp h
  simp only [gi] at h
  split at h
  ·split at h
   ·split at h
    ·split at h
     ·split at h
      ·cases h
      ·exact ih _ _ _ _ _ (by omega) h
     ·cases h
    ·exact ih _ _ _ _ _ (by omega) h
   ·cases h
  ·simp only [Option.some.injEq,Prod.mk.injEq] at h
   omega
def RdH (n V p N:Nat) (ts:List Int) (E:Nat):Prop:=∃ res q,giY n V p 40 res q/\ts.length=N/\Reads res (zh res (sbL res 12)).2.2 n V q ts E
theorem RdH.unique {n V p N:Nat} {ts ts':List Int} {E E':Nat} (h:RdH n V p N ts E) (h':RdH n V p N ts' E'):ts=ts'/\E=E':=by
 obtain ⟨res,q,hg,hl,hr⟩:=h;obtain ⟨res',q',hg',hl',hr'⟩:=h';obtain ⟨rfl,rfl⟩:res=res'/\q=q':=by have:=hg'.1;rw [hg.1] at this;simpa using this
 exact hr.unique hr' (by omega)
theorem z8e (R B:Nat) (a:Option Addr) (cap:Nat) (zs:List Int) (n V p N:Nat) (w0 w:World) (hb:Byt w0 a zs) (hB:w0.heap.size=B) (hbel:Below B w0 w) (hz:zs=enc n V) (hn:n<=4096) (hR:RD w B R a zs.length cap n p) (hp:p<=n) (hN:N<=300) (hS:SentD w0) :
  Calls Tryz.prog 167 #[.pointer (some ⟨R,0,none⟩),.int .i64 N] w fun e w'=>Only (fun k=>k=R) w w' /\
   ((∃ ts E g a' cp,RdH n V p N ts E/\E<=n/\OwI w' w.heap.size g N ts/\Mine w' w.heap.size w'.heap.size a' cp (enc (n-E) (bt V E (n-E))) /\
     e=.returned (.tuple #[.slice (some ⟨g,0,none⟩) N N,.agg #[.slice a' (enc (n-E) (bt V E (n-E))).length cp,.int .i64 ((n-E:Nat):Int)],.nilIface])) \/
    ((¬∃ ts E,RdH n V p N ts E)/\∃ T x v z l c M,e=.returned (.tuple #[v,.agg #[.slice z l c,.int .i64 M],.iface T x]))):=by
 have hRl:R<w.heap.size:=(Array.getElem?_eq_some_iff.1 hR.1).1;have hBW:Below B w0 w/\B<=R/\B<=w.heap.size:=⟨hbel,hR.2.1,hR.2.2⟩;have HQ:Hid (Byt w0 a zs/\w0.heap.size=B/\zs=enc n V/\SentD w0/\(Below B w0 w/\B<=R/\B<=w.heap.size)):=⟨hb,hB,hz,hS,hBW⟩;have hA1:=AnO.new R w;have hG1:=hS.hG;have hG2:=hS.f.hG;have HGL:=zhl R B a cap zs n V p 40 w0 _ hb hB (z0u hBW hA1.on) hz hn (hR.only (Only.alloc (Only.refl (fun _=>False) w) _) (by simp)) hp (by omega) hS.f.s0 hS.f.s1 hS.s3 hS.four (by omega)
 have HA1:Hid _:=hA1;clear hb hB hz hS hBW hbel hR hA1
 go_enter Tryz.func167,Tryz.ntmps167
 go_wp2_with fail
 refine HGL.mono ?_;clear HGL;rintro e w2 ⟨⟨hb2,hy2,hn2⟩,ho2⟩;have HA2:Hid (AnO R w w2):=AnO.step HA1.out ho2 hRl;clear HA1 ho2
 by_cases hex:∃ res q,giY n V p 40 res q
 ·obtain ⟨res,q,hgi⟩:=hex
  obtain ⟨a2,c2,rfl,hm2,hrd2⟩:=hy2 res q hgi;obtain ⟨hr1,hr2,-⟩:=zb4 hgi.2;have hqn:q<=n:=zmx n V 40 40 p [] false res q hp hgi.1;have HNR:=z7a a2 c2 res R w2 hm2.byt hr2;have HW2:Hid (RD w2 B R a zs.length cap n q/\Below B w0 w2/\giY n V p 40 res q):=⟨hrd2,hb2,hgi⟩;have hR2:R<w2.heap.size:=(Array.getElem?_eq_some_iff.1 hrd2.1).1;clear hy2 hn2 hb2 hm2 hrd2 hgi;go_wp2_with fail
  refine HNR.mono ?_;clear HNR;rintro e w3 ⟨H,ao,co,rfl,hhr,hmo,hHs,hb3⟩;have hA3:AnO R w w3:=AnO.step HA2.out (Only.ofBelow hb3 nl) hRl;have hbl3:=z0u HQ.out.2.2.2.2 hA3.on;have hrd3:RD w3 B R a zs.length cap n q:=HW2.out.1.only (Only.ofBelow (S:=fun _=>False) hb3 nl) (by simp)
  have HTX:=zlw H R B w2.heap.size ao co res a cap zs n V q N w0 w3 HQ.out.1 HQ.out.2.1 hbl3 HQ.out.2.2.1 hn hqn hN hr2 hhr hmo hrd3 (by omega) hR2 HQ.out.2.2.2.1.f.s0 HQ.out.2.2.2.1.f.s1 HQ.out.2.2.2.1.s4 (by omega)
  have HA3:Hid (AnO R w w3):=hA3;have z23:=hb3.size;have HGI:Hid (giY n V p 40 res q):=HW2.out.2.2;have z2:w.heap.size<w2.heap.size:=HA2.out.lt;clear hhr hmo hHs hb3 hA3 hbl3 hrd3 HA2 HW2;go_wp2_with fail
  refine HTX.mono ?_;clear HTX;rintro e w4 ⟨ho4,hb4,⟨ts,E,g,hl,hrds,how,hrd4,rfl⟩ | ⟨ts,E,T,y,hl,hrds,hno,rfl⟩⟩
  ·have hEn:E<=n:=hrds.le hqn
   have HA4:Hid (AnO R w w4):=AnO.step HA3.out ho4 hRl;have HF4:Hid (RdH n V p N ts E/\OwI w4 w.heap.size g N ts/\w3.heap.size<=g/\RD w4 B R a zs.length cap n E/\Below B w0 w4):=⟨⟨res,q,HGI.out,hl,hrds⟩,how.mono (by omega),how.lt.1,hrd4,hb4⟩
   have HLE:=hrd4.left (by omega) (by omega)
   clear ho4 hb4 hrds how hrd4 HA3 HGI hl;go_wp2_with fail
   refine HLE.mono ?_;clear HLE;rintro e w5 ⟨rfl,m5,rfl⟩;have hA5:AnO R w (w4.drewN m5):=AnO.step HA4.out ((Only.refl _ _).drewN m5) hRl;have hF5:OwI (w4.drewN m5) w.heap.size g N ts/\RD (w4.drewN m5) B R a zs.length cap n E/\Below B w0 (w4.drewN m5):=⟨HF4.out.2.1.drewN m5,HF4.out.2.2.2.1.only ((Only.refl (fun _=>False) _).drewN m5) (by simp),below_drewN HF4.out.2.2.2.2 m5⟩
   have HRH:Hid (RdH n V p N ts E/\w3.heap.size<=g):=⟨HF4.out.1,HF4.out.2.2.1⟩;clear HA4 HF4;generalize w4.drewN m5=w5 at *;have hnE:((n:Int)-(E:Int))=((n-E:Nat):Int):=by omega
   rw [hnE];have HTK:=z83 R B a cap zs n V E (n-E) w5 hF5.2.1 (HQ.out.1.below hF5.2.2 (by rw [HQ.out.2.1];exact Nat.le_refl _)) HQ.out.2.2.1 hn (by omega) (HQ.out.2.2.2.1.t.below (by rw [HQ.out.2.1];exact hF5.2.2))
   have HA5:Hid (AnO R w w5/\OwI w5 w.heap.size g N ts):=⟨hA5,hF5.1⟩;have HDE:Hid (∃ d,d=n-E):=⟨_,rfl⟩;clear hA5 hF5 hnE;generalize hde:n-E=d at *;have HD:Hid (n-E=d):=hde;clear hde HDE;go_wp2_with fail
   refine HTK.mono ?_;clear HTK;rintro e w6 ⟨a6,c6,rfl,hm6,hrd6,ho6⟩;have HA6:Hid (AnO R w w6):=AnO.step HA5.out.1 ho6 hRl;have HO6:Hid (OwI w6 w.heap.size g N ts):=HA5.out.2.only ho6 (by have:=HRH.out.2;omega)
   have HM6:Hid (Mine w6 w5.heap.size w6.heap.size a6 c6 (enc d (bt V E d))):=hm6;have z5:w.heap.size<w5.heap.size:=HA5.out.1.lt;have z6:=ho6.size;have z7:w.heap.size<w6.heap.size:=by omega
   clear hm6 hrd6 ho6 HA5;have x0:=HA6.out.r0;have x1:=HA6.out.r1;have y0:=HA6.out.f0;have y1:=HA6.out.f1;generalize hES:enc d (bt V E d)=es at *;have HES:Hid (enc d (bt V E d)=es):=hES;clear hES;go_wp2
   go_region
   go_wp2
   have hO7:Only (fun k=>k=w.heap.size) w6 (((w6.setCell ⟨w.heap.size,0,none⟩ (.slice a6 es.length c6)).setCell ⟨w.heap.size,1,none⟩ (.int .i64 (d:Nat))).alloc (Obj.cells #[.slice a6 es.length c6,.int .i64 (d:Nat)] 106)).drew:=
    (((Only.setCell (Only.setCell (Only.refl (fun k=>k=w.heap.size) w6) (p:=⟨w.heap.size,0,none⟩) (.inl rfl) _) (p:=⟨w.heap.size,1,none⟩) (.inl rfl) _)).alloc _).drew
   have hO8:Only (fun k=>k=R) w (((w6.setCell ⟨w.heap.size,0,none⟩ (.slice a6 es.length c6)).setCell ⟨w.heap.size,1,none⟩ (.int .i64 (d:Nat))).alloc (Obj.cells #[.slice a6 es.length c6,.int .i64 (d:Nat)] 106)).drew:=
    (((Only.setCell (Only.setCell HA6.out.on (p:=⟨w.heap.size,0,none⟩) (.inr nl) _) (p:=⟨w.heap.size,1,none⟩) (.inr nl) _)).alloc _).drew
   have q0:(((w6.setCell ⟨w.heap.size,0,none⟩ (.slice a6 es.length c6)).setCell ⟨w.heap.size,1,none⟩ (.int .i64 (d:Nat))).alloc (Obj.cells #[.slice a6 es.length c6,.int .i64 (d:Nat)] 106)).drew.cell? ⟨w.heap.size,0,none⟩=some (.slice a6 es.length c6):=zb _ (by simpa using z7) (by simp [go_sem,x0,x1])
   have q1:(((w6.setCell ⟨w.heap.size,0,none⟩ (.slice a6 es.length c6)).setCell ⟨w.heap.size,1,none⟩ (.int .i64 (d:Nat))).alloc (Obj.cells #[.slice a6 es.length c6,.int .i64 (d:Nat)] 106)).drew.cell? ⟨w.heap.size,1,none⟩=some (.int .i64 (d:Nat)):=zb _ (by simpa using z7) (by simp [go_sem,x0,x1])
   refine bodyPost_ret (v:=.tuple #[.slice (some ⟨g,0,none⟩) N N,.agg #[.slice a6 es.length c6,.int .i64 (d:Nat)],.nilIface]) (by simp [results,Tryz.results167,go_sem,q0,q1]) rfl ⟨hO8,.inl ⟨ts,E,g,a6,c6,HRH.out.1,hEn,?_,?_,by rw [HD.out,HES.out]⟩⟩
   ·exact HO6.out.only hO7 (by have:=HRH.out.2;omega)
   ·rw [HD.out,HES.out]
    exact (HM6.out.only hO7 (fun b h1 _=>by omega)).mono (by omega) hO7.size
  ·have HNO:Hid (¬∃ ts E,RdH n V p N ts E):=by
    rintro ⟨ts',E',res',q',hg',hl',hr'⟩;obtain ⟨rfl,rfl⟩:res=res'/\q=q':=by have:=hg'.1;rw [HGI.out.1] at this;simpa using this
    exact hr'.stuck hrds (by omega) hno
   have hA4:AnO R w w4:=AnO.step HA3.out ho4 hRl;have HON:Hid (Only (fun k=>k=R) w w4):=hA4.on
   obtain ⟨x0,x1,y0,y1,_,_⟩:=hA4;clear ho4 hb4 hrds hno HA3 HGI hl;go_wp2;refine bodyPost_ret (v:=.tuple #[.slice none 0 0,.agg #[.slice none 0 0,.int .i64 0],.iface T y]) (by simp [results,Tryz.results167,go_sem,x0,x1]) rfl ⟨?_,.inr ⟨HNO.out,_,_,_,_,_,_,_,rfl⟩⟩
   have h0:=HON.out
   repeat (first | exact h0 | refine Only.setCell ?_ (.inr (by simp)) _)
 ·obtain ⟨T,x,v,rfl⟩:=hn2 hex
  have HNO:Hid (¬∃ ts E,RdH n V p N ts E):=fun ⟨ts,E,res,q,h,_⟩=>hex ⟨res,q,h⟩
  have x0:=HA2.out.r0;have x1:=HA2.out.r1;have y0:=HA2.out.f0;have y1:=HA2.out.f1;clear hy2 hn2 hex hb2;go_wp2;refine bodyPost_ret (v:=.tuple #[.slice none 0 0,.agg #[.slice none 0 0,.int .i64 0],.iface T x]) (by simp [results,Tryz.results167,go_sem,x0,x1]) rfl ⟨?_,.inr ⟨HNO.out,_,_,_,_,_,_,_,rfl⟩⟩
  have h0:=HA2.out.on
  repeat (first | exact h0 | refine Only.setCell ?_ (.inr (by simp)) _)
def gL (V p:Nat):Nat->Nat × Nat
 | 0=>(64,p)
 | k+1=>((gL V p k).1-V / 2 ^ (gL V p k).2 % 2 ^ bl (gL V p k).1,(gL V p k).2+bl (gL V p k).1)
def gX (V p k:Nat):Nat:=V / 2 ^ (gL V p k).2 % 2 ^ bl (gL V p k).1
def z1w (n V p k:Nat):Prop:=∀ j,j<k->(gL V p j).2+bl (gL V p j).1<=n/\gX V p j<=(gL V p j).1
def gXs (V p s:Nat):List Int:=(List.range s).map (fun k=>((gX V p k:Nat):Int))
theorem z8u (V p k:Nat):(gL V p k).1<=64:=by
 induction k with
 | zero=>simp [gL]
 | succ k ih=>simp only [gL];omega
theorem zgh (V p k:Nat):gX V p k<128:=by
 have h1:=z5x _ (z8u V p k);have h2:gX V p k<2 ^ bl (gL V p k).1:=Nat.mod_lt _ (Nat.pow_pos (by omega))
 have h3:2 ^ bl (gL V p k).1<=2 ^ 7:=Nat.pow_le_pow_right (by omega) h1
 omega
theorem z22 (V p s:Nat):(gXs V p s).length=s:=by simp [gXs]
theorem z9l (V p s k:Nat) (h:k<s):(gXs V p s).getD k 0=(gX V p k:Nat):=by
 simp [gXs,List.getD_eq_getElem?_getD,h]
theorem znl (V p s:Nat):∀ z ∈ gXs V p s,-9223372036854775808<=z/\z<=9223372036854775807:=by
 intro z hz
 simp only [gXs,List.mem_map,List.mem_range] at hz
 obtain ⟨k,_,rfl⟩:=hz;have:=zgh V p k
 omega
theorem z6i {n V p k:Nat} (h:z1w n V p k) (h1:(gL V p k).2+bl (gL V p k).1<=n) (h2:gX V p k<=(gL V p k).1):z1w n V p (k+1):=by
 intro j hj
 by_cases h':j=k
 ·subst h';exact ⟨h1,h2⟩
 ·exact h j (by omega)
theorem z4z {n V p k:Nat} (hp:p<=n) (h:z1w n V p k):(gL V p k).2<=n:=by
 cases k with
 | zero=>exact hp
 | succ k=>exact (h k (by omega)).1
theorem z58 (V p k:Nat):(gL V p (k+1)).1=(gL V p k).1-gX V p k:=rfl
theorem z86 (V p k:Nat):(gL V p (k+1)).2=(gL V p k).2+bl (gL V p k).1:=rfl
theorem zej {n V p k s:Nat} (hk:k<s) (h:¬(gL V p k).2+bl (gL V p k).1<=n):¬z1w n V p s:=fun h'=>h (h' k hk).1
theorem zb9 {n V p k s:Nat} (hk:k<s) (h:¬gX V p k<=(gL V p k).1):¬z1w n V p s:=fun h'=>h (h' k hk).2
theorem zo6 {n V p k:Nat} (hp:p<=n) (h:z1w n V p k) (h0:(gL V p k).1=0) (s:Nat) (hs:k<=s):z1w n V p s/\(gL V p s).1=0/\(gL V p s).2=(gL V p k).2/\∀ j,k<=j->j<s->gX V p j=0:=by
 induction s with
 | zero => obtain rfl : k = 0 := by omega
           exact ⟨h,h0,rfl,fun j _ _=>by omega⟩
 | succ s ih=>
  by_cases hks:k<=s
  ·obtain ⟨i1,i2,i3,i4⟩:=ih hks
   have hx:gX V p s=0:=by unfold gX;rw [i2,z6t];simp [Nat.mod_one]
   have hps:=z4z hp i1;refine ⟨z6i i1 (by rw [i2,z6t];omega) (by omega),by rw [z58];omega,by rw [z86,i2,z6t];exact i3,?_⟩
   intro j hj1 hj2
   by_cases hjs:j=s
   ·subst hjs;exact hx
   ·exact i4 j hj1 (by omega)
  ·obtain rfl:k=s+1:=by omega
   exact ⟨h,h0,rfl,fun j _ _=>by omega⟩
theorem zk1 {zs:List Int} {k:Nat} (hk:k<=zs.length) (h:∀ j,k<=j->j<zs.length->zs.getD j 0=0):part zs k=zs:=by
 apply List.ext_getElem?
 intro i
 rw [z5i zs k i hk]
 by_cases h1:i<k
 ·rw [if_pos h1]
 ·rw [if_neg h1]
  by_cases h2:i<zs.length
  ·rw [if_pos h2]
   have:=h i (by omega) h2
   rw [List.getD_eq_getElem?_getD,List.getElem?_eq_getElem h2] at this;rw [List.getElem?_eq_getElem h2]
   simp at this
   rw [this]
  ·rw [if_neg h2,List.getElem?_eq_none (by omega)]
def z11 (n V p s:Nat):Prop:=z1w n V p s/\(gL V p s).1=0
theorem z8b {B:Nat} {a b:World} (h:Below B a b) (n:Nat):Below B a (b.drewN n):=⟨h.os,h.tape,h.output,h.size,h.block⟩
theorem zgx (R B:Nat) (a:Option Addr) (cap:Nat) (zs:List Int) (n V p s:Nat) (w0 w:World) (hb:Byt w0 a zs) (hB:w0.heap.size=B) (hbel:Below B w0 w) (hz:zs=enc n V) (hn:n<=4096) (hR:RD w B R a zs.length cap n p) (hp:p<=n) (hs:s<=80)
  (s0:Sent w0 10) (s1:Sent w0 17) (s2:Sent w0 13) (hG:10<B/\17<B/\13<B) :
  Calls Tryz.prog 195 #[.pointer (some ⟨R,0,none⟩),.int .i64 s] w fun e w'=>Below B w0 w' /\
   (z11 n V p s->e=.returned (.tuple #[.slice (some ⟨w.heap.size,0,none⟩) s s,.nilIface])/\OwI w' B w.heap.size s (gXs V p s)/\RD w' B R a zs.length cap n (gL V p s).2) /\
   (¬z11 n V p s->∃ T x v,e=.returned (.tuple #[v,.iface T x]))/\Only (fun k=>k=R) w w':=by
 obtain ⟨i0,hi,hz0,hz1,hz2⟩:=info_parts Tryz.infoI64;have hBw:B<=w.heap.size:=hR.2.2;have hRw:R<w.heap.size:=(Array.getElem?_eq_some_iff.1 hR.1).1;have HR:Hid (RD w B R a zs.length cap n p):=hR;have HZ:Hid (zs=enc n V):=hz;have HXR:Hid _:=znl V p s;have HXL:Hid _:=z22 V p s;clear hR hz
 go_enter Tryz.func195,Tryz.ntmps195
 go_wp2_with (at_make;refine wpList_make_full _ rfl _ _ 57 rfl w.heap.size 3 i0 (.int .i64 0) 1 Tryz.underlying57 hi hz0 hz1 .i64 .i64 _ _ s rfl rfl rfl rfl (by rw [hz2];omega) (by unfold maxLen;omega) nl ?_;intro w1 hown hgrow)
 have h0:OwI w1 w.heap.size w.heap.size s (part (gXs V p s) 0):=by
  rw [z3r,z22];refine ⟨?_,by intro z hz;simp at hz;omega⟩
  rw [z0n] at hown
  simpa using hown
 have hbw:Below w.heap.size w w1:=(Below.refl _ _).grown hgrow nl (by intro k hk;cases hk)
 have H0:Hid (OwI w1 w.heap.size w.heap.size s (part (gXs V p s) 0)):=h0;have HB1:Hid (Below B w0 w1):=hbel.trans (hbw.mono hBw);have HON1:Hid (Only (fun k=>k=R) w w1):=Only.ofBelow hbw nl
 have HR1:Hid (RD w1 B R a zs.length cap n p):=HR.out.only (Only.ofBelow (S:=fun _=>False) hbw nl) (by simp)
 clear h0 hown hgrow hi hz0 hz1 hz2 hbw hbel HR
 go_loopw [7,15] (fun l i wr=>∃ k:Nat,k<=s/\i=.int .i64 k/\l=.int .i64 ((gL V p k).1:Nat)/\z1w n V p k/\OwI wr w.heap.size w.heap.size s (part (gXs V p s) k)/\RD wr B R a zs.length cap n (gL V p k).2/\Below B w0 wr/\Only (fun k=>k=R) w wr) (fun _ i _=>s-(intOf i).toNat)
 case atStart=>exact ⟨0,Nat.zero_le _,rfl,rfl,fun j hj=>by omega,H0.out,HR1.out,HB1.out,HON1.out⟩
 case round=>
  clear H0 HR1 HB1 HON1;obtain ⟨k,hk,rfl,rfl,hgood,hown,hrd,hbel,hon⟩:=hrel;have HON:Hid (Only (fun k=>k=R) w wr):=hon
  clear hon;have HGD:Hid (z1w n V p k):=hgood;have HO:Hid (OwI wr w.heap.size w.heap.size s (part (gXs V p s) k)):=hown;have HRD:Hid (RD wr B R a zs.length cap n (gL V p k).2):=hrd;have hq:=z4z hp hgood;clear hgood hown hrd
  by_cases hlt:k<s
  ·have hl:=z8u V p k
   have hb7:=z5x _ hl;have HXG:Hid ((gXs V p s).getD k 0=(gX V p k:Nat)):=z9l V p s k hlt;have HX:Hid (gX V p k=V / 2 ^ (gL V p k).2 % 2 ^ bl (gL V p k).1):=rfl;have hx:=zgh V p k;have HBS:Hid _:=zej (n:=n) (V:=V) (p:=p) hlt;have HBX:Hid _:=zb9 (n:=n) (V:=V) (p:=p) hlt;have HGS:Hid _:=@z6i n V p k;have HS1:Hid _:=z58 V p k;have HS2:Hid _:=z86 V p k;generalize (gL V p k).1=l at *;generalize (gL V p k).2=q at *
   generalize gX V p k=x at *;go_wp2_with fail
   refine (zaj l wr (by omega)).mono ?_
   rintro e w1 ⟨rfl,rfl⟩
   by_cases c1:q+bl l<=n
   ·go_wp2_with fail
    refine (HRD.out.yes V ((bl l:Nat):Int) (by omega) (hb.below hbel (by omega)) HZ.out (by omega) (by omega) (by omega)).mono ?_
    rintro e w2 ⟨rfl,hrd2,hon2,hb2⟩;have HON2:Hid (Only (fun k=>k=R) w w2):=HON.out.trans hon2
    have HRD2:Hid (RD w2 B R a zs.length cap n (q+bl l)):=by simpa [Hid] using hrd2
    have HO2:Hid (OwI w2 w.heap.size w.heap.size s (part (gXs V p s) k)):=HO.out.only hon2 (by omega)
    have hbel2:Below B w0 w2:=hbel.trans hb2;have hxe:V / 2 ^ q % 2 ^ ((bl l:Nat):Int).toNat=x:=by rw [HX.out];simp
    rw [hxe];clear hrd2 hon2 hb2 hbel HRD HO hxe
    by_cases c2:x<=l
    ·have HG2:Hid (z1w n V p (k+1)):=HGS.out HGD.out c1 c2
     have hpl:(part (gXs V p s) k).length=s:=by rw [z2m _ _ (by rw [HXL.out];omega)];exact HXL.out
     have hdst:=HO2.out.cell k (by omega)
     have hfz:=HO2.out.frozen k;have R2:=HO2.out.store k ((gXs V p s).getD k 0) (by rw [HXG.out];omega)
     rw [z3d _ _ (by rw [HXL.out];exact hlt),HXG.out] at R2
     have HR2:Hid (OwI (w2.setCell ⟨w.heap.size,k,none⟩ (.int .i64 (x:Nat))) w.heap.size w.heap.size s (part (gXs V p s) (k+1))):=R2;have HB2:Hid (Below B w0 (w2.setCell ⟨w.heap.size,k,none⟩ (.int .i64 (x:Nat)))):=hbel2.setCell (p:=⟨w.heap.size,k,none⟩) hBw (.int .i64 (x:Nat));have HON3:Hid (Only (fun k=>k=R) w (w2.setCell ⟨w.heap.size,k,none⟩ (.int .i64 (x:Nat)))):=HON2.out.setCell (p:=⟨w.heap.size,k,none⟩) (.inr nl) _
     have HRD3:Hid (RD (w2.setCell ⟨w.heap.size,k,none⟩ (.int .i64 (x:Nat))) B R a zs.length cap n (q+bl l)):=HRD2.out.only (Only.setCell (Only.refl (fun b=>b=w.heap.size) w2) (p:=⟨w.heap.size,k,none⟩) (.inl rfl) _) (by omega)
     have E1:Hid ((l:Int)-(x:Nat)=(((gL V p (k+1)).1:Nat):Int)):=by have:=HS1.out;unfold Hid;omega
     clear R2 hpl HRD2 HO2 hbel2 HS1 HBS HBX HGS HX HXG;generalize (part (gXs V p s) k).getD k 0=old at *;go_wp2;go_roundw
     case rel=>exact ⟨k+1,by omega,by go_num,by rw [E1.out],HG2.out,by simpa using HR2.out,by rw [HS2.out];simpa using HRD3.out,by simpa using HB2.out,by simpa using HON3.out⟩
     case measure=>simp [intOf];omega
    ·have HN:Hid (¬z11 n V p s):=fun h=>HBX.out c2 h.1
     obtain ⟨T,y,hc⟩:=s2.below hbel2 (by omega)
     clear HBS HBX HGS HX HXG HRD2 HO2 HS1 HS2;go_wp2
     go_quiet (fail)
     go_wp2
     exact bodyPost_ret (v:=.tuple #[.slice none 0 0,.iface T y]) (by simp [results,Tryz.results195,go_sem]) rfl ⟨z8b hbel2 _,fun h=>absurd h HN.out,fun _=>⟨T,y,_,rfl⟩,HON2.out.drewN _⟩
   ·have HN:Hid (¬z11 n V p s):=fun h=>HBS.out c1 h.1
    go_wp2_with fail
    refine (HRD.out.no ((bl l:Nat):Int) (by omega) (by omega) (s0.below hbel (by omega)) (s1.below hbel (by omega)) (by omega)).mono ?_
    rintro e w2 ⟨⟨T,y,rfl⟩,m,rfl⟩;clear HBS HBX HGS HX HXG HRD HO HS1 HS2;go_wp2;exact bodyPost_ret (v:=.tuple #[.slice none 0 0,.iface T y]) (by simp [results,Tryz.results195,go_sem]) rfl ⟨z8b hbel _,fun h=>absurd h HN.out,fun _=>⟨T,y,_,rfl⟩,HON.out.drewN _⟩
  ·have hkn:k=s:=by omega
   subst hkn;have hall:=HO.out;rw [show part (gXs V p k) k=gXs V p k from by have:=z7x (gXs V p k);rw [HXL.out] at this;exact this] at hall
   have HA:Hid (OwI wr B w.heap.size k (gXs V p k)):=hall.mono hBw;clear hall HO;have hl:=z8u V p k
   by_cases c0:(gL V p k).1=0
   ·have HY:Hid (z11 n V p k):=⟨HGD.out,c0⟩
    rw [c0];go_wp2;exact bodyPost_ret (v:=.tuple #[.slice (some ⟨w.heap.size,0,none⟩) k k,.nilIface]) (by simp [results,Tryz.results195,go_sem]) rfl ⟨hbel,fun _=>⟨rfl,HA.out,HRD.out⟩,fun h=>absurd HY.out h,HON.out⟩
   ·have HN:Hid (¬z11 n V p k):=fun h=>c0 h.2
    obtain ⟨T,y,hc⟩:=s2.below hbel (by omega)
    generalize (gL V p k).1=l at *;have hne:((l:Int) != 0)=true:=by rw [bne_iff_ne];omega
    clear HRD HA HGD;go_wp2
    go_quiet (fail)
    go_wp2
    exact bodyPost_ret (v:=.tuple #[.slice none 0 0,.iface T y]) (by simp [results,Tryz.results195,go_sem]) rfl ⟨z8b hbel _,fun h=>absurd h HN.out,fun _=>⟨T,y,_,rfl⟩,HON.out.drewN _⟩
end Go.Proofs.YtjmcjbmjgpponaaGreatDoor
