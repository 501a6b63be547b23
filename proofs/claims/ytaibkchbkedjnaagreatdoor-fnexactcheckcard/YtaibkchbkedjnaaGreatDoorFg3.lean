/- Lemmas on the way. -/
import Derived.Test.YtaibkchbkedjnaaGreatDoorElD
import Derived.Test.YtaibkchbkedjnaaGreatDoorBox2
import Derived.Test.YtaibkchbkedjnaaGreatDoorSp3
import Derived.Laws.CopyOwn
import Derived.Test.YtaibkchbkedjnaaGreatDoorPut1
set_option maxRecDepth 20000
set_option maxHeartbeats 16000000
namespace Go.Proofs.YtaibkchbkedjnaaGreatDoor
open Go.RowKit
set_option linter.unusedVariables false
def bl (n:Nat):Nat:=if n=0 then 0 else Nat.log2 n+1
theorem bl_all :∀ n,n<256→n<2 ^ bl n∧(∀ k,k<9→k<bl n→2 ^ k≤n)∧bl n≤8∧(n≤64→bl n≤7):=by decide +kernel
theorem bl_lt (n:Nat) (h:n<256):n<2 ^ bl n:=(bl_all n h).1
theorem bl_ge (n k:Nat) (h:n<256) (hk:k<bl n):2 ^ k≤n:=(bl_all n h).2.1 k (by have:=(bl_all n h).2.2.1;omega) hk
theorem bl_le7 (n:Nat) (h:n≤64):bl n≤7:=(bl_all n (by omega)).2.2.2 h
theorem bl_zero :bl 0=0:=rfl
set_option maxRecDepth 100000 in
theorem len64_int (x:Int) (w:World) (h0:0≤x) (h:x<256) :
  Calls Tryz.prog 248 #[.int .u64 x] w fun e w'=>e=.returned (.int .i64 (bl x.toNat:Nat))∧w'=w:=by
 generalize hy:((bl x.toNat:Nat):Int)=y
 have HY:Hid (((bl x.toNat:Nat):Int)=y):=hy
 clear hy
 go_enter Tryz.func248,Tryz.ntmps248
 go_wp2
 go_ret
 refine ⟨ret_int ?_,rfl⟩
 rw [←HY.out]
 have hn:x.toNat<256:=by omega
 have e:∀ (n:Nat) (S:ByteArray) (h:n<S.size),S[n]=S.data.toList.getD n 0:=by
  intro n S h
  have h':n<S.data.toList.length:=by simpa using h
  rw [List.getD_eq_getElem?_getD,List.getElem?_eq_getElem h']
  rfl
 rw [e]
 generalize x.toNat=n at *
 revert hn
 clear HY e
 revert n
 decide +kernel
theorem len64_any (n:Nat) (w:World) (h:n<256) :
  Calls Tryz.prog 248 #[.int .u64 (n:Int)] w fun e w'=>e=.returned (.int .i64 (bl n:Nat))∧w'=w:=by
 have:=len64_int (n:Int) w (by omega) (by omega)
 simpa using this
theorem len_any (n:Nat) (w:World) (h:n<256) :
  Calls Tryz.prog 244 #[.int .u64 (n:Int)] w fun e w'=>e=.returned (.int .i64 (bl n:Nat))∧w'=w:=by
 go_enter Tryz.func244,Tryz.ntmps244
 go_wp2_with fail
 refine (len64_any n w h).mono ?_
 rintro e w1 ⟨rfl,rfl⟩
 go_wp2
 go_ret
 exact ⟨rfl,rfl⟩
def ArI (w:World) (B U:Nat) (a:Option Addr) (zs:List Int):Prop:=
 (∀ z ∈ zs,-9223372036854775808≤z∧z≤9223372036854775807)∧((a=none∧zs=[])∨∃ g T,a=some ⟨g,0,none⟩∧B≤g∧g<U∧w.heap[g]?=some (.cells (zs.map (Value.int .i64)).toArray T (0,0)))
theorem arr_cell {w:World} {g:Nat} {T:TypeId} {tb:List Int} (h:w.heap[g]?=some (.cells (tb.map (Value.int .i64)).toArray T (0,0))) (x:Nat) (hx:x<tb.length):w.cell? ⟨g,x,none⟩=some (.int .i64 (tb.getD x 0)):=by
 rw [cell_of_row _ _ x _ _ _ h]
 simp [List.getD_eq_getElem?_getD,hx]
section
variable {w W W' : World} {B U B' U' : Nat} {a : Option Addr} {zs : List Int}
end
def zer (n:Nat):List Int:=List.replicate n 0
def cel (l:List Int):Array Value:=(l.map (Value.int .i64)).toArray
theorem infoTab :(Tryz.prog.info? 319).bind (·.zero)=some (.agg (cel (zer 192))):=by kernel_rfl
theorem infoNxt :(Tryz.prog.info? 320).bind (·.zero)=some (.agg (cel (zer 80))):=by kernel_rfl
theorem zeroOf {P:Program} {t:TypeId} {z:Value} (h:(P.info? t).bind (·.zero)=some z) (w:World):(zeroValue t).run P w=.ok z w:=by
 cases hi:P.info? t with
 | none=>rw [hi] at h;simp at h
 | some i=>
  rw [hi] at h
  simp at h
  simp [zeroValue,typeInfo,hi,h]
theorem zeroTab (w:World):(zeroValue 319).run Tryz.prog w=.ok (.agg (cel (zer 192))) w:=zeroOf infoTab w
theorem zeroNxt (w:World):(zeroValue 320).run Tryz.prog w=.ok (.agg (cel (zer 80))) w:=zeroOf infoNxt w
theorem splice_zer (zs:List Int) (L:Nat) (h:zs.length=L):splice ((zer 80).map (Value.int .i64)) 0 (zs.map (Value.int .i64))=(zs++zer (80-L)).map (Value.int .i64):=by
 unfold splice
 rw [List.take_zero,List.nil_append,Nat.zero_add,List.length_map,h,←List.map_drop,List.map_append]
 unfold zer
 rw [List.drop_replicate]
theorem index_row (E:Array Value) (k s:Nat) (hk:k<64) (hE:E[k]?=some (.int .i64 (s:Int))) (W:World):(Instr.index 321 (.agg E) (.int .i64 (k:Int))).run Tryz.prog W=.ok (.int .i64 (s:Int)) W:=by
 obtain ⟨i0,hi,hz0,hz1,hz2⟩:=info_parts Tryz.infoI64
 simp [Instr.index,asIntOf,run_underlying Tryz.underlying321,run_underlying Tryz.underlying3,Go.part,isAgg,sizeOf,typeInfo,hi,hz1,hE,hk]
theorem wd_bl :∀ X,X<128→1≤X→bl X+wd X=7:=by decide +kernel
theorem back_no (R:Nat) (a:Option Addr) (cap:Nat) (zs:List Int) (n:Nat) (p width:Int) (w:World) (hn:n≤4104) (pb:p≤9223372036854775807)
  (c0:w.cell? ⟨R,0,none⟩=some (.slice a zs.length cap)) (c1:w.cell? ⟨R,1,none⟩=some (.int .i64 n)) (c2:w.cell? ⟨R,2,none⟩=some (.int .i64 p))
  (s0:Sent w 17) (s2:Sent w 18)
  (h:width<0∨30<width∨(n:Int)<p∨p<width) :
  Calls Tryz.prog 245 #[.pointer (some ⟨R,0,none⟩),.int .i64 width] w fun e w'=>(∃ T x,e=.returned (.tuple #[.int .i64 0,.iface T x]))∧∃ m,w'=w.drewN m:=by
 obtain ⟨T0,x0,g0⟩:=s0
 obtain ⟨T2,x2,g2⟩:=s2
 have key:(width<0∨30<width)∨(0≤width∧width≤30∧(n:Int)<p)∨(0≤width∧width≤30∧p≤(n:Int)∧p<width):=by omega
 clear h
 rcases key with hh | ⟨k1,k2,k3⟩ | ⟨k1,k2,k3,k4⟩
 ·have hd:Hid (decide (0≤width∧width≤30)=false):=by simp [Hid];omega
  go_enter Tryz.func245,Tryz.ntmps245
  go_wp2_with fail
  refine (widthOk_any width _).mono ?_
  rintro e w1 ⟨rfl,rfl⟩
  rw [hd.out]
  go_wp2_with fail
  go_quiet (fail)
  go_wp2
  go_ret2
  exact ⟨⟨_,_,rfl⟩,_,rfl⟩
 ·have hd:Hid (decide (0≤width∧width≤30)=true):=by simp [Hid];omega
  have hp:decide ((n:Int)<p)=true:=by simpa using k3
  go_enter Tryz.func245,Tryz.ntmps245
  go_wp2_with fail
  refine (widthOk_any width _).mono ?_
  rintro e w1 ⟨rfl,rfl⟩
  rw [hd.out]
  go_wp2_with fail
  go_quiet (fail)
  go_wp2
  go_quiet (fail)
  go_wp2
  go_ret2
  exact ⟨⟨_,_,rfl⟩,_,World.drewN_drewN ..⟩
 ·have hd:Hid (decide (0≤width∧width≤30)=true):=by simp [Hid];omega
  have hp:decide ((n:Int)<p)=false:=by simpa using k3
  go_enter Tryz.func245,Tryz.ntmps245
  go_wp2_with fail
  refine (widthOk_any width _).mono ?_
  rintro e w1 ⟨rfl,rfl⟩
  rw [hd.out]
  go_wp2_with fail
  go_quiet (fail)
  go_wp2
  go_quiet (fail)
  go_wp2
  go_ret2
  exact ⟨⟨_,_,rfl⟩,_,World.drewN_drewN ..⟩
theorem back_yes (R:Nat) (a:Option Addr) (cap:Nat) (zs:List Int) (n v:Nat) (p width:Int) (w:World) (hn:n≤4104) (hb:∀ m x,Byt ((w.drewN m).setCell ⟨R,2,none⟩ x) a zs) (hz:zs=enc n v)
  (c0:w.cell? ⟨R,0,none⟩=some (.slice a zs.length cap)) (c1:w.cell? ⟨R,1,none⟩=some (.int .i64 n)) (c2:w.cell? ⟨R,2,none⟩=some (.int .i64 p)) (f2:w.frozen? ⟨R,2,none⟩=false)
  (k1:0≤width) (k2:width≤30) (k3:p≤(n:Int)) (k4:width≤p) :
  Calls Tryz.prog 245 #[.pointer (some ⟨R,0,none⟩),.int .i64 width] w fun e w'=>
   e=.returned (.tuple #[.int .i64 (v / 2 ^ (p-width).toNat % 2 ^ width.toNat:Nat),.nilIface])∧∃ m,w'=(w.drewN m).setCell ⟨R,2,none⟩ (.int .i64 (p-width)):=by
 have hd:Hid (decide (0≤width∧width≤30)=true):=by simp [Hid];omega
 have hp:decide ((n:Int)<p)=false:=by simpa using k3
 have HZ:Hid (zs=enc n v):=hz
 clear hz
 go_enter Tryz.func245,Tryz.ntmps245
 go_wp2_with fail
 refine (widthOk_any width _).mono ?_
 rintro e w1 ⟨rfl,rfl⟩
 rw [hd.out]
 go_wp2_with fail
 go_quiet (fail)
 go_wp2_with fail
 refine (number_any R a cap zs n p (p-width) width n v _ (hb _ _) HZ.out hn (by rw [World.cell?_setCell_other _ _ _ _ (by simp)];exact c0) (by omega) k1 k2 (by omega)).mono ?_
 rintro e w2 ⟨rfl,rfl⟩
 go_wp2
 go_ret2
 exact ⟨rfl,_,rfl⟩
theorem RD.backY {w0 w:World} {B R:Nat} {a:Option Addr} {zs:List Int} {cap n p:Nat} (h:RD w B R a zs.length cap n p) (v:Nat) (width:Nat) (hn:n≤4104) (hb:Byt w0 a zs) (hB:w0.heap.size=B) (hbel:Below B w0 w) (hz:zs=enc n v) (k2:width≤30) (k3:p≤n) (k4:width≤p) :
  Calls Tryz.prog 245 #[.pointer (some ⟨R,0,none⟩),.int .i64 (width:Int)] w fun e w'=>
   e=.returned (.tuple #[.int .i64 (v / 2 ^ (p-width) % 2 ^ width:Nat),.nilIface])∧RD w' B R a zs.length cap n (p-width)∧Only (fun k=>k=R) w w'∧Below B w0 w':=by
 have hby:∀ m x,Byt ((w.drewN m).setCell ⟨R,2,none⟩ x) a zs:=fun m x=>hb.below ((show Below B w0 (w.drewN m) from ⟨hbel.os,hbel.tape,hbel.output,hbel.size,hbel.block⟩).setCell (p:=⟨R,2,none⟩) h.2.1 x) (by rw [hB];exact Nat.le_refl _)
 refine (back_yes R a cap zs n v p width w hn hby hz (cellRR (j:=0) h.1 rfl) (cellRR (j:=1) h.1 rfl) (cellRR (j:=2) h.1 rfl) (h.frz 2) (by omega) (by omega) (by omega) (by omega)).mono ?_
 rintro e w' ⟨rfl,m,rfl⟩
 have hR:(w.drewN m).heap[R]?=some (.cells #[.slice a zs.length cap,.int .i64 n,.int .i64 p] 261 (0,0)):=h.1
 have hO:Only (fun k=>k=R) w ((w.drewN m).setCell ⟨R,2,none⟩ (.int .i64 ((p:Int)-width))):=by
  have h0:Only (fun k=>k=R) w (w.drewN m):=Only.ofBelow (S:=fun k=>k=R) (B:=w.heap.size) ⟨rfl,rfl,rfl,Nat.le_refl _,fun _ _=>rfl⟩ nl
  exact Only.setCell h0 (p:=⟨R,2,none⟩) (.inl rfl) _
 refine ⟨by rw [show ((p:Int)-(width:Int)).toNat=p-width from by omega,Int.toNat_natCast],⟨?_,h.2.1,Nat.le_trans h.2.2 hO.size⟩,hO,hbel.trans (hO.below h.2.2 (fun k hk=>by rw [hk];exact h.2.1))⟩
 rw [heap_setCell_same _ R 2 _ _ _ hR]
 have e:((p:Int)-(width:Int))=((p-width:Nat):Int):=by omega
 rw [e]
 simp
theorem RD.backN {w:World} {B R:Nat} {a:Option Addr} {zs:List Int} {cap n p:Nat} (h:RD w B R a zs.length cap n p) (width:Nat) (hn:n≤4104) (hp:p≤4104) (s0:Sent w 17) (s2:Sent w 18) (k4:p<width) :
  Calls Tryz.prog 245 #[.pointer (some ⟨R,0,none⟩),.int .i64 (width:Int)] w fun e w'=>(∃ T x,e=.returned (.tuple #[.int .i64 0,.iface T x]))∧∃ m,w'=w.drewN m:=
 back_no R a cap zs n p width w hn (by omega) (cellRR (j:=0) h.1 rfl) (cellRR (j:=1) h.1 rfl) (cellRR (j:=2) h.1 rfl) s0 s2 (by omega)
theorem backText_short (R g B:Nat) (x:Option Addr) (cx:Nat) (zs:List Int) (N n:Nat) (w0 w:World) (hbel:Below B w0 w) (hN:N<6) (hRD:RD w B R x zs.length cx N N) (s0:Sent w0 17) (s1:Sent w0 18) (hG:17<B∧18<B) :
  Calls Tryz.prog 240 #[.pointer (some ⟨R,0,none⟩),.pointer (some ⟨g,0,none⟩),.int .i64 n] w fun e w'=>Only (fun k=>k=R) w w'∧∃ T' y,e=.returned (.tuple #[.slice none 0 0,.int .i64 0,.iface T' y]):=by
 have S0:Sent w 17:=s0.below hbel hG.1
 have S1:Sent w 18:=s1.below hbel hG.2
 have HB:=hRD.backN 6 (by omega) (by omega) S0 S1 hN
 go_enter Tryz.func240,Tryz.ntmps240
 go_wp2_with fail
 refine HB.mono ?_
 clear HB
 rintro e w1 ⟨⟨T',y,rfl⟩,m,rfl⟩
 go_wp2
 exact bodyPost_ret (v:=.tuple #[.slice none 0 0,.int .i64 0,.iface T' y]) (by simp [results,Tryz.results240,go_sem]) rfl ⟨(Only.refl _ _).drewN m,T',y,rfl⟩
theorem backText_long (R g B:Nat) (x:Option Addr) (cx:Nat) (zs:List Int) (E N v n:Nat) (T:List Int) (L:Nat) (w0 w:World) (hx:Byt w0 x zs) (hB:w0.heap.size=B) (hbel:Below B w0 w) (hz:zs=enc N v) (hN:N≤4096) (hn:n≤300) (hNE:N=E+6) (hGd:Gd T L) (hL:L≤80) (hRD:RD w B R x zs.length cx N N) (hT:w.heap[g]?=some (.cells (cel T) 319 (0,0))) (hgR:g≠R) (s0:Sent w0 17) (s1:Sent w0 18) (hG:17<B∧18<B) :
  Calls Tryz.prog 240 #[.pointer (some ⟨R,0,none⟩),.pointer (some ⟨g,0,none⟩),.int .i64 n] w fun e w'=>Only (fun k=>k=R) w w' ∧
   ((sg T v E n = none ∧ ∃ T' y, e = .returned (.tuple #[.slice none 0 0, .int .i64 0, .iface T' y])) ∨
    (∃ st en gq,sg T v E n=some (st,en)∧e=.returned (.tuple #[.slice (some ⟨gq,0,none⟩) n n,.int .i64 (st:Nat),.nilIface])∧OwI w' w.heap.size gq n (so T v E n)∧RD w' B R x zs.length cx N en)):=by
 obtain ⟨i0,hi,hz0,hz1,hz2⟩:=info_parts Tryz.infoI64
 have HPK:Hid (zs=enc N v∧w0.heap.size=B∧N=E+6∧T.length=192):=⟨hz,hB,hNE,hGd.len⟩
 have HTB:Hid (w.heap[g]?=some (.cells (cel T) 319 (0,0))∧g<w.heap.size):=⟨hT,(Array.getElem?_eq_some_iff.1 hT).1⟩
 have HRL:Hid (R<w.heap.size∧B≤R):=⟨(Array.getElem?_eq_some_iff.1 hRD.1).1,hRD.2.1⟩
 have HBK:=hRD.backY v 6 (by omega) hx hB hbel hz (by omega) nl (by omega)
 have HX:Hid (Byt w0 x zs):=hx
 have HGD:Hid (Gd T L):=hGd
 rw [show N-6=E from by omega,show 2 ^ 6=64 from rfl] at HBK
 have HSN:Hid (Sent w0 17∧Sent w0 18):=⟨s0,s1⟩
 have hE:E≤4096:=by omega
 clear hz hB hNE hT hRD hx hGd s0 s1 hbel
 go_enter Tryz.func240,Tryz.ntmps240
 go_wp2_with fail
 refine HBK.mono ?_
 clear HBK
 rintro e w1 ⟨rfl,hrd1,hon1,hbel1⟩
 have HR1:Hid (RD w1 B R x zs.length cx N E∧Only (fun k=>k=R) w w1∧Below B w0 w1):=⟨hrd1,hon1,hbel1⟩
 have hs1:=hon1.size
 clear hrd1 hon1 hbel1
 go_wp2_with (at_make;refine wpList_make_full _ rfl _ _ 29 rfl w1.heap.size 3 i0 (.int .i64 0) 1 Tryz.underlying29 hi hz0 hz1 .i64 .i64 _ _ n rfl rfl rfl rfl (by rw [hz2];omega) (by unfold maxLen;omega) nl ?_;intro w5 hown hgrow)
 have hbw:Below w1.heap.size w1 w5:=(Below.refl _ _).grown hgrow nl (by intro k hk;cases hk)
 have H0:Hid (OwI w5 w1.heap.size w1.heap.size n ([]++List.replicate n 0)):=by
  rw [List.nil_append]
  refine ⟨?_,by intro z hz;simp at hz;omega⟩
  rw [made_zeroI] at hown
  simpa using hown
 have HR5:Hid (RD w5 B R x zs.length cx N E∧Only (fun k=>k=R) w w5∧Below B w0 w5):=
  ⟨HR1.out.1.only (Only.ofBelow (S:=fun _=>False) hbw nl) (by simp),HR1.out.2.1.trans (Only.ofBelow hbw nl),HR1.out.2.2.trans (hbw.mono HR1.out.1.2.2)⟩
 have HGQ:Hid (w.heap.size≤w1.heap.size):=hs1
 clear HR1 hbw hown hgrow hs1 hi hz0 hz1 hz2
 generalize w1.heap.size=gq at *
 go_loopw [9,28] (fun s i wr=>∃ (k st en:Nat),k≤n∧i=.int .i64 k∧s=.int .i64 st∧sg T v E k=some (st,en)∧OwI wr gq gq n (so T v E k++List.replicate (n-k) 0)∧RD wr B R x zs.length cx N en∧Only (fun k=>k=R) w wr∧Below B w0 wr) (fun _ i _=>n-(intOf i).toNat)
 case atStart=>exact ⟨0,v / 2 ^ E % 64,E,Nat.zero_le _,rfl,by simp,rfl,H0.out,HR5.out.1,HR5.out.2.1,HR5.out.2.2⟩
 case round=>
  clear H0 HR5
  obtain ⟨k,st,en,hk,rfl,rfl,hsg,hown,hrd,hon,hbel⟩:=hrel
  obtain ⟨hst,hen⟩:=sg_rng HGD.out v E k st en hsg
  have HW:Hid (sg T v E k=some (st,en)∧OwI wr gq gq n (so T v E k++List.replicate (n-k) 0)∧RD wr B R x zs.length cx N en∧Only (fun k=>k=R) w wr∧Below B w0 wr):=⟨hsg,hown,hrd,hon,hbel⟩
  have HQL:Hid ((so T v E k).length=k∧True):=⟨so_len _ _ _ _,trivial⟩
  have hgl:=hown.lt.2
  clear hsg hown hrd hon hbel
  by_cases hlt:k<n
  ·obtain ⟨sy,b,z,e1,e2,e3,hsy,hb6,hz64⟩:=HGD.out.cell st hst
   have hTb:wr.heap[g]?=some (.cells (cel T) 319 (0,0)):=(HW.out.2.2.2.1.block g HTB.out.2 hgR).trans HTB.out.1
   have t0:=arr_cell (tb:=T) hTb (st*3) (by rw [HPK.out.2.2.2];omega)
   have t1:=arr_cell (tb:=T) hTb (st*3+1) (by rw [HPK.out.2.2.2];omega)
   have t2:=arr_cell (tb:=T) hTb (st*3+2) (by rw [HPK.out.2.2.2];omega)
   rw [e1] at t0
   rw [e2] at t1
   rw [e3] at t2
   have HCB:Hid (cB T st=b∧cZ T st=z∧T.getD (st*3) 0=(sy:Int)):=⟨by unfold cB;rw [e2,Int.toNat_natCast],by unfold cZ;rw [e3,Int.toNat_natCast],e1⟩
   have hpz:=Nat.pow_pos (n:=b) (show 0<2 by omega)
   have hz63:(z:Int)≤64:=by omega
   have HV:Hid (v / 2 ^ (en-b) % 2 ^ b<64):=by
    have h1:v / 2 ^ (en-b) % 2 ^ b<2 ^ b:=Nat.mod_lt _ (Nat.pow_pos (by omega))
    unfold Hid
    omega
   clear hTb e1 e2 e3 hz64 hpz
   have HRA:Hid (RD (wr.alloc (Obj.cells #[.int .i64 sy,.int .i64 b,.int .i64 z] 247)) B R x zs.length cx N en∧Only (fun k=>k=R) w (wr.alloc (Obj.cells #[.int .i64 sy,.int .i64 b,.int .i64 z] 247))∧Below B w0 (wr.alloc (Obj.cells #[.int .i64 sy,.int .i64 b,.int .i64 z] 247))∧OwI (wr.alloc (Obj.cells #[.int .i64 sy,.int .i64 b,.int .i64 z] 247)) gq gq n (so T v E k++List.replicate (n-k) 0)):=
    ⟨HW.out.2.2.1.only (Only.alloc (Only.refl (fun _=>False) _) _) (by simp),HW.out.2.2.2.1.alloc _,HW.out.2.2.2.2.alloc HW.out.2.2.1.2.2 _,HW.out.2.1.alloc _⟩
   have HRb:Hid (R<wr.heap.size):=(Array.getElem?_eq_some_iff.1 HW.out.2.2.1.1).1
   by_cases hbe:en<b
   ·have HNO:Hid (sg T v E n=none∧True):=⟨sg_none (sg_stop HW.out.1 (by rw [HCB.out.1];exact hbe)) n (by omega),trivial⟩
    have HBK:=HRA.out.1.backN b (by omega) (by omega) (HSN.out.1.below HRA.out.2.2.1 hG.1) (HSN.out.2.below HRA.out.2.2.1 hG.2) hbe
    have HOA:Hid (Only (fun k=>k=R) w (wr.alloc (Obj.cells #[.int .i64 sy,.int .i64 b,.int .i64 z] 247))∧True):=⟨HRA.out.2.1,trivial⟩
    clear HW HRA
    go_wp2_with fail
    refine HBK.mono ?_
    clear HBK
    rintro e w6 ⟨⟨T',y,rfl⟩,m,rfl⟩
    go_wp2
    exact bodyPost_ret (v:=.tuple #[.slice none 0 0,.int .i64 0,.iface T' y]) (by simp [results,Tryz.results240,go_sem]) rfl ⟨HOA.out.1.drewN m,.inl ⟨HNO.out.1,T',y,rfl⟩⟩
   ·have HSG2:Hid (sg T v E (k+1)=some (z+v / 2 ^ (en-b) % 2 ^ b,en-b)∧so T v E (k+1)=so T v E k++[(sy:Int)]):=by
     have h1:=sg_step HW.out.1 (show ¬en<cB T st by rw [HCB.out.1];exact hbe)
     have h2:=so_step HW.out.1
     rw [HCB.out.1,HCB.out.2.1] at h1
     rw [HCB.out.2.2] at h2
     exact ⟨h1,h2⟩
    have HBK:=HRA.out.1.backY v b (by omega) HX.out HPK.out.2.1 HRA.out.2.2.1 HPK.out.1 (by omega) (by have:=HPK.out.2.2.1;omega) (by omega)
    obtain ⟨Xn,hXn⟩:∃ Xn,Xn=v / 2 ^ (en-b) % 2 ^ b:=⟨_,rfl⟩
    rw [←hXn] at HSG2 HV HBK
    have hX64:(Xn:Int)<64:=by have:=HV.out;omega
    have HCC:Hid ((wr.alloc (Obj.cells #[.int .i64 sy,.int .i64 b,.int .i64 z] 247)).cell? ⟨wr.heap.size,0,none⟩=some (.int .i64 sy)∧(wr.alloc (Obj.cells #[.int .i64 sy,.int .i64 b,.int .i64 z] 247)).cell? ⟨wr.heap.size,2,none⟩=some (.int .i64 z)∧wr.heap.size<(wr.alloc (Obj.cells #[.int .i64 sy,.int .i64 b,.int .i64 z] 247)).heap.size):=⟨by simp,by simp,by simp⟩
    clear hXn HV HW
    go_wp2_with fail
    refine HBK.mono ?_
    clear HBK t0 t1 t2
    rintro e w6 ⟨rfl,hrd6,hon6,hbel6⟩
    have q0:w6.cell? ⟨wr.heap.size,0,none⟩=some (.int .i64 sy):=hon6.cell HCC.out.2.2 (by have:=HRb.out;omega) HCC.out.1
    have q2:w6.cell? ⟨wr.heap.size,2,none⟩=some (.int .i64 z):=hon6.cell HCC.out.2.2 (by have:=HRb.out;omega) HCC.out.2.1
    have ho6:OwI w6 gq gq n (so T v E k++List.replicate (n-k) 0):=HRA.out.2.2.2.only hon6 (by have:=HRL.out;have:=HGQ.out;omega)
    have hll:(so T v E k++List.replicate (n-k) 0).length=n:=by rw [List.length_append,List.length_replicate,HQL.out.1];omega
    have hdst:=ho6.cell k (by rw [hll];exact hlt)
    have hfz:=ho6.frozen k
    have hset:(so T v E k++List.replicate (n-k) (0:Int)).set k (sy:Int)=so T v E (k+1)++List.replicate (n-(k+1)) 0:=by
     rw [HSG2.out.2,List.set_append_right _ _ (by rw [HQL.out.1];exact Nat.le_refl _),HQL.out.1,Nat.sub_self,show n-k=(n-(k+1))+1 from by omega,List.replicate_succ,List.set_cons_zero,List.append_assoc]
     rfl
    have hR7:=ho6.store k (sy:Int) (by omega)
    rw [hset] at hR7
    have HF:Hid (OwI (w6.setCell ⟨gq,k,none⟩ (.int .i64 (sy:Int))) gq gq n (so T v E (k+1)++List.replicate (n-(k+1)) 0)∧RD (w6.setCell ⟨gq,k,none⟩ (.int .i64 (sy:Int))) B R x zs.length cx N (en-b)∧Only (fun k=>k=R) w (w6.setCell ⟨gq,k,none⟩ (.int .i64 (sy:Int)))∧Below B w0 (w6.setCell ⟨gq,k,none⟩ (.int .i64 (sy:Int)))):=by
     have hgR2:gq≠R:=by have:=HRL.out;have:=HGQ.out;omega
     refine ⟨hR7,hrd6.only (Only.setCell (Only.refl (fun b=>b=gq) w6) (p:=⟨gq,k,none⟩) (.inl rfl) _) hgR2.symm,(HRA.out.2.1.trans hon6).setCell (.inr HGQ.out) _,hbel6.setCell (p:=⟨gq,k,none⟩) (by have:=HRL.out;have:=HGQ.out;simp;omega) _⟩
    clear hR7 hset hll hrd6 hon6 hbel6 ho6 HRA HCC
    generalize (so T v E k++List.replicate (n-k) 0).getD k 0=old at *
    generalize wr.heap.size=cb at *
    go_wp2
    go_roundw
    case rel=>exact ⟨k+1,z+Xn,en-b,by omega,by go_num,by go_num,HSG2.out.1,HF.out.1,HF.out.2.1,HF.out.2.2.1,HF.out.2.2.2⟩
    case measure=>simp [intOf];omega
  ·have hkn:k=n:=by omega
   subst hkn
   have HFI:Hid (OwI wr w.heap.size gq k (so T v E k)):=by
    have:=HW.out.2.1
    rw [Nat.sub_self] at this
    simp only [List.replicate_zero,List.append_nil] at this
    exact this.mono HGQ.out
   go_wp2
   refine bodyPost_ret (v:=.tuple #[.slice (some ⟨gq,0,none⟩) k k,.int .i64 (st:Nat),.nilIface]) (by simp [results,Tryz.results240,go_sem]) rfl ?_
   exact ⟨HW.out.2.2.2.1,.inr ⟨st,en,gq,HW.out.1,rfl,HFI.out,HW.out.2.2.1⟩⟩
end Go.Proofs.YtaibkchbkedjnaaGreatDoor
