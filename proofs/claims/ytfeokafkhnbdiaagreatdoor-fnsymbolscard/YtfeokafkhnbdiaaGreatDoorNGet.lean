/- Lemmas on the way. -/
import Derived.Test.YtfeokafkhnbdiaaGreatDoorFp1
import Derived.Test.YtfeokafkhnbdiaaGreatDoorNPut
import Derived.Test.YtfeokafkhnbdiaaGreatDoorBackR
import Derived.Test.YtfeokafkhnbdiaaGreatDoorSy1
import Derived.Test.YtfeokafkhnbdiaaGreatDoorLzM
import Derived.Test.YtfeokafkhnbdiaaGreatDoorHGet3
import Derived.Test.YtfeokafkhnbdiaaGreatDoorArR
import Derived.Test.YtfeokafkhnbdiaaGreatDoorINorm3
set_option maxRecDepth 20000
set_option maxHeartbeats 16000000
namespace Go.Proofs.YtfeokafkhnbdiaaGreatDoor
open Go.RowKit
set_option linter.unusedVariables false
theorem RD.backY {w0 w:World} {B R:Nat} {a:Option Addr} {zs:List Int} {cap n p:Nat} (h:RD w B R a zs.length cap n p) (v:Nat) (width:Nat) (hn:n≤4104) (hb:Byt w0 a zs) (hB:w0.heap.size=B) (hbel:Below B w0 w) (hz:zs=enc n v) (k2:width≤30) (k3:p≤n) (k4:width≤p) :
  Calls Tryz.prog 163 #[.pointer (some ⟨R,0,none⟩),.int .i64 (width:Int)] w fun e w'=>
   e=.returned (.tuple #[.int .i64 (v / 2 ^ (p-width) % 2 ^ width:Nat),.nilIface])∧RD w' B R a zs.length cap n (p-width)∧Only (fun k=>k=R) w w'∧Below B w0 w':=by
 have hby:∀ m x,Byt ((w.drewN m).setCell ⟨R,2,none⟩ x) a zs:=fun m x=>hb.below ((show Below B w0 (w.drewN m) from ⟨hbel.os,hbel.tape,hbel.output,hbel.size,hbel.block⟩).setCell (p:=⟨R,2,none⟩) h.2.1 x) (by rw [hB];exact Nat.le_refl _)
 refine (back_yes R a cap zs n v p width w hn hby hz (cellRR (j:=0) h.1 rfl) (cellRR (j:=1) h.1 rfl) (cellRR (j:=2) h.1 rfl) (h.frz 2) (by omega) (by omega) (by omega) (by omega)).mono ?_
 rintro e w' ⟨rfl,m,rfl⟩
 have hR:(w.drewN m).heap[R]?=some (.cells #[.slice a zs.length cap,.int .i64 n,.int .i64 p] 109 (0,0)):=h.1
 have hO:Only (fun k=>k=R) w ((w.drewN m).setCell ⟨R,2,none⟩ (.int .i64 ((p:Int)-width))):=by
  have h0:Only (fun k=>k=R) w (w.drewN m):=Only.ofBelow (S:=fun k=>k=R) (B:=w.heap.size) ⟨rfl,rfl,rfl,Nat.le_refl _,fun _ _=>rfl⟩ nl
  exact Only.setCell h0 (p:=⟨R,2,none⟩) (.inl rfl) _
 refine ⟨by rw [show ((p:Int)-(width:Int)).toNat=p-width from by omega,Int.toNat_natCast],⟨?_,h.2.1,Nat.le_trans h.2.2 hO.size⟩,hO,hbel.trans (hO.below h.2.2 (fun k hk=>by rw [hk];exact h.2.1))⟩
 rw [heap_setCell_same _ R 2 _ _ _ hR]
 have e:((p:Int)-(width:Int))=((p-width:Nat):Int):=by omega
 rw [e]
 simp
theorem RD.backN {w:World} {B R:Nat} {a:Option Addr} {zs:List Int} {cap n p:Nat} (h:RD w B R a zs.length cap n p) (width:Nat) (hn:n≤4104) (hp:p≤4104) (s0:Sent w 5) (s2:Sent w 11) (k4:p<width) :
  Calls Tryz.prog 163 #[.pointer (some ⟨R,0,none⟩),.int .i64 (width:Int)] w fun e w'=>(∃ T x,e=.returned (.tuple #[.int .i64 0,.iface T x]))∧∃ m,w'=w.drewN m:=
 back_no R a cap zs n p width w hn (by omega) (cellRR (j:=0) h.1 rfl) (cellRR (j:=1) h.1 rfl) (cellRR (j:=2) h.1 rfl) s0 s2 (by omega)
theorem backText_short (R g B:Nat) (x:Option Addr) (cx:Nat) (zs:List Int) (N n:Nat) (w0 w:World) (hbel:Below B w0 w) (hN:N<6) (hRD:RD w B R x zs.length cx N N) (s0:Sent w0 5) (s1:Sent w0 11) (hG:5<B∧11<B) :
  Calls Tryz.prog 162 #[.pointer (some ⟨R,0,none⟩),.pointer (some ⟨g,0,none⟩),.int .i64 n] w fun e w'=>Only (fun k=>k=R) w w'∧∃ T' y,e=.returned (.tuple #[.slice none 0 0,.int .i64 0,.iface T' y]):=by
 have S0:Sent w 5:=s0.below hbel hG.1
 have S1:Sent w 11:=s1.below hbel hG.2
 have HB:=hRD.backN 6 (by omega) (by omega) S0 S1 hN
 go_enter Tryz.func162,Tryz.ntmps162
 go_wp2_with fail
 refine HB.mono ?_
 clear HB
 rintro e w1 ⟨⟨T',y,rfl⟩,m,rfl⟩
 go_wp2
 exact bodyPost_ret (v:=.tuple #[.slice none 0 0,.int .i64 0,.iface T' y]) (by simp [results,Tryz.results162,go_sem]) rfl ⟨(Only.refl _ _).drewN m,T',y,rfl⟩
theorem backText_long (R g B:Nat) (x:Option Addr) (cx:Nat) (zs:List Int) (E N v n:Nat) (T:List Int) (L:Nat) (w0 w:World) (hx:Byt w0 x zs) (hB:w0.heap.size=B) (hbel:Below B w0 w) (hz:zs=enc N v) (hN:N≤4096) (hn:n≤300) (hNE:N=E+6) (hGd:Gd T L) (hL:L≤80) (hRD:RD w B R x zs.length cx N N) (hT:w.heap[g]?=some (.cells (cel T) 179 (0,0))) (hgR:g≠R) (s0:Sent w0 5) (s1:Sent w0 11) (hG:5<B∧11<B) :
  Calls Tryz.prog 162 #[.pointer (some ⟨R,0,none⟩),.pointer (some ⟨g,0,none⟩),.int .i64 n] w fun e w'=>Only (fun k=>k=R) w w' ∧
   ((sg T v E n = none ∧ ∃ T' y, e = .returned (.tuple #[.slice none 0 0, .int .i64 0, .iface T' y])) ∨
    (∃ st en gq,sg T v E n=some (st,en)∧e=.returned (.tuple #[.slice (some ⟨gq,0,none⟩) n n,.int .i64 (st:Nat),.nilIface])∧OwI w' w.heap.size gq n (so T v E n)∧RD w' B R x zs.length cx N en)):=by
 obtain ⟨i0,hi,hz0,hz1,hz2⟩:=info_parts Tryz.infoI64
 have HPK:Hid (zs=enc N v∧w0.heap.size=B∧N=E+6∧T.length=192):=⟨hz,hB,hNE,hGd.len⟩
 have HTB:Hid (w.heap[g]?=some (.cells (cel T) 179 (0,0))∧g<w.heap.size):=⟨hT,(Array.getElem?_eq_some_iff.1 hT).1⟩
 have HRL:Hid (R<w.heap.size∧B≤R):=⟨(Array.getElem?_eq_some_iff.1 hRD.1).1,hRD.2.1⟩
 have HBK:=hRD.backY v 6 (by omega) hx hB hbel hz (by omega) nl (by omega)
 have HX:Hid (Byt w0 x zs):=hx
 have HGD:Hid (Gd T L):=hGd
 rw [show N-6=E from by omega,show 2 ^ 6=64 from rfl] at HBK
 have HSN:Hid (Sent w0 5∧Sent w0 11):=⟨s0,s1⟩
 have hE:E≤4096:=by omega
 clear hz hB hNE hT hRD hx hGd s0 s1 hbel
 go_enter Tryz.func162,Tryz.ntmps162
 go_wp2_with fail
 refine HBK.mono ?_
 clear HBK
 rintro e w1 ⟨rfl,hrd1,hon1,hbel1⟩
 have HR1:Hid (RD w1 B R x zs.length cx N E∧Only (fun k=>k=R) w w1∧Below B w0 w1):=⟨hrd1,hon1,hbel1⟩
 have hs1:=hon1.size
 clear hrd1 hon1 hbel1
 go_wp2_with (at_make;refine wpList_make_full _ rfl _ _ 38 rfl w1.heap.size 3 i0 (.int .i64 0) 1 Tryz.underlying38 hi hz0 hz1 .i64 .i64 _ _ n rfl rfl rfl rfl (by rw [hz2];omega) (by unfold maxLen;omega) nl ?_;intro w5 hown hgrow)
 have hbw:Below w1.heap.size w1 w5:=(Below.refl _ _).grown hgrow nl (by intro k hk;cases hk)
 have H0:Hid (OwI w5 w1.heap.size w1.heap.size n ([]++List.replicate n 0)):=by
  rw [List.nil_append]
  refine ⟨?_,by intro z hz;simp at hz;omega⟩
  rw [made_zeroI] at hown
  simpa using hown
 have HR5:Hid (RD w5 B R x zs.length cx N E∧Only (fun k=>k=R) w w5∧Below B w0 w5):=
  ⟨HR1.out.1.only (Only.ofBelow (S:=fun _=>False) hbw nl) (by simp),HR1.out.2.1.trans (Only.ofBelow hbw nl),HR1.out.2.2.trans (hbw.mono HR1.out.1.2.2)⟩
 have HGQ:Hid (w.heap.size≤w1.heap.size):=hs1
 clear HR1 hbw hown hgrow hs1 hi hz0 hz1 hz2
 generalize w1.heap.size=gq at *
 go_loopw [9,28] (fun s i wr=>∃ (k st en:Nat),k≤n∧i=.int .i64 k∧s=.int .i64 st∧sg T v E k=some (st,en)∧OwI wr gq gq n (so T v E k++List.replicate (n-k) 0)∧RD wr B R x zs.length cx N en∧Only (fun k=>k=R) w wr∧Below B w0 wr) (fun _ i _=>n-(intOf i).toNat)
 case atStart=>exact ⟨0,v / 2 ^ E % 64,E,Nat.zero_le _,rfl,by simp,rfl,H0.out,HR5.out.1,HR5.out.2.1,HR5.out.2.2⟩
 case round=>
  clear H0 HR5
  obtain ⟨k,st,en,hk,rfl,rfl,hsg,hown,hrd,hon,hbel⟩:=hrel
  obtain ⟨hst,hen⟩:=sg_rng HGD.out v E k st en hsg
  have HW:Hid (sg T v E k=some (st,en)∧OwI wr gq gq n (so T v E k++List.replicate (n-k) 0)∧RD wr B R x zs.length cx N en∧Only (fun k=>k=R) w wr∧Below B w0 wr):=⟨hsg,hown,hrd,hon,hbel⟩
  have HQL:Hid ((so T v E k).length=k∧True):=⟨so_len _ _ _ _,trivial⟩
  have hgl:=hown.lt.2
  clear hsg hown hrd hon hbel
  by_cases hlt:k<n
  ·obtain ⟨sy,b,z,e1,e2,e3,hsy,hb6,hz64⟩:=HGD.out.cell st hst
   have hTb:wr.heap[g]?=some (.cells (cel T) 179 (0,0)):=(HW.out.2.2.2.1.block g HTB.out.2 hgR).trans HTB.out.1
   have t0:=arr_cell (tb:=T) hTb (st*3) (by rw [HPK.out.2.2.2];omega)
   have t1:=arr_cell (tb:=T) hTb (st*3+1) (by rw [HPK.out.2.2.2];omega)
   have t2:=arr_cell (tb:=T) hTb (st*3+2) (by rw [HPK.out.2.2.2];omega)
   rw [e1] at t0
   rw [e2] at t1
   rw [e3] at t2
   have HCB:Hid (cB T st=b∧cZ T st=z∧T.getD (st*3) 0=(sy:Int)):=⟨by unfold cB;rw [e2,Int.toNat_natCast],by unfold cZ;rw [e3,Int.toNat_natCast],e1⟩
   have hpz:=Nat.pow_pos (n:=b) (show 0<2 by omega)
   have hz63:(z:Int)≤64:=by omega
   have HV:Hid (v / 2 ^ (en-b) % 2 ^ b<64):=by
    have h1:v / 2 ^ (en-b) % 2 ^ b<2 ^ b:=Nat.mod_lt _ (Nat.pow_pos (by omega))
    unfold Hid
    omega
   clear hTb e1 e2 e3 hz64 hpz
   have HRA:Hid (RD (wr.alloc (Obj.cells #[.int .i64 sy,.int .i64 b,.int .i64 z] 177)) B R x zs.length cx N en∧Only (fun k=>k=R) w (wr.alloc (Obj.cells #[.int .i64 sy,.int .i64 b,.int .i64 z] 177))∧Below B w0 (wr.alloc (Obj.cells #[.int .i64 sy,.int .i64 b,.int .i64 z] 177))∧OwI (wr.alloc (Obj.cells #[.int .i64 sy,.int .i64 b,.int .i64 z] 177)) gq gq n (so T v E k++List.replicate (n-k) 0)):=
    ⟨HW.out.2.2.1.only (Only.alloc (Only.refl (fun _=>False) _) _) (by simp),HW.out.2.2.2.1.alloc _,HW.out.2.2.2.2.alloc HW.out.2.2.1.2.2 _,HW.out.2.1.alloc _⟩
   have HRb:Hid (R<wr.heap.size):=(Array.getElem?_eq_some_iff.1 HW.out.2.2.1.1).1
   by_cases hbe:en<b
   ·have HNO:Hid (sg T v E n=none∧True):=⟨sg_none (sg_stop HW.out.1 (by rw [HCB.out.1];exact hbe)) n (by omega),trivial⟩
    have HBK:=HRA.out.1.backN b (by omega) (by omega) (HSN.out.1.below HRA.out.2.2.1 hG.1) (HSN.out.2.below HRA.out.2.2.1 hG.2) hbe
    have HOA:Hid (Only (fun k=>k=R) w (wr.alloc (Obj.cells #[.int .i64 sy,.int .i64 b,.int .i64 z] 177))∧True):=⟨HRA.out.2.1,trivial⟩
    clear HW HRA
    go_wp2_with fail
    refine HBK.mono ?_
    clear HBK
    rintro e w6 ⟨⟨T',y,rfl⟩,m,rfl⟩
    go_wp2
    exact bodyPost_ret (v:=.tuple #[.slice none 0 0,.int .i64 0,.iface T' y]) (by simp [results,Tryz.results162,go_sem]) rfl ⟨HOA.out.1.drewN m,.inl ⟨HNO.out.1,T',y,rfl⟩⟩
   ·have HSG2:Hid (sg T v E (k+1)=some (z+v / 2 ^ (en-b) % 2 ^ b,en-b)∧so T v E (k+1)=so T v E k++[(sy:Int)]):=by
     have h1:=sg_step HW.out.1 (show ¬en<cB T st by rw [HCB.out.1];exact hbe)
     have h2:=so_step HW.out.1
     rw [HCB.out.1,HCB.out.2.1] at h1
     rw [HCB.out.2.2] at h2
     exact ⟨h1,h2⟩
    have HBK:=HRA.out.1.backY v b (by omega) HX.out HPK.out.2.1 HRA.out.2.2.1 HPK.out.1 (by omega) (by have:=HPK.out.2.2.1;omega) (by omega)
    obtain ⟨Xn,hXn⟩:∃ Xn,Xn=v / 2 ^ (en-b) % 2 ^ b:=⟨_,rfl⟩
    rw [←hXn] at HSG2 HV HBK
    have hX64:(Xn:Int)<64:=by have:=HV.out;omega
    have HCC:Hid ((wr.alloc (Obj.cells #[.int .i64 sy,.int .i64 b,.int .i64 z] 177)).cell? ⟨wr.heap.size,0,none⟩=some (.int .i64 sy)∧(wr.alloc (Obj.cells #[.int .i64 sy,.int .i64 b,.int .i64 z] 177)).cell? ⟨wr.heap.size,2,none⟩=some (.int .i64 z)∧wr.heap.size<(wr.alloc (Obj.cells #[.int .i64 sy,.int .i64 b,.int .i64 z] 177)).heap.size):=⟨by simp,by simp,by simp⟩
    clear hXn HV HW
    go_wp2_with fail
    refine HBK.mono ?_
    clear HBK t0 t1 t2
    rintro e w6 ⟨rfl,hrd6,hon6,hbel6⟩
    have q0:w6.cell? ⟨wr.heap.size,0,none⟩=some (.int .i64 sy):=hon6.cell HCC.out.2.2 (by have:=HRb.out;omega) HCC.out.1
    have q2:w6.cell? ⟨wr.heap.size,2,none⟩=some (.int .i64 z):=hon6.cell HCC.out.2.2 (by have:=HRb.out;omega) HCC.out.2.1
    have ho6:OwI w6 gq gq n (so T v E k++List.replicate (n-k) 0):=HRA.out.2.2.2.only hon6 (by have:=HRL.out;have:=HGQ.out;omega)
    have hll:(so T v E k++List.replicate (n-k) 0).length=n:=by rw [List.length_append,List.length_replicate,HQL.out.1];omega
    have hdst:=ho6.cell k (by rw [hll];exact hlt)
    have hfz:=ho6.frozen k
    have hset:(so T v E k++List.replicate (n-k) (0:Int)).set k (sy:Int)=so T v E (k+1)++List.replicate (n-(k+1)) 0:=by
     rw [HSG2.out.2,List.set_append_right _ _ (by rw [HQL.out.1];exact Nat.le_refl _),HQL.out.1,Nat.sub_self,show n-k=(n-(k+1))+1 from by omega,List.replicate_succ,List.set_cons_zero,List.append_assoc]
     rfl
    have hR7:=ho6.store k (sy:Int) (by omega)
    rw [hset] at hR7
    have HF:Hid (OwI (w6.setCell ⟨gq,k,none⟩ (.int .i64 (sy:Int))) gq gq n (so T v E (k+1)++List.replicate (n-(k+1)) 0)∧RD (w6.setCell ⟨gq,k,none⟩ (.int .i64 (sy:Int))) B R x zs.length cx N (en-b)∧Only (fun k=>k=R) w (w6.setCell ⟨gq,k,none⟩ (.int .i64 (sy:Int)))∧Below B w0 (w6.setCell ⟨gq,k,none⟩ (.int .i64 (sy:Int)))):=by
     have hgR2:gq≠R:=by have:=HRL.out;have:=HGQ.out;omega
     refine ⟨hR7,hrd6.only (Only.setCell (Only.refl (fun b=>b=gq) w6) (p:=⟨gq,k,none⟩) (.inl rfl) _) hgR2.symm,(HRA.out.2.1.trans hon6).setCell (.inr HGQ.out) _,hbel6.setCell (p:=⟨gq,k,none⟩) (by have:=HRL.out;have:=HGQ.out;simp;omega) _⟩
    clear hR7 hset hll hrd6 hon6 hbel6 ho6 HRA HCC
    generalize (so T v E k++List.replicate (n-k) 0).getD k 0=old at *
    generalize wr.heap.size=cb at *
    go_wp2
    go_roundw
    case rel=>exact ⟨k+1,z+Xn,en-b,by omega,by go_num,by go_num,HSG2.out.1,HF.out.1,HF.out.2.1,HF.out.2.2.1,HF.out.2.2.2⟩
    case measure=>simp [intOf];omega
  ·have hkn:k=n:=by omega
   subst hkn
   have HFI:Hid (OwI wr w.heap.size gq k (so T v E k)):=by
    have:=HW.out.2.1
    rw [Nat.sub_self] at this
    simp only [List.replicate_zero,List.append_nil] at this
    exact this.mono HGQ.out
   go_wp2
   refine bodyPost_ret (v:=.tuple #[.slice (some ⟨gq,0,none⟩) k k,.int .i64 (st:Nat),.nilIface]) (by simp [results,Tryz.results162,go_sem]) rfl ?_
   exact ⟨HW.out.2.2.2.1,.inr ⟨st,en,gq,HW.out.1,rfl,HFI.out,HW.out.2.2.1⟩⟩
structure SentF (w:World):Prop where
 s0:Sent w 5
 s1:Sent w 11
 s2:Sent w 16
 hG:5<w.heap.size∧11<w.heap.size∧16<w.heap.size
theorem SentF.below {w w':World} (h:SentF w) (hb:Below w.heap.size w w'):SentF w':=
 ⟨h.s0.below hb h.hG.1,h.s1.below hb h.hG.2.1,h.s2.below hb h.hG.2.2,by have:=hb.size;have:=h.hG;omega⟩
theorem below_dF {B:Nat} {a b:World} (h:Below B a b) (n:Nat):Below B a (b.drewN n):=⟨h.os,h.tape,h.output,h.size,h.block⟩
theorem fgB_shortF {T:List Int} {v N n:Nat} (h:N<6):fgB T v N n=false:=by
 unfold fgB
 rw [decide_eq_false_iff_not]
 omega
theorem fgB_longF {T:List Int} {v E n:Nat}:fgB T v (E+6) n=decide (sg T v E n=some (0,0)):=by unfold fgB;simp
theorem wholeText_any (a:Option Addr) (ca:Nat) (ls:List Int) (x:Option Addr) (cx:Nat) (zs:List Int) (N v n:Nat) (T:List Int) (w:World) (ha:Ins w a ls) (hx:Byt w x zs) (hz:zs=enc N v) (hN:N≤4096) (hn:n≤300) (hnb:normB ls=true) (hTe:tb (pl (fl 0 ls) (plc 64)) ls 64=T) (hS:SentF w) :
  Calls Tryz.prog 157 #[.slice a ls.length ca,.agg #[.slice x zs.length cx,.int .i64 N],.int .i64 n] w fun e w'=>Below w.heap.size w w' ∧
   ((fgB T v N n = false ∧ ∃ T' y, e = .returned (.tuple #[.slice none 0 0, .iface T' y])) ∨
    (fgB T v N n=true∧∃ gq,e=.returned (.tuple #[.slice (some ⟨gq,0,none⟩) n n,.nilIface])∧OwI w' w.heap.size gq n (so T v (N-6) n))):=by
 have hw:Below w.heap.size w (w.alloc (Obj.cells #[.slice x zs.length cx,.int .i64 N] 40)):=bAw
 have hbd:=normB_bnd hnb
 have hw2:Below (w.alloc (Obj.cells #[.slice x zs.length cx,.int .i64 N] 40)).heap.size (w.alloc (Obj.cells #[.slice x zs.length cx,.int .i64 N] 40)) ((w.alloc (Obj.cells #[.slice x zs.length cx,.int .i64 N] 40)).alloc (Obj.cells #[.slice x zs.length cx,.int .i64 N,.int .i64 N] 109)):=bAw
 have HRN:Hid (((w.alloc (Obj.cells #[.slice x zs.length cx,.int .i64 N] 40)).alloc (Obj.cells #[.slice x zs.length cx,.int .i64 N,.int .i64 N] 109)).heap[w.heap.size+1]?=some (.cells #[.slice x zs.length cx,.int .i64 N,.int .i64 N] 109 (0,0))∧(w.alloc (Obj.cells #[.slice x zs.length cx,.int .i64 N] 40)).heap.size=w.heap.size+1∧((w.alloc (Obj.cells #[.slice x zs.length cx,.int .i64 N] 40)).alloc (Obj.cells #[.slice x zs.length cx,.int .i64 N,.int .i64 N] 109)).heap.size=w.heap.size+2):=by
  have:=heap_alloc_new (w.alloc (Obj.cells #[.slice x zs.length cx,.int .i64 N] 40)) (Obj.cells #[.slice x zs.length cx,.int .i64 N,.int .i64 N] 109)
  rw [World.size_alloc] at this
  exact ⟨this,by simp,by simp⟩
 have HX0:Hid (Byt (w.alloc (Obj.cells #[.slice x zs.length cx,.int .i64 N] 40)) x zs):=hx.alloc _
 have HCO:=cellsOf_any a ca ls _ ((ha.below hw nl).below hw2 nl) hnb
 have HS1:Hid (SentF (w.alloc (Obj.cells #[.slice x zs.length cx,.int .i64 N] 40))):=hS.below hw
 have HGD:Hid (Gd T ls.length):=by unfold Hid;rw [←hTe];exact gd_tb hnb
 rw [hTe] at HCO
 have HPK:Hid (zs=enc N v∧True):=⟨hz,trivial⟩
 have HBW:Hid (_∧_):=⟨hw,hw2⟩
 clear hz hTe hnb hw hw2 hx ha hS
 go_enter Tryz.func157,Tryz.ntmps157
 go_wp2_with fail
 generalize w.alloc (Obj.cells #[.slice x zs.length cx,.int .i64 N] 40)=W0 at *
 generalize W0.alloc (Obj.cells #[.slice x zs.length cx,.int .i64 N,.int .i64 N] 109)=W1 at *
 refine HCO.mono ?_
 clear HCO
 rintro e w2 ⟨g,rfl,hg,hTg,hb2⟩
 have hTg':w2.heap[g]?=some (.cells (cel T) 179 (0,0)):=hTg
 have hs2:=hb2.size
 have HR2:Hid (RD w2 W0.heap.size (w.heap.size+1) x zs.length cx N N∧Below W0.heap.size W0 w2∧Below w.heap.size w w2):=by
  have h1:=HRN.out.2.1
  have h2:=HRN.out.2.2
  have hb02:=HBW.out.2.trans (hb2.mono (show W0.heap.size≤W1.heap.size by omega))
  exact ⟨⟨(hb2.block (w.heap.size+1) (by omega)).trans HRN.out.1,by omega,by omega⟩,hb02,HBW.out.1.trans (hb02.mono (by omega))⟩
 have HTG:Hid (w2.heap[g]?=some (.cells (cel T) 179 (0,0))∧g≠w.heap.size+1):=⟨hTg',by have:=HRN.out.2.2;omega⟩
 have HSS:Hid (w.heap.size+1≤w2.heap.size∧W0.heap.size=w.heap.size+1):=⟨by have:=HRN.out.2.2;omega,HRN.out.2.1⟩
 clear hTg hTg' hb2 hg hs2 HRN HBW
 by_cases h6:N<6
 ·have HBT:=backText_short (w.heap.size+1) g W0.heap.size x cx zs N n W0 w2 HR2.out.2.1 h6 HR2.out.1 HS1.out.s0 HS1.out.s1 ⟨HS1.out.hG.1,HS1.out.hG.2.1⟩
  go_wp2_with fail
  refine HBT.mono ?_
  clear HBT
  rintro e w3 ⟨hon,T',y,rfl⟩
  have HB3:Hid (Below w.heap.size w w3∧True):=⟨HR2.out.2.2.trans (hon.below (by have:=HSS.out.1;omega) (fun k hk=>by omega)),trivial⟩
  have HF:Hid (fgB T v N n=false∧True):=⟨fgB_shortF h6,trivial⟩
  clear hon HR2 HTG
  go_wp2
  go_ret2
  exact ⟨HB3.out.1,.inl ⟨HF.out.1,T',y,rfl⟩⟩
 ·obtain ⟨E,hE⟩:∃ E,N=E+6:=⟨N-6,by omega⟩
  have HNE:Hid (N=E+6∧N-6=E):=⟨hE,by omega⟩
  have HBT:=backText_long (w.heap.size+1) g W0.heap.size x cx zs E N v n T ls.length W0 w2 HX0.out rfl HR2.out.2.1 HPK.out.1 hN hn hE HGD.out (by omega) HR2.out.1 HTG.out.1 HTG.out.2 HS1.out.s0 HS1.out.s1 ⟨HS1.out.hG.1,HS1.out.hG.2.1⟩
  have HF:Hid (fgB T v N n=decide (sg T v E n=some (0,0))∧True):=⟨by rw [hE];exact fgB_longF,trivial⟩
  clear hE h6
  go_wp2_with fail
  refine HBT.mono ?_
  clear HBT
  rintro e w3 ⟨hon,⟨hno,T',y,rfl⟩ | ⟨st,en,gq,hsg,rfl,how,hrd⟩⟩
  ·have HB3:Hid (Below w.heap.size w w3∧True):=⟨HR2.out.2.2.trans (hon.below (by have:=HSS.out.1;omega) (fun k hk=>by omega)),trivial⟩
   have HF2:Hid (fgB T v N n=false∧True):=⟨by rw [HF.out.1,hno];rfl,trivial⟩
   clear hon HR2 HTG hno HF
   go_wp2
   go_ret2
   exact ⟨HB3.out.1,.inl ⟨HF2.out.1,T',y,rfl⟩⟩
  ·have HB3:Hid (Below w.heap.size w w3∧True):=⟨HR2.out.2.2.trans (hon.below (by have:=HSS.out.1;omega) (fun k hk=>by omega)),trivial⟩
   have c2:w3.cell? ⟨w.heap.size+1,2,none⟩=some (.int .i64 en):=cellRR (j:=2) hrd.1 rfl
   have hS3:=HS1.out.below (HR2.out.2.1.trans (hon.below (by have:=HSS.out;omega) (fun k hk=>by have:=HSS.out;omega)))
   have HOW:Hid (OwI w3 w.heap.size gq n (so T v E n)):=how.mono (by have:=HSS.out.1;omega)
   have HSG:Hid (sg T v E n=some (st,en)∧True):=⟨hsg,trivial⟩
   obtain ⟨Te,ye,hce⟩:=hS3.s2
   clear hon hrd how HR2 HTG hsg hS3
   by_cases h1:st=0
   ·by_cases h2:en=0
    ·have HF2:Hid (fgB T v N n=true∧True):=⟨by rw [HF.out.1,HSG.out.1,h1,h2];rfl,trivial⟩
     subst h1 h2
     clear HSG HF
     go_wp2
     go_ret2
     exact ⟨HB3.out.1,.inr ⟨HF2.out.1,gq,rfl,by rw [HNE.out.2];exact HOW.out⟩⟩
    ·have HF2:Hid (fgB T v N n=false∧True):=⟨by rw [HF.out.1,HSG.out.1];simp;omega,trivial⟩
     have h2i:((en:Int) != 0)=true:=by simp;omega
     subst h1
     clear HSG HF
     go_wp2
     go_quiet (fail)
     go_wp2
     go_ret2
     exact ⟨below_dF HB3.out.1 _,.inl ⟨HF2.out.1,Te,ye,rfl⟩⟩
   ·have HF2:Hid (fgB T v N n=false∧True):=⟨by rw [HF.out.1,HSG.out.1];simp;omega,trivial⟩
    have h2i:((st:Int) != 0)=true:=by simp;omega
    clear HSG HF
    go_wp2
    go_quiet (fail)
    go_wp2
    go_ret2
    exact ⟨below_dF HB3.out.1 _,.inl ⟨HF2.out.1,Te,ye,rfl⟩⟩
set_option linter.unusedSimpArgs false
theorem SentT.below {w w':World} (h:SentT w) (hb:Below w.heap.size w w'):SentT w':=by
 obtain ⟨pe,h0⟩:=h.over
 obtain ⟨T,x,h1⟩:=h.full
 exact ⟨⟨pe,keep hb h.lt.1 h0⟩,⟨T,x,keep hb h.lt.2 h1⟩,by have:=hb.size;have:=h.lt;omega⟩
structure SentD (w:World):Prop where
 t:SentT w
 f:SentF w
 s3:Sent w 15
 s4:Sent w 20
 s5:Sent w 9
 s6:Sent w 7
 s7:Sent w 0
 s8:Sent w 1
 four:Four w
 hG:15<w.heap.size∧20<w.heap.size∧9<w.heap.size∧7<w.heap.size∧0<w.heap.size∧1<w.heap.size
theorem SentD.below {w w':World} (h:SentD w) (hb:Below w.heap.size w w'):SentD w':=
 ⟨h.t.below hb,h.f.below hb,h.s3.below hb h.hG.1,h.s4.below hb h.hG.2.1,h.s5.below hb h.hG.2.2.1,h.s6.below hb h.hG.2.2.2.1,h.s7.below hb h.hG.2.2.2.2.1,h.s8.below hb h.hG.2.2.2.2.2,h.four.below hb,by have:=hb.size;have:=h.hG;omega⟩
structure AnO (R:Nat) (w W:World):Prop where
 r0:W.cell? ⟨w.heap.size,0,none⟩=some (.slice none 0 0)
 r1:W.cell? ⟨w.heap.size,1,none⟩=some (.int .i64 0)
 f0:W.frozen? ⟨w.heap.size,0,none⟩=false
 f1:W.frozen? ⟨w.heap.size,1,none⟩=false
 lt:w.heap.size<W.heap.size
 on:Only (fun k=>k=R) w W
theorem AnO.new (R:Nat) (w:World):AnO R w (w.alloc (Obj.cells #[.slice none 0 0,.int .i64 0] 40)):=⟨by simp,by simp,by simp,by simp,by simp,(Only.refl _ _).alloc _⟩
theorem AnO.step {R:Nat} {w W W':World} (h:AnO R w W) (ho:Only (fun k=>k=R) W W') (hR:R<w.heap.size):AnO R w W':=
 ⟨ho.cell h.lt (by omega) h.r0,ho.cell h.lt (by omega) h.r1,(World.frozen?_of_block (ho.block w.heap.size h.lt (by omega))).trans h.f0,(World.frozen?_of_block (ho.block w.heap.size h.lt (by omega))).trans h.f1,Nat.lt_of_lt_of_le h.lt ho.size,h.on.trans ho⟩
theorem gi_le (n V s:Nat) (f:Nat):∀ (p:Nat) (out:List Int) (e:Bool) (res:List Int) (q:Nat),p≤n→gi n V s f p out e=some (res,q)→q≤n:=by
 induction f with
 | zero=>
  intro p out e res q hp h
  simp only [gi,Option.some.injEq,Prod.mk.injEq] at h
  omega
 | succ f ih=>
  intro p out e res q hp h
  simp only [gi] at h
  split at h
  ·split at h
   ·split at h
    ·split at h
     ·split at h
      ·cases h
      ·exact ih _ _ _ _ _ (by omega) h
     ·cases h
    ·exact ih _ _ _ _ _ (by omega) h
   ·cases h
  ·simp only [Option.some.injEq,Prod.mk.injEq] at h
   omega
def RdH (n V p N:Nat) (ts:List Int) (E:Nat):Prop:=∃ res q,giY n V p 40 res q∧ts.length=N∧Reads res (crun res (sbL res 12)).2.2 n V q ts E
theorem RdH.unique {n V p N:Nat} {ts ts':List Int} {E E':Nat} (h:RdH n V p N ts E) (h':RdH n V p N ts' E'):ts=ts'∧E=E':=by
 obtain ⟨res,q,hg,hl,hr⟩:=h
 obtain ⟨res',q',hg',hl',hr'⟩:=h'
 obtain ⟨rfl,rfl⟩:res=res'∧q=q':=by have:=hg'.1;rw [hg.1] at this;simpa using this
 exact hr.unique hr' (by omega)
theorem getByLengths_any (R B:Nat) (a:Option Addr) (cap:Nat) (zs:List Int) (n V p N:Nat) (w0 w:World) (hb:Byt w0 a zs) (hB:w0.heap.size=B) (hbel:Below B w0 w) (hz:zs=enc n V) (hn:n≤4096) (hR:RD w B R a zs.length cap n p) (hp:p≤n) (hN:N≤300) (hS:SentD w0) :
  Calls Tryz.prog 135 #[.pointer (some ⟨R,0,none⟩),.int .i64 N] w fun e w'=>Only (fun k=>k=R) w w' ∧
   ((∃ ts E g a' cp,RdH n V p N ts E∧E≤n∧OwI w' w.heap.size g N ts∧Mine w' w.heap.size w'.heap.size a' cp (enc (n-E) (bt V E (n-E))) ∧
     e=.returned (.tuple #[.slice (some ⟨g,0,none⟩) N N,.agg #[.slice a' (enc (n-E) (bt V E (n-E))).length cp,.int .i64 ((n-E:Nat):Int)],.nilIface])) ∨
    ((¬∃ ts E,RdH n V p N ts E)∧∃ T x v z l c M,e=.returned (.tuple #[v,.agg #[.slice z l c,.int .i64 M],.iface T x]))):=by
 have hRl:R<w.heap.size:=(Array.getElem?_eq_some_iff.1 hR.1).1
 have hBW:Below B w0 w∧B≤R∧B≤w.heap.size:=⟨hbel,hR.2.1,hR.2.2⟩
 have HQ:Hid (Byt w0 a zs∧w0.heap.size=B∧zs=enc n V∧SentD w0∧(Below B w0 w∧B≤R∧B≤w.heap.size)):=⟨hb,hB,hz,hS,hBW⟩
 have hA1:=AnO.new R w
 have hG1:=hS.hG
 have hG2:=hS.f.hG
 have HGL:=getLens_fr R B a cap zs n V p 40 w0 _ hb hB (fr_below hBW hA1.on) hz hn (hR.only (Only.alloc (Only.refl (fun _=>False) w) _) (by simp)) hp (by omega) hS.f.s0 hS.f.s1 hS.s3 hS.four (by omega)
 have HA1:Hid _:=hA1
 clear hb hB hz hS hBW hbel hR hA1
 go_enter Tryz.func135,Tryz.ntmps135
 go_wp2_with fail
 refine HGL.mono ?_
 clear HGL
 rintro e w2 ⟨⟨hb2,hy2,hn2⟩,ho2⟩
 have HA2:Hid (AnO R w w2):=AnO.step HA1.out ho2 hRl
 clear HA1 ho2
 by_cases hex:∃ res q,giY n V p 40 res q
 ·obtain ⟨res,q,hgi⟩:=hex
  obtain ⟨a2,c2,rfl,hm2,hrd2⟩:=hy2 res q hgi
  obtain ⟨hr1,hr2,-⟩:=lensB_okG hgi.2
  have hqn:q≤n:=gi_le n V 40 40 p [] false res q hp hgi.1
  have HNR:=newHuffReader_any a2 c2 res R w2 hm2.byt hr2
  have HW2:Hid (RD w2 B R a zs.length cap n q∧Below B w0 w2∧giY n V p 40 res q):=⟨hrd2,hb2,hgi⟩
  have hR2:R<w2.heap.size:=(Array.getElem?_eq_some_iff.1 hrd2.1).1
  clear hy2 hn2 hb2 hm2 hrd2 hgi
  go_wp2_with fail
  refine HNR.mono ?_
  clear HNR
  rintro e w3 ⟨H,ao,co,rfl,hhr,hmo,hHs,hb3⟩
  have hA3:AnO R w w3:=AnO.step HA2.out (Only.ofBelow hb3 nl) hRl
  have hbl3:=fr_below HQ.out.2.2.2.2 hA3.on
  have hrd3:RD w3 B R a zs.length cap n q:=HW2.out.1.only (Only.ofBelow (S:=fun _=>False) hb3 nl) (by simp)
  have HTX:=text_any H R B w2.heap.size ao co res a cap zs n V q N w0 w3 HQ.out.1 HQ.out.2.1 hbl3 HQ.out.2.2.1 hn hqn hN hr2 hhr hmo hrd3 (by omega) hR2 HQ.out.2.2.2.1.f.s0 HQ.out.2.2.2.1.f.s1 HQ.out.2.2.2.1.s4 (by omega)
  have HA3:Hid (AnO R w w3):=hA3
  have z23:=hb3.size
  have HGI:Hid (giY n V p 40 res q):=HW2.out.2.2
  have z2:w.heap.size<w2.heap.size:=HA2.out.lt
  clear hhr hmo hHs hb3 hA3 hbl3 hrd3 HA2 HW2
  go_wp2_with fail
  refine HTX.mono ?_
  clear HTX
  rintro e w4 ⟨ho4,hb4,⟨ts,E,g,hl,hrds,how,hrd4,rfl⟩ | ⟨ts,E,T,y,hl,hrds,hno,rfl⟩⟩
  ·have hEn:E≤n:=hrds.le hqn
   have HA4:Hid (AnO R w w4):=AnO.step HA3.out ho4 hRl
   have HF4:Hid (RdH n V p N ts E∧OwI w4 w.heap.size g N ts∧w3.heap.size≤g∧RD w4 B R a zs.length cap n E∧Below B w0 w4):=⟨⟨res,q,HGI.out,hl,hrds⟩,how.mono (by omega),how.lt.1,hrd4,hb4⟩
   have HLE:=hrd4.left (by omega) (by omega)
   clear ho4 hb4 hrds how hrd4 HA3 HGI hl
   go_wp2_with fail
   refine HLE.mono ?_
   clear HLE
   rintro e w5 ⟨rfl,m5,rfl⟩
   have hA5:AnO R w (w4.drewN m5):=AnO.step HA4.out ((Only.refl _ _).drewN m5) hRl
   have hF5:OwI (w4.drewN m5) w.heap.size g N ts∧RD (w4.drewN m5) B R a zs.length cap n E∧Below B w0 (w4.drewN m5):=⟨HF4.out.2.1.drewN m5,HF4.out.2.2.2.1.only ((Only.refl (fun _=>False) _).drewN m5) (by simp),below_drewN HF4.out.2.2.2.2 m5⟩
   have HRH:Hid (RdH n V p N ts E∧w3.heap.size≤g):=⟨HF4.out.1,HF4.out.2.2.1⟩
   clear HA4 HF4
   generalize w4.drewN m5=w5 at *
   have hnE:((n:Int)-(E:Int))=((n-E:Nat):Int):=by omega
   rw [hnE]
   have HTK:=take_yes R B a cap zs n V E (n-E) w5 hF5.2.1 (HQ.out.1.below hF5.2.2 (by rw [HQ.out.2.1];exact Nat.le_refl _)) HQ.out.2.2.1 hn (by omega) (HQ.out.2.2.2.1.t.below (by rw [HQ.out.2.1];exact hF5.2.2))
   have HA5:Hid (AnO R w w5∧OwI w5 w.heap.size g N ts):=⟨hA5,hF5.1⟩
   have HDE:Hid (∃ d,d=n-E):=⟨_,rfl⟩
   clear hA5 hF5 hnE
   generalize hde:n-E=d at *
   have HD:Hid (n-E=d):=hde
   clear hde HDE
   go_wp2_with fail
   refine HTK.mono ?_
   clear HTK
   rintro e w6 ⟨a6,c6,rfl,hm6,hrd6,ho6⟩
   have HA6:Hid (AnO R w w6):=AnO.step HA5.out.1 ho6 hRl
   have HO6:Hid (OwI w6 w.heap.size g N ts):=HA5.out.2.only ho6 (by have:=HRH.out.2;omega)
   have HM6:Hid (Mine w6 w5.heap.size w6.heap.size a6 c6 (enc d (bt V E d))):=hm6
   have z5:w.heap.size<w5.heap.size:=HA5.out.1.lt
   have z6:=ho6.size
   have z7:w.heap.size<w6.heap.size:=by omega
   clear hm6 hrd6 ho6 HA5
   have x0:=HA6.out.r0
   have x1:=HA6.out.r1
   have y0:=HA6.out.f0
   have y1:=HA6.out.f1
   generalize hES:enc d (bt V E d)=es at *
   have HES:Hid (enc d (bt V E d)=es):=hES
   clear hES
   go_wp2
   go_region
   go_wp2
   have hO7:Only (fun k=>k=w.heap.size) w6 (((w6.setCell ⟨w.heap.size,0,none⟩ (.slice a6 es.length c6)).setCell ⟨w.heap.size,1,none⟩ (.int .i64 (d:Nat))).alloc (Obj.cells #[.slice a6 es.length c6,.int .i64 (d:Nat)] 40)).drew:=
    (((Only.setCell (Only.setCell (Only.refl (fun k=>k=w.heap.size) w6) (p:=⟨w.heap.size,0,none⟩) (.inl rfl) _) (p:=⟨w.heap.size,1,none⟩) (.inl rfl) _)).alloc _).drew
   have hO8:Only (fun k=>k=R) w (((w6.setCell ⟨w.heap.size,0,none⟩ (.slice a6 es.length c6)).setCell ⟨w.heap.size,1,none⟩ (.int .i64 (d:Nat))).alloc (Obj.cells #[.slice a6 es.length c6,.int .i64 (d:Nat)] 40)).drew:=
    (((Only.setCell (Only.setCell HA6.out.on (p:=⟨w.heap.size,0,none⟩) (.inr nl) _) (p:=⟨w.heap.size,1,none⟩) (.inr nl) _)).alloc _).drew
   have q0:(((w6.setCell ⟨w.heap.size,0,none⟩ (.slice a6 es.length c6)).setCell ⟨w.heap.size,1,none⟩ (.int .i64 (d:Nat))).alloc (Obj.cells #[.slice a6 es.length c6,.int .i64 (d:Nat)] 40)).drew.cell? ⟨w.heap.size,0,none⟩=some (.slice a6 es.length c6):=keepA _ (by simpa using z7) (by simp [go_sem,x0,x1])
   have q1:(((w6.setCell ⟨w.heap.size,0,none⟩ (.slice a6 es.length c6)).setCell ⟨w.heap.size,1,none⟩ (.int .i64 (d:Nat))).alloc (Obj.cells #[.slice a6 es.length c6,.int .i64 (d:Nat)] 40)).drew.cell? ⟨w.heap.size,1,none⟩=some (.int .i64 (d:Nat)):=keepA _ (by simpa using z7) (by simp [go_sem,x0,x1])
   refine bodyPost_ret (v:=.tuple #[.slice (some ⟨g,0,none⟩) N N,.agg #[.slice a6 es.length c6,.int .i64 (d:Nat)],.nilIface]) (by simp [results,Tryz.results135,go_sem,q0,q1]) rfl ⟨hO8,.inl ⟨ts,E,g,a6,c6,HRH.out.1,hEn,?_,?_,by rw [HD.out,HES.out]⟩⟩
   ·exact HO6.out.only hO7 (by have:=HRH.out.2;omega)
   ·rw [HD.out,HES.out]
    exact (HM6.out.only hO7 (fun b h1 _=>by omega)).mono (by omega) hO7.size
  ·have HNO:Hid (¬∃ ts E,RdH n V p N ts E):=by
    rintro ⟨ts',E',res',q',hg',hl',hr'⟩
    obtain ⟨rfl,rfl⟩:res=res'∧q=q':=by have:=hg'.1;rw [HGI.out.1] at this;simpa using this
    exact hr'.stuck hrds (by omega) hno
   have hA4:AnO R w w4:=AnO.step HA3.out ho4 hRl
   have HON:Hid (Only (fun k=>k=R) w w4):=hA4.on
   obtain ⟨x0,x1,y0,y1,_,_⟩:=hA4
   clear ho4 hb4 hrds hno HA3 HGI hl
   go_wp2
   refine bodyPost_ret (v:=.tuple #[.slice none 0 0,.agg #[.slice none 0 0,.int .i64 0],.iface T y]) (by simp [results,Tryz.results135,go_sem,x0,x1]) rfl ⟨?_,.inr ⟨HNO.out,_,_,_,_,_,_,_,rfl⟩⟩
   have h0:=HON.out
   repeat (first | exact h0 | refine Only.setCell ?_ (.inr (by simp)) _)
 ·obtain ⟨T,x,v,rfl⟩:=hn2 hex
  have HNO:Hid (¬∃ ts E,RdH n V p N ts E):=fun ⟨ts,E,res,q,h,_⟩=>hex ⟨res,q,h⟩
  have x0:=HA2.out.r0
  have x1:=HA2.out.r1
  have y0:=HA2.out.f0
  have y1:=HA2.out.f1
  clear hy2 hn2 hex hb2
  go_wp2
  refine bodyPost_ret (v:=.tuple #[.slice none 0 0,.agg #[.slice none 0 0,.int .i64 0],.iface T x]) (by simp [results,Tryz.results135,go_sem,x0,x1]) rfl ⟨?_,.inr ⟨HNO.out,_,_,_,_,_,_,_,rfl⟩⟩
  have h0:=HA2.out.on
  repeat (first | exact h0 | refine Only.setCell ?_ (.inr (by simp)) _)
def gL (V p:Nat):Nat→Nat × Nat
 | 0=>(64,p)
 | k+1=>((gL V p k).1-V / 2 ^ (gL V p k).2 % 2 ^ bl (gL V p k).1,(gL V p k).2+bl (gL V p k).1)
def gX (V p k:Nat):Nat:=V / 2 ^ (gL V p k).2 % 2 ^ bl (gL V p k).1
def good (n V p k:Nat):Prop:=∀ j,j<k→(gL V p j).2+bl (gL V p j).1≤n∧gX V p j≤(gL V p j).1
def gXs (V p s:Nat):List Int:=(List.range s).map (fun k=>((gX V p k:Nat):Int))
theorem gL_le (V p k:Nat):(gL V p k).1≤64:=by
 induction k with
 | zero=>simp [gL]
 | succ k ih=>simp only [gL];omega
theorem gX_lt (V p k:Nat):gX V p k<128:=by
 have h1:=bl_le7 _ (gL_le V p k)
 have h2:gX V p k<2 ^ bl (gL V p k).1:=Nat.mod_lt _ (Nat.pow_pos (by omega))
 have h3:2 ^ bl (gL V p k).1≤2 ^ 7:=Nat.pow_le_pow_right (by omega) h1
 omega
theorem gXs_len (V p s:Nat):(gXs V p s).length=s:=by simp [gXs]
theorem gXs_get (V p s k:Nat) (h:k<s):(gXs V p s).getD k 0=(gX V p k:Nat):=by
 simp [gXs,List.getD_eq_getElem?_getD,h]
theorem gXs_rng (V p s:Nat):∀ z ∈ gXs V p s,-9223372036854775808≤z∧z≤9223372036854775807:=by
 intro z hz
 simp only [gXs,List.mem_map,List.mem_range] at hz
 obtain ⟨k,_,rfl⟩:=hz
 have:=gX_lt V p k
 omega
theorem good_succ {n V p k:Nat} (h:good n V p k) (h1:(gL V p k).2+bl (gL V p k).1≤n) (h2:gX V p k≤(gL V p k).1):good n V p (k+1):=by
 intro j hj
 by_cases h':j=k
 ·subst h';exact ⟨h1,h2⟩
 ·exact h j (by omega)
theorem good_pos {n V p k:Nat} (hp:p≤n) (h:good n V p k):(gL V p k).2≤n:=by
 cases k with
 | zero=>exact hp
 | succ k=>exact (h k (by omega)).1
theorem gL_succ1 (V p k:Nat):(gL V p (k+1)).1=(gL V p k).1-gX V p k:=rfl
theorem gL_succ2 (V p k:Nat):(gL V p (k+1)).2=(gL V p k).2+bl (gL V p k).1:=rfl
theorem bad_size {n V p k s:Nat} (hk:k<s) (h:¬(gL V p k).2+bl (gL V p k).1≤n):¬good n V p s:=fun h'=>h (h' k hk).1
theorem bad_share {n V p k s:Nat} (hk:k<s) (h:¬gX V p k≤(gL V p k).1):¬good n V p s:=fun h'=>h (h' k hk).2
end Go.Proofs.YtfeokafkhnbdiaaGreatDoor
