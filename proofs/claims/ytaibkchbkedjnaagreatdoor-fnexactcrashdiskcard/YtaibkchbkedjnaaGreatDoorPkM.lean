/- Lemmas on the way. -/
import Derived.Test.YtaibkchbkedjnaaGreatDoorFg3
import Derived.Test.YtaibkchbkedjnaaGreatDoorInR
import Derived.Test.YtaibkchbkedjnaaGreatDoorSqB
import Derived.Test.YtaibkchbkedjnaaGreatDoorILens
import Derived.Deep.AppendLies
import Derived.Deep.RegionHeld3
import Derived.Test.YtaibkchbkedjnaaGreatDoorOps
import Derived.Test.YtaibkchbkedjnaaGreatDoorPour
import Derived.Test.YtaibkchbkedjnaaGreatDoorCodes3
import Derived.Test.YtaibkchbkedjnaaGreatDoorDcY
import Derived.Test.YtaibkchbkedjnaaGreatDoorINormP
import Derived.Test.YtaibkchbkedjnaaGreatDoorItEq
set_option maxRecDepth 20000
set_option maxHeartbeats 16000000
namespace Go.Proofs.YtaibkchbkedjnaaGreatDoor
open Go.RowKit
set_option linter.unusedVariables false
theorem OVI.onlyF {S:Nat→Prop} {w w':World} {B:Nat} {v:Value} {zs:List Int} (h:OVI w B v zs) (ho:Only S w w') (hs:∀ k,v.ownBlock=some k→¬S k):OVI w' B v zs:=by
 rcases h.1.2 with ⟨h1,h2⟩ | ⟨g,cap,cur,rfl,hg,hh,r⟩
 ·exact ⟨⟨h.1.1,.inl ⟨h1,h2⟩⟩,h.2⟩
 ·exact ⟨⟨h.1.1,.inr ⟨g,cap,cur,rfl,hg,(ho.block g (Array.getElem?_eq_some_iff.1 hh).1 (hs g rfl)).trans hh,r⟩⟩,h.2⟩
theorem OVI.weakF {w:World} {B B':Nat} {v:Value} {zs:List Int} (h:OVI w B v zs) (hB:B'≤B):OVI w B' v zs:=by
 rcases h.1.2 with ⟨h1,h2⟩ | ⟨g,cap,cur,rfl,hg,r⟩
 ·exact ⟨⟨h.1.1,.inl ⟨h1,h2⟩⟩,h.2⟩
 ·exact ⟨⟨h.1.1,.inr ⟨g,cap,cur,rfl,by omega,r⟩⟩,h.2⟩
theorem fgB_short {T:List Int} {v N n:Nat} (h:N<6):fgB T v N n=false:=by
 unfold fgB
 rw [decide_eq_false_iff_not]
 omega
theorem l3get_short (a:Option Addr) (ca:Nat) (ls:List Int) (x:Option Addr) (cx:Nat) (zs:List Int) (N v n:Nat) (T:List Int) (w:World) (ha:Ins w a ls) (hx:Byt w x zs) (hz:zs=enc N v) (hN:N≤4096) (hn:n≤300) (hnb:normB ls=true) (h6:N<6) (hTe:tb (pl (fl 0 ls) (plc 64)) ls 64=T) :
  Calls Tryz.prog 161 #[.slice a ls.length ca,.agg #[.slice x zs.length cx,.int .i64 N],.int .i64 n] w fun e w'=>
   e=.returned (.tuple #[.slice none 0 0,.bool false])∧Below w.heap.size w w':=by
 obtain ⟨i0,hi,hz0,hz1,hz2⟩:=info_parts Tryz.infoI64
 have HGD:Hid (Gd T ls.length):=by unfold Hid;rw [←hTe];exact gd_tb hnb
 have HTR:Hid (∀ z ∈ T,-9223372036854775808≤z∧z≤9223372036854775807):=by
  intro z hz
  rw [←hTe] at hz
  have:=tb_rng hnb 64 nl z hz
  omega
 have hbd:=normB_bnd hnb
 have hw:Below w.heap.size w (w.alloc (Obj.cells #[.slice x zs.length cx,.int .i64 N] 155)):=ba
 have r0:(w.alloc (Obj.cells #[.slice x zs.length cx,.int .i64 N] 155)).cell? ⟨w.heap.size,0,none⟩=some (.slice x zs.length cx):=by simp
 have r1:(w.alloc (Obj.cells #[.slice x zs.length cx,.int .i64 N] 155)).cell? ⟨w.heap.size,1,none⟩=some (.int .i64 N):=by simp
 have HSZ:Hid (w.heap.size<(w.alloc (Obj.cells #[.slice x zs.length cx,.int .i64 N] 155)).heap.size):=by simp [Hid]
 have HLT:=l3table_any a ca ls _ (ha.below hw nl) hnb
 rw [hTe] at HLT
 have HZ:Hid (zs=enc N v∧True):=⟨hz,trivial⟩
 clear hz hTe hnb
 go_enter Tryz.func161,Tryz.ntmps161
 go_wp2_with fail
 generalize w.alloc (Obj.cells #[.slice x zs.length cx,.int .i64 N] 155)=W at *
 refine HLT.mono ?_
 clear HLT
 rintro e w1 ⟨aT,cT,rfl,hcv,hb1⟩
 have hinr:=hcv.inR HTR.out (HGD.out.len)
 have hbw1:Below w.heap.size w w1:=hw.trans (hb1.mono (Nat.le_of_lt HSZ.out))
 have HBW:Hid (Below w.heap.size w w1∧True):=⟨hbw1,trivial⟩
 have HX:Hid (Byt w1 x zs):=hx.below hbw1 nl
 have HTT:Hid (Ins w1 aT T):=hinr.byt
 have c0:=keep hb1 HSZ.out r0
 have c1:=keep hb1 HSZ.out r1
 have HR:Hid (w1.cell? ⟨w.heap.size,0,none⟩=some (.slice x zs.length cx)∧w1.cell? ⟨w.heap.size,1,none⟩=some (.int .i64 N)):=⟨c0,c1⟩
 have HS1:Hid (w.heap.size<w1.heap.size):=by have:=HSZ.out;have:=hb1.size;unfold Hid;omega
 have HTL:Hid (T.length=192∧True):=⟨HGD.out.len,trivial⟩
 clear hw r0 r1 HSZ hcv hinr hb1 hbw1 ha hx
 have h6i:(N:Int)<6:=by omega
 go_wp2
 exact bodyPost_ret (v:=.tuple #[.slice none 0 0,.bool false]) (by simp [results,Tryz.results161,go_sem]) rfl ⟨rfl,HBW.out.1⟩
theorem l3get_long (a:Option Addr) (ca:Nat) (ls:List Int) (x:Option Addr) (cx:Nat) (zs:List Int) (E N v n:Nat) (T:List Int) (w:World) (ha:Ins w a ls) (hx:Byt w x zs) (hz:zs=enc N v) (hN:N≤4096) (hn:n≤300) (hnb:normB ls=true) (hNE:N=E+6) (hTe:tb (pl (fl 0 ls) (plc 64)) ls 64=T) :
  Calls Tryz.prog 161 #[.slice a ls.length ca,.agg #[.slice x zs.length cx,.int .i64 N],.int .i64 n] w fun e w'=>
   ∃ u,e=.returned (.tuple #[u,.bool (decide (sg T v E n=some (0,0)))])∧(sg T v E n=some (0,0)→OVI w' w.heap.size u (so T v E n))∧Below w.heap.size w w':=by
 have HNE:Hid (N=E+6∧True):=⟨hNE,trivial⟩
 have h6N:(6:Int)≤(N:Int):=by omega
 clear hNE
 obtain ⟨i0,hi,hz0,hz1,hz2⟩:=info_parts Tryz.infoI64
 have HGD:Hid (Gd T ls.length):=by unfold Hid;rw [←hTe];exact gd_tb hnb
 have HTR:Hid (∀ z ∈ T,-9223372036854775808≤z∧z≤9223372036854775807):=by
  intro z hz
  rw [←hTe] at hz
  have:=tb_rng hnb 64 nl z hz
  omega
 have hbd:=normB_bnd hnb
 have hw:Below w.heap.size w (w.alloc (Obj.cells #[.slice x zs.length cx,.int .i64 N] 155)):=ba
 have r0:(w.alloc (Obj.cells #[.slice x zs.length cx,.int .i64 N] 155)).cell? ⟨w.heap.size,0,none⟩=some (.slice x zs.length cx):=by simp
 have r1:(w.alloc (Obj.cells #[.slice x zs.length cx,.int .i64 N] 155)).cell? ⟨w.heap.size,1,none⟩=some (.int .i64 N):=by simp
 have HSZ:Hid (w.heap.size<(w.alloc (Obj.cells #[.slice x zs.length cx,.int .i64 N] 155)).heap.size):=by simp [Hid]
 have HLT:=l3table_any a ca ls _ (ha.below hw nl) hnb
 rw [hTe] at HLT
 have HZ:Hid (zs=enc N v∧True):=⟨hz,trivial⟩
 clear hz hTe hnb
 go_enter Tryz.func161,Tryz.ntmps161
 go_wp2_with fail
 generalize w.alloc (Obj.cells #[.slice x zs.length cx,.int .i64 N] 155)=W at *
 refine HLT.mono ?_
 clear HLT
 rintro e w1 ⟨aT,cT,rfl,hcv,hb1⟩
 have hinr:=hcv.inR HTR.out (HGD.out.len)
 have hbw1:Below w.heap.size w w1:=hw.trans (hb1.mono (Nat.le_of_lt HSZ.out))
 have HBW:Hid (Below w.heap.size w w1∧True):=⟨hbw1,trivial⟩
 have HX:Hid (Byt w1 x zs):=hx.below hbw1 nl
 have HTT:Hid (Ins w1 aT T):=hinr.byt
 have c0:=keep hb1 HSZ.out r0
 have c1:=keep hb1 HSZ.out r1
 have HR:Hid (w1.cell? ⟨w.heap.size,0,none⟩=some (.slice x zs.length cx)∧w1.cell? ⟨w.heap.size,1,none⟩=some (.int .i64 N)):=⟨c0,c1⟩
 have HS1:Hid (w.heap.size<w1.heap.size):=by have:=HSZ.out;have:=hb1.size;unfold Hid;omega
 have HTL:Hid (T.length=192∧True):=⟨HGD.out.len,trivial⟩
 clear hw r0 r1 HSZ hcv hinr hb1 hbw1 ha hx
 go_wp2_with fail
 have HG1:=l1get_any x cx zs (N:Int) ((N:Int)-6) 6 N v w1 HX.out HZ.out.1 (by omega) (by omega) (by omega) (by omega) (by omega)
 rw [show ((N:Int)-6).toNat=E from by have:=HNE.out.1;omega] at HG1
 simp only [show ((6:Int)).toNat=6 from rfl,show 2 ^ 6=64 from rfl] at HG1
 refine HG1.mono ?_
 clear HG1 c0 c1
 rintro e w2 ⟨rfl,hb2⟩
 have HBW2:Hid (Below w.heap.size w w2∧True):=⟨HBW.out.1.trans (hb2.mono (Nat.le_of_lt HS1.out)),trivial⟩
 have HX2:Hid (Byt w2 x zs):=HX.out.below hb2 nl
 have HT2:Hid (Ins w2 aT T):=HTT.out.below hb2 nl
 have HR2:Hid (w2.cell? ⟨w.heap.size,0,none⟩=some (.slice x zs.length cx)∧w2.cell? ⟨w.heap.size,1,none⟩=some (.int .i64 N)):=⟨keep hb2 HS1.out HR.out.1,keep hb2 HS1.out HR.out.2⟩
 have HS2:Hid (w.heap.size<w2.heap.size):=by have:=HS1.out;have:=hb2.size;unfold Hid;omega
 clear hb2 HBW HX HTT HR HS1
 generalize hB:w2.heap.size=B at *
 have HB:Hid (w2.heap.size=B∧True):=⟨hB,trivial⟩
 clear hB
 go_wp2
 go_loopw [9,10,11,12] (fun t s o i wr=>∃ (k st en:Nat),k≤n∧i=.int .i64 k∧t=.int .i64 en∧s=.int .i64 st∧sg T v E k=some (st,en)∧OVI wr B o (so T v E k)∧Below B w2 wr) (fun _ _ _ i _=>n-(intOf i).toNat)
 case atStart=>exact ⟨0,v / 2 ^ E % 64,E,Nat.zero_le _,rfl,by rw [show (N:Int)-6=(E:Int) from by have:=HNE.out.1;omega],rfl,rfl,OVI.nil _ _,Below.refl _ _⟩
 case round=>
  obtain ⟨k,st,en,hk,rfl,rfl,rfl,hsg,hov,hbel⟩:=hrel
  obtain ⟨au,cu,rfl⟩:=hov.form
  have HQL:Hid ((so T v E k).length=k∧True):=⟨so_len _ _ _ _,trivial⟩
  rw [HQL.out.1] at hov ⊢
  have HOV:Hid (OVI wr B (.slice au k cu) (so T v E k)):=hov
  have HSG:Hid (sg T v E k=some (st,en)∧True):=⟨hsg,trivial⟩
  obtain ⟨hst,hen⟩:=sg_rng HGD.out v E k st en hsg
  have henN:(en:Int)≤4096:=by have:=HNE.out.1;omega
  have henM:(en:Int)≤(N:Int):=by have:=HNE.out.1;omega
  have HBL:Hid (Below B w2 wr∧True):=⟨hbel,trivial⟩
  have HBB:Hid (Below w.heap.size w wr∧True):=⟨HBW2.out.1.trans (hbel.mono (Nat.le_of_lt HS2.out)),trivial⟩
  have HZW:Hid (B≤wr.heap.size):=by have:=hbel.size;have:=HB.out.1;unfold Hid;omega
  have HRW:Hid (wr.cell? ⟨w.heap.size,0,none⟩=some (.slice x zs.length cx)∧wr.cell? ⟨w.heap.size,1,none⟩=some (.int .i64 N)):=⟨keep hbel HS2.out HR2.out.1,keep hbel HS2.out HR2.out.2⟩
  have hTw:Ins wr aT T:=HT2.out.below hbel (by rw [HB.out.1];exact Nat.le_refl _)
  clear hov hsg hbel
  by_cases hlt:k<n
  ·obtain ⟨sy,b,z,e1,e2,e3,hsy,hb6,hz64⟩:=HGD.out.cell st hst
   obtain ⟨gT,oT,rfl,hgT,hcT⟩:=hTw.len_pos (st*3) (by rw [HTL.out.1];omega)
   have t0:=hcT (st*3) (by rw [HTL.out.1];omega)
   have t1:=hcT (st*3+1) (by rw [HTL.out.1];omega)
   have t2:=hcT (st*3+2) (by rw [HTL.out.1];omega)
   rw [e1] at t0
   rw [e2,←Nat.add_assoc] at t1
   rw [e3,←Nat.add_assoc] at t2
   have HCB:Hid (cB T st=b∧cZ T st=z∧T.getD (st*3) 0=(sy:Int)):=⟨by unfold cB;rw [e2,Int.toNat_natCast],by unfold cZ;rw [e3,Int.toNat_natCast],e1⟩
   have hpz:=Nat.pow_pos (n:=b) (show 0<2 by omega)
   have hz63:(z:Int)≤64:=by omega
   clear hcT e1 e2 e3 hTw hz64 hpz
   by_cases hbe:en<b
   ·have HNO:Hid (sg T v E n=none∧True):=⟨sg_none (sg_stop HSG.out.1 (by rw [HCB.out.1];exact hbe)) n (by omega),trivial⟩
    have hbi:(en:Int)<(b:Int):=by omega
    have HWA:Hid (Below w.heap.size w (wr.alloc (Obj.cells #[.int .i64 sy,.int .i64 b,.int .i64 z] 247))∧True):=⟨HBB.out.1.alloc (by have:=HZW.out;have:=HS2.out;omega) _,trivial⟩
    clear HOV HSG
    go_wp2
    exact bodyPost_ret (v:=.tuple #[.slice none 0 0,.bool false]) (by simp [results,Tryz.results161,go_sem]) rfl ⟨_,by rw [HNO.out.1];rfl,fun h=>by rw [HNO.out.1] at h;simp at h,HWA.out.1⟩
   ·have hbi:(b:Int)≤(en:Int):=by omega
    have HSG2:Hid (sg T v E (k+1)=some (z+v / 2 ^ (en-b) % 2 ^ b,en-b)∧so T v E (k+1)=so T v E k++[(sy:Int)]):=by
     have h1:=sg_step HSG.out.1 (show ¬en<cB T st by rw [HCB.out.1];exact hbe)
     have h2:=so_step HSG.out.1
     rw [HCB.out.1,HCB.out.2.1] at h1
     rw [HCB.out.2.2] at h2
     exact ⟨h1,h2⟩
    have HVB:Hid (v / 2 ^ (en-b) % 2 ^ b<64):=by
     have h1:v / 2 ^ (en-b) % 2 ^ b<2 ^ b:=Nat.mod_lt _ (Nat.pow_pos (by omega))
     have h2:2 ^ b≤2 ^ 6:=Nat.pow_le_pow_right (by omega) hb6
     unfold Hid
     omega
    have hu:(wr.alloc (Obj.cells #[.int .i64 sy,.int .i64 b,.int .i64 z] 247)).ownsRow B 3 1 (.slice au k cu) k ((so T v E k).map (Value.int .i64)):=by have:=(HOV.out.1).alloc (Obj.cells #[.int .i64 sy,.int .i64 b,.int .i64 z] 247);rw [HQL.out.1] at this;exact this
    have HWA:Hid (Below B w2 (wr.alloc (Obj.cells #[.int .i64 sy,.int .i64 b,.int .i64 z] 247))∧True):=⟨HBL.out.1.alloc HZW.out _,trivial⟩
    have HOA:Hid (OVI (wr.alloc (Obj.cells #[.int .i64 sy,.int .i64 b,.int .i64 z] 247)) B (.slice au k cu) (so T v E k)):=⟨by rw [HQL.out.1];exact hu,HOV.out.2⟩
    have HLB:Hid (∀ g,(Value.slice au k cu).ownBlock=some g→B≤g∧g<wr.heap.size):=fun g hg=>HOV.out.1.lt g hg
    have d0:(wr.alloc (Obj.cells #[.int .i64 sy,.int .i64 b,.int .i64 z] 247)).cell? ⟨wr.heap.size,0,none⟩=some (.int .i64 sy):=by simp
    have d1:(wr.alloc (Obj.cells #[.int .i64 sy,.int .i64 b,.int .i64 z] 247)).cell? ⟨wr.heap.size,1,none⟩=some (.int .i64 b):=by simp
    have d2:(wr.alloc (Obj.cells #[.int .i64 sy,.int .i64 b,.int .i64 z] 247)).cell? ⟨wr.heap.size,2,none⟩=some (.int .i64 z):=by simp
    have HD:Hid (_∧_∧_):=⟨d0,d1,d2⟩
    have HSA:Hid ((wr.alloc (Obj.cells #[.int .i64 sy,.int .i64 b,.int .i64 z] 247)).heap.size=wr.heap.size+1∧True):=⟨by simp,trivial⟩
    have hsy80:(sy:Int)≤80:=by omega
    have HN3:Hid (k+1≤300):=by unfold Hid;omega
    clear HOV HSG
    go_wp2_with (at_builtin;(refine wpList_append_lies _ rfl (.tmp 41) (.tmp 44) 29 rfl B 3 i0 (.int .i64 0) 1 8 Tryz.underlying29 hi hz0 hz1 hz2 rfl (by decide) (.slice au k cu) k ((so T v E k).map (Value.int .i64)) rfl (hu.alloc _) ⟨wr.heap.size+1,0,none⟩ 1 1 [.int .i64 sy] rfl rfl (by intro j y hj;match j,hj with | 0,hj=>(simp at hj;subst hj;simp [Addr.add])) (by intro y hy;simp at hy;subst hy;rfl) (by have:=HN3.out;omega) (by have:=HN3.out;unfold maxLen;omega) (by have:=HN3.out;omega) (by have:=HZW.out;simp;omega) _ rfl ?_);intro g cap1 w4 hown hgrow hat hlt1)
    have hOn:Only (fun j=>(Value.slice au k cu).ownBlock=some j) (wr.alloc (Obj.cells #[.int .i64 sy,.int .i64 b,.int .i64 z] 247)) w4:=Only.grown (Only.alloc (Only.refl _ _) _) hgrow (fun j hj=>.inl hj)
    have HC:Hid (w4.cell? ⟨wr.heap.size,2,none⟩=some (.int .i64 z)∧w4.cell? ⟨w.heap.size,0,none⟩=some (.slice x zs.length cx)∧w4.cell? ⟨w.heap.size,1,none⟩=some (.int .i64 N)∧w4.cell? ⟨wr.heap.size,1,none⟩=some (.int .i64 b)):=by
     have hw1:w.heap.size<wr.heap.size:=by have:=HZW.out;have:=HS2.out;omega
     have hs1:=HSA.out.1
     refine ⟨hOn.cell (by omega) (fun hg=>by have:=HLB.out _ hg;omega) HD.out.2.2,hOn.cell (by omega) (fun hg=>by have:=HLB.out _ hg;have:=HS2.out;omega) (keepA _ hw1 HRW.out.1),hOn.cell (by omega) (fun hg=>by have:=HLB.out _ hg;have:=HS2.out;omega) (keepA _ hw1 HRW.out.2),hOn.cell (by omega) (fun hg=>by have:=HLB.out _ hg;omega) HD.out.2.1⟩
    have HOV4:Hid (OVI w4 B (.slice (some ⟨g,0,none⟩) (k+1) cap1) (so T v E (k+1))):=by
     unfold Hid
     rw [HSG2.out.2]
     exact OVI.app HQL.out.1 HOA.out.2 (by omega) hown
    have HB4:Hid (Below B w2 w4∧True):=⟨app_below HWA.out.1 (by have:=HZW.out;have:=HSA.out.1;omega) HOA.out hgrow,trivial⟩
    have HXW:Hid (Byt w4 x zs):=HX2.out.below HB4.out.1 (by rw [HB.out.1];exact Nat.le_refl _)
    have HZ4:Hid (B≤w4.heap.size):=by have:=HB4.out.1.size;have:=HB.out.1;unfold Hid;omega
    have HLT4:Hid (wr.heap.size<w4.heap.size∧w.heap.size<w4.heap.size):=by have h1:=hOn.size;have h2:=HSA.out.1;have:=HZW.out;have:=HS2.out;exact ⟨by omega,by omega⟩
    clear hown hgrow hat hlt1 HOA HWA hu hOn d0 d1 d2 HD HSA HLB t0 t1 t2 HRW HBL HBB
    generalize wr.heap.size=cb at *
    obtain ⟨Xn,hXn⟩:∃ Xn,Xn=v / 2 ^ (en-b) % 2 ^ b:=⟨_,rfl⟩
    rw [←hXn] at HSG2 HVB
    have HG2:∀ W,Byt W x zs→Calls Tryz.prog 156 #[.agg #[.slice x zs.length cx,.int .i64 (N:Int)],.int .i64 ((en:Int)-(b:Int)),.int .i64 (b:Int)] W fun e w'=>e=.returned (.int .i64 (Xn:Int))∧Below W.heap.size W w':=by
     intro W hW
     have:=l1get_any x cx zs (N:Int) ((en:Int)-(b:Int)) (b:Int) N v W hW HZ.out.1 (by omega) (by omega) (by omega) (by omega) (by omega)
     rw [show ((en:Int)-(b:Int)).toNat=en-b from by omega,Int.toNat_natCast,←hXn] at this
     exact this
    have hX64:(Xn:Int)<64:=by have:=HVB.out;omega
    clear hXn HVB
    go_region_held3 (fun W=>W.cell? ⟨cb,2,none⟩=some (.int .i64 z)∧W.cell? ⟨w.heap.size,0,none⟩=some (.slice x zs.length cx)∧W.cell? ⟨w.heap.size,1,none⟩=some (.int .i64 N)∧W.cell? ⟨cb,1,none⟩=some (.int .i64 b))
     (first | exact HC.out | exact HC8.out)
     (first
      | (go_at_call 156;refine (HG2 _ (by exact HXW.out)).mono ?_;rintro e w8 ⟨rfl,hb8'⟩;have HB8:Hid (Below B w2 w8∧True):=⟨HB4.out.1.trans ((Below.drewS hb8').mono HZ4.out),trivial⟩;have HO8:Hid (OVI w8 B (.slice (some ⟨g,0,none⟩) (k+1) cap1) (so T v E (k+1))):=HOV4.out.onlyF (Only.ofBelow (S:=fun _=>False) (Below.drewS hb8') nl) (by simp);have HC8:Hid (w8.cell? ⟨cb,2,none⟩=some (.int .i64 z)∧w8.cell? ⟨w.heap.size,0,none⟩=some (.slice x zs.length cx)∧w8.cell? ⟨w.heap.size,1,none⟩=some (.int .i64 N)∧w8.cell? ⟨cb,1,none⟩=some (.int .i64 b)):=⟨keep (Below.drewS hb8') HLT4.out.1 HC.out.1,keep (Below.drewS hb8') HLT4.out.2 HC.out.2.1,keep (Below.drewS hb8') HLT4.out.2 HC.out.2.2.1,keep (Below.drewS hb8') HLT4.out.1 HC.out.2.2.2⟩))
    all_goals
     clear HC HC8
     go_wp2
     go_roundw
     case rel=>
      exact ⟨k+1,z+Xn,en-b,by omega,by go_num,by rw [show (en:Int)-(b:Int)=((en-b:Nat):Int) from by omega],(by have hwz:IntKind.i64.wrap ((z:Int)+(Xn:Int))=((z+Xn:Nat):Int):=(by rw [IntWalk.i64_in _ (by omega)];omega);exact congrArg (Value.int IntKind.i64) hwz),HSG2.out.1,HO8.out,HB8.out.1⟩
     case measure=>simp [intOf];omega
  ·have hkn:k=n:=by omega
   subst hkn
   have HOF:Hid (OVI wr w.heap.size (.slice au k cu) (so T v E k)):=HOV.out.weakF (Nat.le_of_lt HS2.out)
   clear hTw HOV HRW HBL
   by_cases h1:en=0
   ·by_cases h2:st=0
    ·have HD:Hid (sg T v E k=some (0,0)∧True):=⟨by rw [HSG.out.1,h1,h2],trivial⟩
     subst h1 h2
     clear HSG
     go_wp2
     exact bodyPost_ret (v:=.tuple #[.slice au k cu,.bool true]) (by simp [results,Tryz.results161,go_sem]) rfl ⟨_,by rw [decide_eq_true HD.out.1],fun _=>HOF.out,HBB.out.1⟩
    ·have HD:Hid (¬sg T v E k=some (0,0)):=by unfold Hid;rw [HSG.out.1];simp;omega
     have h2i:((st:Int) == 0)=false:=by simp;omega
     subst h1
     clear HSG
     go_wp2
     exact bodyPost_ret (v:=.tuple #[.slice au k cu,.bool false]) (by simp [results,Tryz.results161,go_sem]) rfl ⟨_,by rw [decide_eq_false HD.out],fun h=>absurd h HD.out,HBB.out.1⟩
   ·have HD:Hid (¬sg T v E k=some (0,0)):=by unfold Hid;rw [HSG.out.1];simp;omega
    have h2i:((en:Int) == 0)=false:=by simp;omega
    clear HSG
    go_wp2
    exact bodyPost_ret (v:=.tuple #[.slice au k cu,.bool false]) (by simp [results,Tryz.results161,go_sem]) rfl ⟨_,by rw [decide_eq_false HD.out],fun h=>absurd h HD.out,HBB.out.1⟩
theorem l3get_any (a:Option Addr) (ca:Nat) (ls:List Int) (x:Option Addr) (cx:Nat) (zs:List Int) (N v n:Nat) (T:List Int) (w:World) (ha:Ins w a ls) (hx:Byt w x zs) (hz:zs=enc N v) (hN:N≤4096) (hn:n≤300) (hnb:normB ls=true) (hTe:tb (pl (fl 0 ls) (plc 64)) ls 64=T) :
  Calls Tryz.prog 161 #[.slice a ls.length ca,.agg #[.slice x zs.length cx,.int .i64 N],.int .i64 n] w fun e w'=>
   ∃ u,e=.returned (.tuple #[u,.bool (fgB T v N n)])∧(fgB T v N n=true→OVI w' w.heap.size u (so T v (N-6) n))∧Below w.heap.size w w':=by
 by_cases h6:N<6
 ·refine (l3get_short a ca ls x cx zs N v n T w ha hx hz hN hn hnb h6 hTe).mono ?_
  rintro e w' ⟨rfl,hb⟩
  exact ⟨_,by rw [fgB_short h6],fun h=>by rw [fgB_short h6] at h;simp at h,hb⟩
 ·obtain ⟨E,rfl⟩:∃ E,N=E+6:=⟨N-6,by omega⟩
  refine (l3get_long a ca ls x cx zs E (E+6) v n T w ha hx hz hN hn hnb rfl hTe).mono ?_
  rintro e w' ⟨u,rfl,h1,hb⟩
  have e1:fgB T v (E+6) n=decide (sg T v E n=some (0,0)):=by unfold fgB;simp
  rw [Nat.add_sub_cancel,e1]
  exact ⟨u,rfl,fun h=>h1 (by simpa using h),hb⟩
theorem val_encB (M V:Nat) (h:V<2 ^ M):val (enc M V)=V:=by
 unfold enc
 rw [val_encL]
 refine Nat.mod_eq_of_lt (Nat.lt_of_lt_of_le h ?_)
 rw [show 256=2 ^ 8 from rfl,←Nat.pow_mul]
 exact Nat.pow_le_pow_right (by omega) (by omega)
theorem okB_encB (M V:Nat) (hM:M≤4096) (h:V<2 ^ M):okB (M:Int) (enc M V)=true:=by
 have hl:=enc_len M V
 by_cases h8:M % 8=0
 ·exact okB_full (by omega) (by omega) (by rw [hl];omega) (by omega)
 ·rw [okB_last (by omega) (by omega) (by rw [hl];omega) (by omega)]
  have h1:=enc_last M V h h8
  have h2:=enc_top M V h
  rw [show (enc M V).length-1=M / 8 from by omega,h1,show ((M:Int) % 8).toNat=M % 8 from by omega]
  have e:(((V / 256 ^ (M / 8):Nat):Int) / 2 ^ (M % 8))=((V / 256 ^ (M / 8) / 2 ^ (M % 8):Nat):Int):=by simp
  rw [e,Nat.div_eq_of_lt h2]
  rfl
set_option linter.unusedSimpArgs false
theorem bt_one (V p j:Nat):bt V p (j+1)=bt V p j+(V / 2 ^ (p+j) % 2)*2 ^ j:=by
 rw [bt_split,Nat.mul_comm]
 rfl
theorem ownV_ge {w:World} {B k:Nat} {v:Value} {zs:List Int} (h:OwnV w B v zs) (hk:v.ownBlock=some k):B≤k∧k<w.heap.size:=h.1.lt k hk
theorem ownV_below {w w':World} {B:Nat} {v:Value} {zs:List Int} (h:OwnV w B v zs) (hb:Below w.heap.size w w'):OwnV w' B v zs:=by
 rcases h.1.2 with ⟨h1,h2⟩ | ⟨g,cap,cur,rfl,r⟩
 ·exact ⟨⟨h.1.1,.inl ⟨h1,h2⟩⟩,h.2⟩
 ·exact Own.below (g:=g) (cap:=cap) h hb nl
structure StayP (w wr:World) (a:Option Addr) (K ca:Nat) (N:Int) (B:Nat):Prop where
 bel:Below w.heap.size w wr
 a0:wr.cell? ⟨w.heap.size,0,none⟩=some (.slice a K ca)
 a1:wr.cell? ⟨w.heap.size,1,none⟩=some (.int .i64 N)
 r0:wr.cell? ⟨w.heap.size+1,0,none⟩=some (.slice none 0 0)
 r1:wr.cell? ⟨w.heap.size+1,1,none⟩=some (.int .i64 0)
 f0:wr.frozen? ⟨w.heap.size+1,0,none⟩=false
 f1:wr.frozen? ⟨w.heap.size+1,1,none⟩=false
 hB:B=w.heap.size+1+1
 sz:B≤wr.heap.size
theorem StayP.only {S:Nat→Prop} {w wr w':World} {a:Option Addr} {K ca:Nat} {N:Int} {B:Nat} (h:StayP w wr a K ca N B) (ho:Only S wr w') (hs:∀ k,S k→B≤k):StayP w w' a K ca N B:=by
 have hB:=h.hB;have hz:=h.sz;have hs':=ho.size
 have n:∀ k,k<B→¬S k:=fun k hk hS=>by have:=hs k hS;omega
 exact ⟨h.bel.trans (ho.below (by omega) (fun k hk=>by have:=hs k hk;omega)),ho.cell (by omega) (n _ (by omega)) h.a0,ho.cell (by omega) (n _ (by omega)) h.a1,ho.cell (by omega) (n _ (by omega)) h.r0,ho.cell (by omega) (n _ (by omega)) h.r1,
  (World.frozen?_of_block (ho.block (w.heap.size+1) (by omega) (n _ (by omega)))).trans h.f0,(World.frozen?_of_block (ho.block (w.heap.size+1) (by omega) (n _ (by omega)))).trans h.f1,h.hB,by omega⟩
theorem StayP.step {w wr w':World} {a:Option Addr} {K ca:Nat} {N:Int} {B:Nat} (h:StayP w wr a K ca N B) (hb:Below wr.heap.size wr w'):StayP w w' a K ca N B:=
 h.only (Only.ofBelow (S:=fun _=>False) hb nl) (by simp)
theorem StayP.start (w:World) (a:Option Addr) (K ca:Nat) (N:Int):StayP w ((w.alloc (Obj.cells #[.slice a K ca,.int .i64 N] 155)).alloc (Obj.cells #[.slice none 0 0,.int .i64 0] 155)) a K ca N (w.heap.size+1+1):=by
 have hn:=heap_alloc_new (w.alloc (Obj.cells #[.slice a K ca,.int .i64 N] 155)) (Obj.cells #[.slice none 0 0,.int .i64 0] 155)
 simp only [World.size_alloc] at hn
 refine ⟨((Below.refl _ _).alloc nl _).alloc (by simp) _,keepA _ (by simp) (by simp),keepA _ (by simp) (by simp),cellR (j:=0) hn rfl,cellR (j:=1) hn rfl,frozenR hn,frozenR hn,rfl,by simp⟩
theorem l5part_any (a:Option Addr) (cap:Nat) (zs:List Int) (n V p q:Nat) (w:World) (hb:Byt w a zs) (hz:zs=enc n V) (hn:n≤4096) (hpq:p≤q) (hq:q≤n) :
  Calls Tryz.prog 159 #[.agg #[.slice a zs.length cap,.int .i64 n],.int .i64 p,.int .i64 q] w fun e w'=>
   ∃ a' cp,e=.returned (.agg #[.slice a' (enc (q-p) (bt V p (q-p))).length cp,.int .i64 ((q-p:Nat):Int)])∧Mine w' w.heap.size w'.heap.size a' cp (enc (q-p) (bt V p (q-p)))∧Below w.heap.size w w':=by
 obtain ⟨d,hd⟩:∃ d,d=q-p:=⟨q-p,rfl⟩
 rw [←hd]
 have HD:Hid (q=p+d):=by simp [Hid];omega
 clear hd
 have HZ:Hid (zs=enc n V∧zs.length=(n+7) / 8):=⟨hz,by rw [hz,enc_len]⟩
 clear hz
 have hst:=StayP.start w a zs.length cap (n:Int)
 obtain ⟨B,hB⟩:∃ B,B=w.heap.size+1+1:=⟨_,rfl⟩
 rw [←hB] at hst
 have HST:Hid _:=hst.step ((Below.refl _ _).alloc nl (Obj.cells #[.slice none 0 0,.int .i64 0] 155))
 have HN:Hid _:=heap_alloc_new ((w.alloc (Obj.cells #[.slice a zs.length cap,.int .i64 n] 155)).alloc (Obj.cells #[.slice none 0 0,.int .i64 0] 155)) (Obj.cells #[.slice none 0 0,.int .i64 0] 155)
 have HBQ:Hid (B=w.heap.size+1+1):=hB
 clear hst hB
 go_enter Tryz.func159,Tryz.ntmps159
 go_wp2
 rw [←HBQ.out]
 go_loopw [8] (fun i wr=>∃ (k:Nat) (u:Value),p+k≤q∧i=.int .i64 ((p+k:Nat):Int)∧wr.heap[B]?=some (.cells #[u,.int .i64 (k:Nat)] 155 (0,0))∧OwnV wr B u (enc k (bt V p k))∧StayP w wr a zs.length cap (n:Int) B) (fun i _=>q-(intOf i).toNat)
 case atStart=>
  refine ⟨0,.slice none 0 0,hpq,rfl,?_,?_,HST.out⟩
  ·have:=HN.out
   simp only [World.size_alloc] at this
   rw [←HBQ.out] at this
   exact this
  ·rw [bt_zero]
   refine ⟨⟨?_,.inl ⟨rfl,rfl⟩⟩,by simp [enc,encL]⟩
   rfl
 case round=>
  obtain ⟨k,u,hk,rfl,hRr,hur,hst⟩:=hrel
  have hRl:B<wr.heap.size:=(Array.getElem?_eq_some_iff.1 hRr).1
  by_cases hlt:p+k<q
  ·have p0:=hst.a0
   have p1:=hst.a1
   have HB:Hid (bitAt zs ((p:Int)+(k:Int)).toNat=V / 2 ^ (p+k) % 2):=by
    have:=enc_bit n V (p+k) (by omega)
    rw [←HZ.out.1] at this
    rw [show ((p:Int)+(k:Int)).toNat=p+k from by omega]
    exact this
   have hbit:V / 2 ^ (p+k) % 2<2:=Nat.mod_lt _ (by omega)
   have HP:Hid (bt V p k+(V / 2 ^ (p+k) % 2)*2 ^ k=bt V p (k+1)):=(bt_one V p k).symm
   generalize V / 2 ^ (p+k) % 2=b at *
   have HUR:Hid _:=(⟨hur,hRr⟩:_∧_)
   clear hur hRr
   go_wp2_with fail
   refine (l1bit_any a cap zs (n:Int) _ _ (hb.below hst.bel nl) (by omega) (by have:=HZ.out.2;omega) (by omega)).mono ?_
   rintro e w3 ⟨rfl,hb3⟩
   rw [HB.out]
   have hst3:=hst.step hb3
   have hur3:=ownV_below HUR.out.1 hb3
   have hR3:=(hb3.block _ hRl).trans HUR.out.2
   have z3:=hb3.size
   clear hb3 hst p0 p1
   go_wp2_with fail
   refine (l1put_any B B u k (bt V p k) (b:Int) 1 _ hR3 hur3 (bt_lt _ _ _) (by omega) (by omega) (by omega) (by omega) (by omega) (by omega)).mono ?_
   rintro e w4 ⟨rfl,v',hR4,hv4,honly4,hrow4⟩
   have hst4:=hst3.only honly4 (fun j hj=>by
    rcases hj with hj | hj
    ·omega
    ·exact (ownV_ge hur3 hj).1)
   have hbt:(b:Int).toNat % 2 ^ (1:Int).toNat=b:=by
    simp
    omega
   rw [hbt,HP.out] at hv4
   have HF:Hid _:=(⟨hR4,hv4,hst4⟩:_∧_∧_)
   clear hR4 hv4 hst4 honly4 hrow4 hur3 hR3 hst3
   go_wp2
   go_roundw
   case rel=>exact ⟨k+1,v',by omega,by go_num,HF.out.1,HF.out.2.1,HF.out.2.2⟩
   case measure=>simp [intOf];omega
  ·have hkm:k=d:=by have:=HD.out;omega
   subst hkm
   obtain ⟨a',cp,rfl,hmine⟩:=hur.mine
   generalize hYS:enc k (bt V p k)=xs at *
   have HYS:Hid (enc k (bt V p k)=xs):=hYS
   clear hYS
   have d0:wr.cell? ⟨B,0,none⟩=some (.slice a' xs.length cp):=cellR (j:=0) hRr rfl
   have d1:wr.cell? ⟨B,1,none⟩=some (.int .i64 (k:Nat)):=cellR (j:=1) hRr rfl
   have HM:Hid (Mine wr B wr.heap.size a' cp xs):=hmine
   have x0:=hst.r0
   have x1:=hst.r1
   have y0:=hst.f0
   have y1:=hst.f1
   have HS:Hid _:=hst
   clear hst hmine hur hRr
   go_wp2
   refine bodyPost_ret (v:=.agg #[.slice a' xs.length cp,.int .i64 (k:Nat)]) (by simp [results,Tryz.results159,go_sem,x0,x1]) rfl ⟨a',cp,by rw [HYS.out],?_,?_⟩
   ·rw [HYS.out]
    have hO3:Only (fun b=>b=w.heap.size+1) wr ((wr.setCell ⟨w.heap.size+1,0,none⟩ (.slice a' xs.length cp)).setCell ⟨w.heap.size+1,1,none⟩ (.int .i64 (k:Nat))):=
     Only.setCell (Only.setCell (Only.refl (fun b=>b=w.heap.size+1) wr) (p:=⟨w.heap.size+1,0,none⟩) (.inl rfl) _) (p:=⟨w.heap.size+1,1,none⟩) (.inl rfl) _
    have hBB:=HBQ.out
    exact ((HM.out.only hO3 (fun b h1 _=>by omega)).mono (by omega) (by simp [World.setCell]))
   ·exact ((HS.out.bel.setCell (by simp) _).setCell (by simp) _)
theorem RdR.yes {n V m:Nat} {w w':World} {ts:List Int} {M U:Nat} {a1 a2:Option Addr} {c1 c2:Nat} (hb:Below w.heap.size w w') (h:RdS n V m ts M U) (h2:MinI w' w.heap.size w'.heap.size a1 c1 ts) (h3:Mine w' w.heap.size w'.heap.size a2 c2 (enc M U)) :
  RdR n V m w (.returned (.tuple #[.slice a1 ts.length c1,.agg #[.slice a2 (enc M U).length c2,.int .i64 (M:Nat)],.bool true])) w':=⟨hb,.inl ⟨ts,M,U,a1,c1,a2,c2,h,rfl,h2,h3⟩⟩
theorem RdR.no {n V m:Nat} {w w':World} {v:Value} {a2:Option Addr} {l2 c2:Nat} {M:Int} (hb:Below w.heap.size w w') (h:¬∃ ts M U,RdS n V m ts M U) :
  RdR n V m w (.returned (.tuple #[v,.agg #[.slice a2 l2 c2,.int .i64 M],.bool false])) w':=⟨hb,.inr ⟨h,v,a2,l2,c2,M,rfl⟩⟩
theorem l5read_short (n V m:Nat) (a:Option Addr) (cap l:Nat) (w:World) (h8:n<8) :
  Calls Tryz.prog 118 #[.agg #[.slice a l cap,.int .i64 (n:Nat)],.int .i64 m] w (RdR n V m w):=by
 have HN:Hid (¬∃ ts M U,RdS n V m ts M U):=by
  rintro ⟨ts,M,U,h,-⟩
  omega
 have h8':(n:Int)<8:=by omega
 go_enter Tryz.func118,Tryz.ntmps118
 go_wp2
 refine bodyPost_ret (v:=.tuple #[.slice none 0 0,.agg #[.slice none 0 0,.int .i64 0],.bool false]) (by simp [results,Tryz.results118,go_sem]) rfl (RdR.no ?_ HN.out)
 repeat (first | exact Below.refl _ _ | refine Below.setCell ?_ (by simp) _ | refine Below.alloc ?_ (by simp) _)
theorem StayP.last {w wr:World} {a:Option Addr} {K ca:Nat} {N:Int} {B:Nat} (h:StayP w wr a K ca N B) (u v:Value) :
  Only (fun b=>b=w.heap.size+1) wr ((wr.setCell ⟨w.heap.size+1,0,none⟩ u).setCell ⟨w.heap.size+1,1,none⟩ v)∧Below w.heap.size w ((wr.setCell ⟨w.heap.size+1,0,none⟩ u).setCell ⟨w.heap.size+1,1,none⟩ v):=
 ⟨Only.setCell (Only.setCell (Only.refl (fun b=>b=w.heap.size+1) wr) (p:=⟨w.heap.size+1,0,none⟩) (.inl rfl) _) (p:=⟨w.heap.size+1,1,none⟩) (.inl rfl) _,(h.bel.setCell (by simp) _).setCell (by simp) _⟩
theorem l5read_len (n V:Nat) (a:Option Addr) (cap:Nat) (zs:List Int) (w:World) (hb:Byt w a zs) (hz:zs=enc n V) (hV:V<2 ^ n) (hn:n≤4096) (h8:8≤n) :
  Calls Tryz.prog 118 #[.agg #[.slice a zs.length cap,.int .i64 (n:Nat)],.int .i64 2] w (RdR n V 2 w):=by
 have hst:=StayP.start w a zs.length cap (n:Int)
 obtain ⟨B,hB⟩:∃ B,B=w.heap.size+1+1:=⟨_,rfl⟩
 rw [←hB] at hst
 have HST:Hid _:=hst
 have HZ:Hid (zs=enc n V∧B=w.heap.size+1+1∧okB (n:Int) zs=true∧val zs=V):=⟨hz,hB,by rw [hz];exact okB_encB n V hn hV,by rw [hz];exact val_encB n V hV⟩
 have HC1:=l1get_any a cap zs (n:Int) 0 8 n V _ (hb.below hst.bel nl) hz (by omega) (by omega) (by omega) (by omega) (by omega)
 clear hst hB hz hV
 have g8:¬(n:Int)<8:=by omega
 go_enter Tryz.func118,Tryz.ntmps118
 go_wp2_with fail
 refine HC1.mono ?_
 clear HC1
 rintro e w1 ⟨rfl,hb1⟩
 have hst1:=HST.out.step hb1
 rw [show V / 2 ^ (0:Int).toNat % 2 ^ (8:Int).toNat=bt V 0 8 from rfl]
 obtain ⟨N,hNe⟩:∃ N,N=bt V 0 8:=⟨_,rfl⟩
 have hN8:N<256:=by rw [hNe];exact bt_lt V 0 8
 rw [←hNe]
 have HNE:Hid (N=bt V 0 8∧True):=⟨hNe,trivial⟩
 clear hNe HST hb1
 have HC2:=specLensGet_ok a cap zs n 8 40 w1 (hb.below hst1.bel nl) HZ.out.2.2.1 (by rw [HZ.out.2.2.2];exact HZ.out.1) hn h8 (by omega) (by omega)
 rw [HZ.out.2.2.2] at HC2
 have p0:=hst1.a0
 have p1:=hst1.a1
 have HST1:Hid _:=hst1
 clear hst1
 go_wp2_with fail
 refine HC2.mono ?_
 clear HC2
 rintro e w2 ⟨hb2,hy2,hno2⟩
 have hst2:=HST1.out.step hb2
 by_cases hex:∃ res q,giY n V 8 40 res q
 ·obtain ⟨res,q,hgi⟩:=hex
  obtain ⟨a2,c2,rfl,hm2⟩:=hy2 res q hgi
  obtain ⟨-,hr2,-⟩:=lensB_okG hgi.2
  have hqn:q≤n:=gi_le n V 40 40 8 [] false res q h8 hgi.1
  have HC3:=l2get_any a2 c2 res a cap zs n V q N w2 hm2.byt (hb.below hst2.bel nl) HZ.out.1 (by omega) hqn hr2 (by omega)
  have HGI:Hid (giY n V 8 40 res q):=hgi
  have p20:=hst2.a0
  have p21:=hst2.a1
  have HST2:Hid _:=hst2
  clear hy2 hno2 hm2 hgi hst2 hb2 HST1 p0 p1
  go_wp2_with fail
  refine HC3.mono ?_
  clear HC3
  rintro e w3 ⟨hb3,⟨ts,E,u,hl,hrds,hov,rfl⟩ | ⟨ts,E,hl,hrds,hno,rfl⟩⟩
  ·have hst3:=HST2.out.step hb3
   have hEn:E≤n:=hrds.le hqn
   obtain ⟨a3,c3,rfl,hm3⟩:=hov.mine
   have HC4:=l5part_any a cap zs n V E n w3 (hb.below hst3.bel nl) HZ.out.1 hn hEn nl
   have HY:Hid (RdS n V 2 ts (n-E) (bt V E (n-E))):=⟨h8,.inl ⟨rfl,E,⟨res,q,HGI.out,by rw [←HNE.out.1];exact hl,hrds⟩,hEn,rfl,rfl⟩⟩
   have HM3:Hid (MinI w3 w2.heap.size w3.heap.size a3 c3 ts):=hm3
   have p30:=hst3.a0
   have p31:=hst3.a1
   have hsz2:=HST2.out.sz
   have HST3:Hid _:=hst3
   obtain ⟨d,hd⟩:∃ d,d=n-E:=⟨_,rfl⟩
   rw [←hd] at HC4 HY
   obtain ⟨U,hU⟩:∃ U,U=bt V E d:=⟨_,rfl⟩
   rw [←hU] at HC4 HY
   obtain ⟨es,hes⟩:∃ es,es=enc d U:=⟨_,rfl⟩
   rw [←hes] at HC4
   have HES:Hid (es=enc d U∧True):=⟨hes,trivial⟩
   generalize htl:ts.length=tl at *
   have HTL:Hid (ts.length=tl∧True):=⟨htl,trivial⟩
   clear hb3 hl hrds hov hm3 hst3 HST2 p20 p21 hd hU hes htl
   go_wp2_with fail
   refine HC4.mono ?_
   clear HC4
   rintro e w4 ⟨a4,c4,rfl,hm4,hb4⟩
   have hst4:=HST3.out.step hb4
   have x0:=hst4.r0
   have x1:=hst4.r1
   have y0:=hst4.f0
   have y1:=hst4.f1
   have HST4:Hid _:=hst4
   have hsz3:=HST3.out.sz
   have HM4:Hid (MinI w4 w2.heap.size w4.heap.size a3 c3 ts∧Mine w4 w3.heap.size w4.heap.size a4 c4 es):=⟨(HM3.out.below hb4).mono nl hb4.size,hm4⟩
   clear hm4 hb4 hst4 HST3 p30 p31 HM3
   go_wp2
   obtain ⟨hon,hbel⟩:=HST4.out.last (.slice a4 es.length c4) (.int .i64 (d:Nat))
   have hBB:=HZ.out.2.1
   have hsz:=hon.size
   refine bodyPost_ret (v:=.tuple #[.slice a3 tl c3,.agg #[.slice a4 es.length c4,.int .i64 (d:Nat)],.bool true]) (by simp [results,Tryz.results118,go_sem,x0,x1]) rfl ?_
   rw [←HTL.out.1,HES.out.1]
   rw [HES.out.1] at hon hbel hsz
   refine RdR.yes hbel HY.out ?_ ?_
   ·exact (HM4.out.1.only hon (fun b h1 _=>by omega)).mono (by omega) hsz
   ·rw [←HES.out.1]
    rw [←HES.out.1] at hon hsz
    exact (HM4.out.2.only hon (fun b h1 _=>by omega)).mono (by omega) hsz
  ·have HNO:Hid (¬∃ ts M U,RdS n V 2 ts M U):=by
    rintro ⟨ts',M',U',-,⟨-,E',⟨res',q',hg',hl',hr'⟩,-⟩ | ⟨h,-⟩⟩
    ·obtain ⟨rfl,rfl⟩:res=res'∧q=q':=by have:=hg'.1;rw [HGI.out.1] at this;simpa using this
     exact hr'.stuck hrds (by rw [hl',←HNE.out.1];exact hl) hno
    ·exact h rfl
   have hst3:=HST2.out.step hb3
   have x0:=hst3.r0
   have x1:=hst3.r1
   have y0:=hst3.f0
   have y1:=hst3.f1
   have HST3:Hid _:=hst3
   clear hb3 hl hrds hno hst3 HST2 p20 p21 HGI
   go_wp2
   exact bodyPost_ret (v:=.tuple #[.slice none 0 0,.agg #[.slice none 0 0,.int .i64 0],.bool false]) (by simp [results,Tryz.results118,go_sem,x0,x1]) rfl (RdR.no (HST3.out.last _ _).2 HNO.out)
 ·obtain rfl:=hno2 hex
  have HNO:Hid (¬∃ ts M U,RdS n V 2 ts M U):=by
   rintro ⟨ts',M',U',-,⟨-,E',⟨res',q',hg',-⟩,-⟩ | ⟨h,-⟩⟩
   ·exact hex ⟨res',q',hg'⟩
   ·exact h rfl
  have x0:=hst2.r0
  have x1:=hst2.r1
  have y0:=hst2.f0
  have y1:=hst2.f1
  have HST2:Hid _:=hst2
  clear hy2 hno2 hst2 hb2 HST1 p0 p1 hex
  go_wp2
  exact bodyPost_ret (v:=.tuple #[.slice none 0 0,.agg #[.slice none 0 0,.int .i64 0],.bool false]) (by simp [results,Tryz.results118,go_sem,x0,x1]) rfl (RdR.no (HST2.out.last _ _).2 HNO.out)
theorem l5read_tab (n V:Nat) (a:Option Addr) (cap:Nat) (zs:List Int) (w:World) (hb:Byt w a zs) (hz:zs=enc n V) (hV:V<2 ^ n) (hn:n≤4096) (h8:8≤n) :
  Calls Tryz.prog 118 #[.agg #[.slice a zs.length cap,.int .i64 (n:Nat)],.int .i64 3] w (RdR n V 3 w):=by
 have hst:=StayP.start w a zs.length cap (n:Int)
 obtain ⟨B,hB⟩:∃ B,B=w.heap.size+1+1:=⟨_,rfl⟩
 rw [←hB] at hst
 have HST:Hid _:=hst
 have HZ:Hid (zs=enc n V∧B=w.heap.size+1+1):=⟨hz,hB⟩
 have HC1:=l1get_any a cap zs (n:Int) 0 8 n V _ (hb.below hst.bel nl) hz (by omega) (by omega) (by omega) (by omega) (by omega)
 clear hst hB hz hV
 have g8:¬(n:Int)<8:=by omega
 go_enter Tryz.func118,Tryz.ntmps118
 go_wp2_with fail
 refine HC1.mono ?_
 clear HC1
 rintro e w1 ⟨rfl,hb1⟩
 have hst1:=HST.out.step hb1
 rw [show V / 2 ^ (0:Int).toNat % 2 ^ (8:Int).toNat=bt V 0 8 from rfl]
 obtain ⟨N,hNe⟩:∃ N,N=bt V 0 8:=⟨_,rfl⟩
 have hN8:N<256:=by rw [hNe];exact bt_lt V 0 8
 rw [←hNe]
 have HNE:Hid (N=bt V 0 8∧True):=⟨hNe,trivial⟩
 clear hNe HST hb1
 have HC2:=l3getNorm_any a cap zs n V 8 40 w1 (hb.below hst1.bel nl) HZ.out.1 hn h8 (by omega) (by omega)
 have p0:=hst1.a0
 have p1:=hst1.a1
 have HST1:Hid _:=hst1
 clear hst1
 go_wp2_with fail
 refine HC2.mono ?_
 clear HC2
 rintro e w2 ⟨hb2,hy2,hno2⟩
 have hst2:=HST1.out.step hb2
 by_cases hex:gotN n V 8 40
 ·obtain ⟨rfl,hown⟩:=hy2 hex
  have HGX:Hid (gotN n V 8 40∧normB (gXs V 8 40)=true∧(gXs V 8 40).length=40):=⟨hex,got_normB (by omega) (by omega) hex,gXs_len V 8 40⟩
  have p20:=hst2.a0
  have p21:=hst2.a1
  have HST2:Hid _:=hst2
  have HOW:Hid (OwI w2 w1.heap.size (w1.heap.size+1) 40 (gXs V 8 40)):=hown
  obtain ⟨A,hA⟩:∃ A,A=(gL V 8 40).2:=⟨_,rfl⟩
  rw [←hA]
  have HA:Hid (A=(gL V 8 40).2∧True):=⟨hA,trivial⟩
  clear hy2 hno2 hown hst2 hb2 HST1 p0 p1 hA hex
  by_cases hA9:A+9≤n
  ·have g9:¬((n:Int)-9<(A:Int)):=by omega
   have HC3:=l1get_any a cap zs (n:Int) (A:Int) 9 n V w2 (hb.below HST2.out.bel nl) HZ.out.1 (by omega) (by omega) (by omega) (by omega) (by omega)
   rw [show V / 2 ^ ((A:Nat):Int).toNat % 2 ^ (9:Int).toNat=bt V A 9 from rfl] at HC3
   obtain ⟨k,hk⟩:∃ k,k=bt V A 9:=⟨_,rfl⟩
   have hk9:k<512:=by rw [hk];exact bt_lt V A 9
   rw [←hk] at HC3
   have HK:Hid (k=bt V A 9∧True):=⟨hk,trivial⟩
   clear hk
   go_wp2_with fail
   refine HC3.mono ?_
   clear HC3
   rintro e w3 ⟨rfl,hb3⟩
   have hst3:=HST2.out.step hb3
   have HOW3:Hid (OwI w3 w1.heap.size (w1.heap.size+1) 40 (gXs V 8 40)):=HOW.out.below hb3 nl
   have p30:=hst3.a0
   have p31:=hst3.a1
   have HST3:Hid _:=hst3
   clear hst3 hb3 HST2 HOW p20 p21
   by_cases hkn:A+9+k≤n
   ·have gk:¬((n:Int)-(k:Int)<(A:Int)+9):=by omega
    have HC4:=l5part_any a cap zs n V (A+9+k) n w3 (hb.below HST3.out.bel nl) HZ.out.1 hn hkn nl
    obtain ⟨d,hd⟩:∃ d,d=n-(A+9+k):=⟨_,rfl⟩
    rw [←hd] at HC4
    obtain ⟨X,hX⟩:∃ X,X=bt V (A+9+k) d:=⟨_,rfl⟩
    rw [←hX] at HC4
    obtain ⟨es,hes⟩:∃ es,es=enc d X:=⟨_,rfl⟩
    rw [←hes] at HC4
    have HES:Hid (es=enc d X∧X=bt V (A+9+k) d∧d=n-(A+9+k)):=⟨hes,hX,hd⟩
    have hdn:d≤n:=by omega
    clear hd hX hes
    go_wp2_with fail
    rw [show ((A:Int)+9+(k:Int))=((A+9+k:Nat):Int) from by omega]
    refine HC4.mono ?_
    clear HC4
    rintro e w4 ⟨a4,c4,rfl,hm4,hb4⟩
    have hst4:=HST3.out.step hb4
    have HOW4:Hid (OwI w4 w1.heap.size (w1.heap.size+1) 40 (gXs V 8 40)):=HOW3.out.below hb4 nl
    obtain ⟨xs,hxs⟩:∃ xs,xs=gXs V 8 40:=⟨_,rfl⟩
    have HXS:Hid (xs=gXs V 8 40∧True):=⟨hxs,trivial⟩
    have hx40:xs.length=40:=by rw [hxs];exact HGX.out.2.2
    obtain ⟨T,hT⟩:∃ T,T=tbN V 8:=⟨_,rfl⟩
    have hins:Ins w4 (some ⟨w1.heap.size+1,0,none⟩) xs:=by rw [hxs];exact HOW4.out.mine.byt
    have HC5:=l3get_any (some ⟨w1.heap.size+1,0,none⟩) 40 xs a4 c4 es d X N T w4 hins hm4.byt HES.out.1 (by omega) (by omega) (by rw [hxs];exact HGX.out.2.1) (by rw [hT,hxs];rfl)
    rw [hx40] at HC5
    have HT:Hid (T=tbN V 8∧True):=⟨hT,trivial⟩
    have HST4:Hid _:=hst4
    clear hst4 hb4 HST3 HOW3 p30 p31 hm4 hins hxs hx40 hT
    go_wp2_with fail
    refine HC5.mono ?_
    clear HC5
    rintro e w5 ⟨u,rfl,hov,hb5⟩
    have hst5:=HST4.out.step hb5
    have HC6:=l5part_any a cap zs n V (A+9) (A+9+k) w5 (hb.below hst5.bel nl) HZ.out.1 hn (by omega) hkn
    rw [show A+9+k-(A+9)=k from by omega] at HC6
    obtain ⟨Y,hY⟩:∃ Y,Y=bt V (A+9) k:=⟨_,rfl⟩
    rw [←hY] at HC6
    obtain ⟨fs,hfs⟩:∃ fs,fs=enc k Y:=⟨_,rfl⟩
    rw [←hfs] at HC6
    have HFS:Hid (fs=enc k Y∧Y=bt V (A+9) k):=⟨hfs,hY⟩
    have HU:Hid (fgB T X d N=true→OVI w5 w4.heap.size u (so T X (d-6) N)):=hov
    have p50:=hst5.a0
    have p51:=hst5.a1
    have hsz4:=HST4.out.sz
    have HST5:Hid _:=hst5
    clear hst5 hb5 HST4 HOW4 hY hfs hov
    obtain ⟨t,ht⟩:∃ t,t=fgB T X d N:=⟨_,rfl⟩
    rw [←ht]
    have HTT:Hid (t=fgB T X d N∧True):=⟨ht,trivial⟩
    clear ht
    go_wp2_with fail
    refine HC6.mono ?_
    clear HC6
    rintro e w6 ⟨a6,c6,rfl,hm6,hb6⟩
    have hst6:=HST5.out.step hb6
    have x0:=hst6.r0
    have x1:=hst6.r1
    have y0:=hst6.f0
    have y1:=hst6.f1
    have hsz5:=HST5.out.sz
    have HST6:Hid _:=hst6
    have HM6:Hid (Mine w6 w5.heap.size w6.heap.size a6 c6 fs∧Below w5.heap.size w5 w6):=⟨hm6,hb6⟩
    clear hm6 hb6 hst6 HST5 p50 p51
    go_wp2
    obtain ⟨hon,hbel⟩:=HST6.out.last (.slice a6 fs.length c6) (.int .i64 (k:Nat))
    have hBB:=HZ.out.2
    have hsz:=hon.size
    refine bodyPost_ret (v:=.tuple #[u,.agg #[.slice a6 fs.length c6,.int .i64 (k:Nat)],.bool t]) (by simp [results,Tryz.results118,go_sem,x0,x1]) rfl ?_
    cases t with
    | true=>
     obtain ⟨a5,c5,rfl,hm5⟩:=(HU.out HTT.out.1.symm).mine
     have HY:RdS n V 3 (so T X (d-6) N) k Y:=by
      refine ⟨h8,.inr ⟨by omega,A+9,⟨HGX.out.1,by rw [HA.out.1],hA9,by rw [←HA.out.1];exact HK.out.1.symm,hkn,?_,?_⟩,hkn,HFS.out.2⟩⟩
      ·rw [←HES.out.2.2,←HES.out.2.1,←HT.out.1,←HNE.out.1]
       exact HTT.out.1.symm
      ·rw [←HES.out.2.2,←HES.out.2.1,←HT.out.1,←HNE.out.1]
     rw [HFS.out.1] at hon hbel hsz HM6 ⊢
     refine RdR.yes hbel HY ?_ ?_
     ·exact (((hm5.below HM6.out.2).mono nl HM6.out.2.size).only hon (fun b h1 _=>by omega)).mono (by omega) hsz
     ·exact (HM6.out.1.only hon (fun b h1 _=>by omega)).mono (by omega) hsz
    | false=>
     refine RdR.no hbel ?_
     rintro ⟨ts',M',U',-,⟨h,-⟩ | ⟨-,E',⟨h1,h2,h3,h4,h5,h6,h7⟩,-⟩⟩
     ·omega
     ·have e1:E'=A+9:=by rw [←h2,HA.out.1]
      have e2:M'=k:=by rw [←h4,←HA.out.1];exact HK.out.1.symm
      rw [e1,e2,←HES.out.2.2,←HES.out.2.1,←HT.out.1,←HNE.out.1,←HTT.out.1] at h6
      cases h6
   ·have gk:(n:Int)-(k:Int)<(A:Int)+9:=by omega
    have HNO:Hid (¬∃ ts M U,RdS n V 3 ts M U):=by
     rintro ⟨ts',M',U',-,⟨h,-⟩ | ⟨-,E',⟨h1,h2,h3,h4,h5,h6,h7⟩,-⟩⟩
     ·omega
     ·have e1:E'=A+9:=by rw [←h2,HA.out.1]
      have e2:M'=k:=by rw [←h4,←HA.out.1];exact HK.out.1.symm
      omega
    have x0:=HST3.out.r0
    have x1:=HST3.out.r1
    have y0:=HST3.out.f0
    have y1:=HST3.out.f1
    go_wp2
    exact bodyPost_ret (v:=.tuple #[.slice none 0 0,.agg #[.slice none 0 0,.int .i64 0],.bool false]) (by simp [results,Tryz.results118,go_sem,x0,x1]) rfl (RdR.no (HST3.out.last _ _).2 HNO.out)
  ·have g9:(n:Int)-9<(A:Int):=by omega
   have HNO:Hid (¬∃ ts M U,RdS n V 3 ts M U):=by
    rintro ⟨ts',M',U',-,⟨h,-⟩ | ⟨-,E',⟨h1,h2,h3,-⟩,-⟩⟩
    ·omega
    ·have e1:E'=A+9:=by rw [←h2,HA.out.1]
     omega
   have x0:=HST2.out.r0
   have x1:=HST2.out.r1
   have y0:=HST2.out.f0
   have y1:=HST2.out.f1
   go_wp2
   exact bodyPost_ret (v:=.tuple #[.slice none 0 0,.agg #[.slice none 0 0,.int .i64 0],.bool false]) (by simp [results,Tryz.results118,go_sem,x0,x1]) rfl (RdR.no (HST2.out.last _ _).2 HNO.out)
 ·obtain ⟨v,y,rfl⟩:=hno2 hex
  have HNO:Hid (¬∃ ts M U,RdS n V 3 ts M U):=by
   rintro ⟨ts',M',U',-,⟨h,-⟩ | ⟨-,E',⟨h1,-⟩,-⟩⟩
   ·omega
   ·exact hex h1
  have x0:=hst2.r0
  have x1:=hst2.r1
  have y0:=hst2.f0
  have y1:=hst2.f1
  have HST2:Hid _:=hst2
  clear hy2 hno2 hst2 hb2 HST1 p0 p1 hex
  go_wp2
  exact bodyPost_ret (v:=.tuple #[.slice none 0 0,.agg #[.slice none 0 0,.int .i64 0],.bool false]) (by simp [results,Tryz.results118,go_sem,x0,x1]) rfl (RdR.no (HST2.out.last _ _).2 HNO.out)
theorem rdC :RdC:=by
 intro n V m a cap w hn hV hm hb
 by_cases h8:n<8
 ·exact l5read_short n V m a cap _ w h8
 ·rcases hm with rfl | rfl
  ·exact l5read_len n V a cap _ w hb rfl hV hn (by omega)
  ·exact l5read_tab n V a cap _ w hb rfl hV hn (by omega)
def DcA (Y:Option (List Int)) (w:World) (e:Ending) (w':World):Prop:=Below w.heap.size w w' ∧
 ((∃ bs v,Y=some bs∧OVB w' w.heap.size v bs∧e=.returned (.tuple #[v,.bool true]))∨(Y=none∧∃ v,e=.returned (.tuple #[v,.bool false])))
def DcE (Y:Option (List Int)) (w:World) (e:Ending) (w':World):Prop:=Below w.heap.size w w' ∧
 ((∃ bs v,Y=some bs∧OVB w' w.heap.size v bs∧e=.returned (.tuple #[v,.bool true]))∨(Y=none∧e=.returned (.tuple #[.slice none 0 0,.bool false])))
def DecW (xs:List Int) (Y:Option (List Int)):Prop:=(∀ bs,Y=some bs→bs.length=64∧2≤xs.length∧xs.length≤65) ∧
 (∀ (a:Option Addr) (cap:Nat) (w:World),xs.length≤cap→Byt w a xs→Calls Tryz.prog 82 #[.slice a xs.length cap] w (DcA Y w)) ∧
 (∀ (a:Option Addr) (cap:Nat) (w:World),xs.length≤cap→Byt w a xs→SentB w→Calls Tryz.prog 93 #[.slice a xs.length cap] w (DcE Y w))
theorem rbY_unique {o:Option (Nat × Nat)} {m:Nat} {zs bs bs':List Int} (h:RbY o m zs bs) (h':RbY o m zs bs'):bs=bs':=by
 obtain ⟨-,h⟩:=h
 obtain ⟨-,h'⟩:=h'
 rcases h with ⟨e0,rfl⟩ | ⟨e0,-,rfl⟩ | ⟨e0,q,rfl,hy⟩
 ·rcases h' with ⟨-,rfl⟩ | ⟨e1,-⟩ | ⟨e1,-⟩
  ·rfl
  ·omega
  ·omega
 ·rcases h' with ⟨e1,-⟩ | ⟨-,-,rfl⟩ | ⟨e1,-⟩
  ·omega
  ·rfl
  ·omega
 ·rcases h' with ⟨e1,-⟩ | ⟨e1,-⟩ | ⟨-,q',hq,hy'⟩
  ·omega
  ·omega
  ·cases hq
   exact hy.unique hy'
theorem DcP.ans {o:Option (Nat × Nat)} {m:Nat} {zs:List Int} {w w':World} {e:Ending} {Y:Option (List Int)} (hy:∀ bs,RbY o m zs bs→Y=some bs) (hn:(¬∃ bs,RbY o m zs bs)→Y=none) (h:DcP o m zs w e w'):DcA Y w e w':=by
 obtain ⟨hb,⟨bs,v,h1,h2,h3⟩ | ⟨h1,v,h3⟩⟩:=h
 ·exact ⟨hb,.inl ⟨bs,v,hy bs h1,h2,h3⟩⟩
 ·exact ⟨hb,.inr ⟨hn h1,v,h3⟩⟩
theorem decW (xs:List Int) (hl:xs.length≤1048576) (hr:∀ z ∈ xs,0≤z∧z≤255):∃ Y,DecW xs Y:=by
 by_cases h2:xs.length<2∨65<xs.length
 ·refine ⟨none,⟨fun bs h=>(by cases h),?_,?_⟩⟩
  ·intro a cap w hc hb
   refine (l5decode_no a cap xs.length w h2).mono ?_
   rintro e w' ⟨rfl,rfl⟩
   exact ⟨Below.refl _ _,.inr ⟨rfl,_,rfl⟩⟩
  ·intro a cap w hc hb hS
   refine (decodeI_no a cap xs.length w h2 hS).mono ?_
   rintro e w' ⟨hb',rfl⟩
   exact ⟨hb',.inr ⟨rfl,rfl⟩⟩
 ·cases xs with
  | nil=>simp at h2
  | cons x zs=>
   simp only [List.length_cons] at h2
   have h1:1≤zs.length:=by omega
   have h64:zs.length≤64:=by omega
   obtain ⟨m,rfl⟩:=Int.eq_ofNat_of_zero_le (hr x (by simp)).1
   obtain ⟨o,hO⟩:=opnW zs (by omega) (fun z hz=>hr z (by simp [hz]))
   obtain ⟨Y,hY,hN,hYr⟩:∃ Y:Option (List Int),(∀ bs,RbY o m zs bs→Y=some bs)∧((¬∃ bs,RbY o m zs bs)→Y=none)∧(∀ bs,Y=some bs→RbY o m zs bs):=by
    by_cases h:∃ bs,RbY o m zs bs
    ·obtain ⟨bs,hbs⟩:=h
     exact ⟨some bs,fun b hb=>by rw [rbY_unique hbs hb],fun hn=>absurd ⟨bs,hbs⟩ hn,fun b hb=>by cases hb;exact hbs⟩
    ·exact ⟨none,fun b hb=>absurd ⟨b,hb⟩ h,fun _=>rfl,fun b hb=>by cases hb⟩
   refine ⟨Y,⟨fun bs hbs=>⟨(hYr bs hbs).1,by simp only [List.length_cons];omega,by simp only [List.length_cons];omega⟩,?_,?_⟩⟩
   ·intro a cap w hc hb
    simp only [List.length_cons] at hc ⊢
    have key:Calls Tryz.prog 82 #[.slice a (zs.length+1) cap] w (DcP o m zs w):=by
     have cs:m=0∨m=1∨m=2∨m=3∨4≤m:=by omega
     rcases cs with rfl | rfl | rfl | rfl | h4
     ·exact l5decode_raw a cap zs o w hb h1 h64 hc
     ·exact l5decode_run a cap zs o w hb h1 h64 hc
     ·cases o with
      | none=>exact l5decode_symN a cap 2 zs w (.inl rfl) hb h1 h64 hc hO
      | some q=>exact l5decode_sym2 a cap zs q.1 q.2 w hb h1 h64 hc hO rdC
     ·cases o with
      | none=>exact l5decode_symN a cap 3 zs w (.inr rfl) hb h1 h64 hc hO
      | some q=>exact l5decode_sym3 a cap zs q.1 q.2 w hb h1 h64 hc hO rdC
     ·exact l5decode_other a cap m zs o w hb h1 h64 h4
    exact key.mono fun e w' h=>h.ans hY hN
   ·intro a cap w hc hb hS
    simp only [List.length_cons] at hc ⊢
    refine (decodeI_any a cap m zs o w hb h1 h64 hc hO hS).mono ?_
    rintro e w' ⟨hb',⟨bs,v,h1,h2,h3⟩ | ⟨h1,h3⟩⟩
    ·exact ⟨hb',.inl ⟨bs,v,hY bs h1,h2,h3⟩⟩
    ·exact ⟨hb',.inr ⟨hN h1,h3⟩⟩
def DecF (f:List Int→Option (List Int)):Prop:=∀ ls:List Int,ls.length≤1048576→(∀ z ∈ ls,0≤z∧z≤255)→DecW ls (f ls)
theorem decF_ex :∃ f,DecF f:=by
 have h:∀ ls:List Int,∃ Y,(ls.length≤1048576∧∀ z ∈ ls,0≤z∧z≤255)→DecW ls Y:=by
  intro ls
  by_cases hg:ls.length≤1048576∧∀ z ∈ ls,0≤z∧z≤255
  ·obtain ⟨Y,hY⟩:=decW ls hg.1 hg.2
   exact ⟨Y,fun _=>hY⟩
  ·exact ⟨none,fun h=>absurd h hg⟩
 obtain ⟨f,hf⟩:=Classical.skolem.1 h
 exact ⟨f,fun ls h1 h2=>hf ls ⟨h1,h2⟩⟩
structure FewJ (es:List El):Prop where
 n:es.length≤1048576
 l:∀ s ∈ es,s.ls.length≤1048576
 s:elets es≤1048576
def itOk (f:List Int→Option (List Int)) (e:El):Prop:=(0≤e.n∧e.n<16)∧(e.ls=[]∨(f e.ls).isSome=true)
def apT (f:List Int→Option (List Int)) (es:List El) (k:Nat):Prop:=∀ i,i<k→itOk f (es.getD i de)∧∀ j,j<i→(es.getD j de).n≠(es.getD i de).n
def szP (es:List El):Nat:=6+2*es.length+elets es
structure PkR (f:List Int→Option (List Int)) (E O:Int) (es:List El):Prop where
 e0:0≤E
 e1:E≤60000
 o0:0≤O
 o1:O≤60000
 n:es.length≤16
 ap:apT f es es.length
 sz:szP es≤256
theorem apT_succ {f:List Int→Option (List Int)} {es:List El} {k:Nat} (h:apT f es k) (h1:itOk f (es.getD k de)) (h2:∀ j,j<k→(es.getD j de).n≠(es.getD k de).n):apT f es (k+1):=by
 intro i hi
 by_cases e:i=k
 ·subst e;exact ⟨h1,h2⟩
 ·exact h i (by omega)
theorem apT_zero (f:List Int→Option (List Int)) (es:List El):apT f es 0:=fun i hi=>by omega
theorem itOk_ct {f:List Int→Option (List Int)} {e e':El} (h:e.ct=e'.ct):itOk f e↔itOk f e':=by
 obtain ⟨n,a,c,ls⟩:=e
 obtain ⟨n',a',c',ls'⟩:=e'
 simp only [El.ct,Prod.mk.injEq] at h
 obtain ⟨rfl,rfl⟩:=h
 exact Iff.rfl
theorem n_ct {es ts:List El} (h:es.map El.ct=ts.map El.ct) (k:Nat):(es.getD k de).n=(ts.getD k de).n:=by
 have:=congrArg Prod.fst (ctE_get h k)
 exact this
theorem apT_ct {f:List Int→Option (List Int)} {es ts:List El} (h:es.map El.ct=ts.map El.ct) (k:Nat) (ha:apT f es k):apT f ts k:=by
 intro i hi
 obtain ⟨h1,h2⟩:=ha i hi
 refine ⟨(itOk_ct (ctE_get h i)).1 h1,fun j hj=>?_⟩
 rw [←n_ct h j,←n_ct h i]
 exact h2 j hj
theorem PkR.ct {f:List Int→Option (List Int)} {E O:Int} {es ts:List El} (h:es.map El.ct=ts.map El.ct) (hp:PkR f E O es):PkR f E O ts:=by
 have hl:=len_ctE h
 refine ⟨hp.e0,hp.e1,hp.o0,hp.o1,by rw [←hl];exact hp.n,by rw [←hl];exact apT_ct h _ hp.ap,?_⟩
 have:=hp.sz
 unfold szP at *
 rw [←hl,←elets_ct es ts h]
 exact this
end Go.Proofs.YtaibkchbkedjnaaGreatDoor
