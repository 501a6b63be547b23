/-
  l3get of the model.
-/
import Derived.Test.YtaibkchbkedjnaaGreatDoorTb3
import Derived.Test.YtaibkchbkedjnaaGreatDoorSp3
import Derived.Test.YtaibkchbkedjnaaGreatDoorUs1
import Derived.Test.YtaibkchbkedjnaaGreatDoorILens
import Derived.Deep.AppendLies
import Derived.Deep.RegionHeld3
namespace Go.Proofs.YtaibkchbkedjnaaGreatDoor
open Go.RowKit
set_option linter.unusedVariables false

def InR (w:World) (B U:Nat) (a:Option Addr) (fs:List Int):Prop:=
 (∀ z ∈ fs,-9223372036854775808≤z∧z≤9223372036854775807)∧(fs=[]∨∃ g,a=some ⟨g,0,none⟩∧B≤g∧g<U∧U≤w.heap.size∧∀ i,i<fs.length→w.cell? ⟨g,i,none⟩=some (.int .i64 (fs.getD i 0)))
theorem InR.byt {w:World} {B U:Nat} {a:Option Addr} {fs:List Int} (h:InR w B U a fs):Ins w a fs:=by
 refine ⟨h.1,fun hp=>?_⟩
 rcases h.2 with h' | ⟨g,rfl,h1,h2,h4,h3⟩
 ·rw [h'] at hp;simp at hp
 ·exact ⟨g,0,rfl,by omega,fun i hi=>by rw [Nat.zero_add];exact h3 i hi⟩
theorem CV.inR {w:World} {B n c:Nat} {a:Option Addr} {fs:List Int} (h:CV w B (.slice a n c) n fs) (hr:∀ z ∈ fs,-9223372036854775808≤z∧z≤9223372036854775807) (hl:fs.length=n * 3):InR w B w.heap.size a fs:=by
 refine ⟨hr,?_⟩
 rcases h.2 with ⟨h',rfl⟩ | ⟨g,cap,cur,h',hg,r⟩
 ·left
  exact List.eq_nil_of_length_eq_zero (by omega)
 ·right
  simp at h'
  obtain ⟨rfl,rfl⟩:=h'
  have hlt:=(h.lt g rfl).2
  refine ⟨g,rfl,hg,hlt,Nat.le_refl _,fun i hi=>?_⟩
  rw [World.ownsRow.cellAt h i (by omega)]
  simp [List.getElem?_eq_getElem hi]

theorem OVI.onlyF {S:Nat→Prop} {w w':World} {B:Nat} {v:Value} {zs:List Int} (h:OVI w B v zs) (ho:Only S w w') (hs:∀ k,v.ownBlock=some k→¬S k):OVI w' B v zs:=by
 rcases h.1.2 with ⟨h1,h2⟩ | ⟨g,cap,cur,rfl,hg,hh,r⟩
 ·exact ⟨⟨h.1.1,.inl ⟨h1,h2⟩⟩,h.2⟩
 ·exact ⟨⟨h.1.1,.inr ⟨g,cap,cur,rfl,hg,(ho.block g (Array.getElem?_eq_some_iff.1 hh).1 (hs g rfl)).trans hh,r⟩⟩,h.2⟩
theorem OVI.weakF {w:World} {B B':Nat} {v:Value} {zs:List Int} (h:OVI w B v zs) (hB:B'≤B):OVI w B' v zs:=by
 rcases h.1.2 with ⟨h1,h2⟩ | ⟨g,cap,cur,rfl,hg,r⟩
 ·exact ⟨⟨h.1.1,.inl ⟨h1,h2⟩⟩,h.2⟩
 ·exact ⟨⟨h.1.1,.inr ⟨g,cap,cur,rfl,by omega,r⟩⟩,h.2⟩
theorem fgB_short {T:List Int} {v N n:Nat} (h:N<6):fgB T v N n=false:=by
 unfold fgB
 rw [decide_eq_false_iff_not]
 omega
set_option maxRecDepth 20000 in
set_option maxHeartbeats 8000000 in
theorem l3get_short (a:Option Addr) (ca:Nat) (ls:List Int) (x:Option Addr) (cx:Nat) (zs:List Int) (N v n:Nat) (T:List Int) (w:World) (ha:Ins w a ls) (hx:Byt w x zs) (hz:zs=enc N v) (hN:N≤4096) (hn:n≤300) (hnb:normB ls=true) (h6:N<6) (hTe:tb (pl (fl 0 ls) (plc 64)) ls 64=T) :
  Calls Tryz.prog 161 #[.slice a ls.length ca,.agg #[.slice x zs.length cx,.int .i64 N],.int .i64 n] w fun e w'=>
   e=.returned (.tuple #[.slice none 0 0,.bool false])∧Below w.heap.size w w':=by
 obtain ⟨i0,hi,hz0,hz1,hz2⟩:=info_parts Tryz.infoI64
 have HGD:Hid (Gd T ls.length):=by unfold Hid;rw [←hTe];exact gd_tb hnb
 have HTR:Hid (∀ z ∈ T,-9223372036854775808≤z∧z≤9223372036854775807):=by
  intro z hz
  rw [←hTe] at hz
  have:=tb_rng hnb 64 (Nat.le_refl _) z hz
  omega
 have hbd:=normB_bnd hnb
 have hw:Below w.heap.size w (w.alloc (Obj.cells #[Value.slice x zs.length cx,Value.int IntKind.i64 N] 155)):=(Below.refl _ _).alloc (Nat.le_refl _) _
 have r0:(w.alloc (Obj.cells #[Value.slice x zs.length cx,Value.int IntKind.i64 N] 155)).cell? ⟨w.heap.size,0,none⟩=some (.slice x zs.length cx):=by simp
 have r1:(w.alloc (Obj.cells #[Value.slice x zs.length cx,Value.int IntKind.i64 N] 155)).cell? ⟨w.heap.size,1,none⟩=some (.int .i64 N):=by simp
 have HSZ:Hid (w.heap.size<(w.alloc (Obj.cells #[Value.slice x zs.length cx,Value.int IntKind.i64 N] 155)).heap.size):=by simp [Hid]
 have HLT:=l3table_any a ca ls _ (ha.below hw (Nat.le_refl _)) hnb
 rw [hTe] at HLT
 have HZ:Hid (zs=enc N v∧True):=⟨hz,trivial⟩
 clear hz hTe hnb
 go_enter Tryz.func161,Tryz.ntmps161
 go_wp2_with fail
 generalize w.alloc (Obj.cells #[Value.slice x zs.length cx,Value.int IntKind.i64 N] 155)=W at *
 refine HLT.mono ?_
 clear HLT
 rintro e w1 ⟨aT,cT,rfl,hcv,hb1⟩
 have hinr:=hcv.inR HTR.out (HGD.out.len)
 have hbw1:Below w.heap.size w w1:=hw.trans (hb1.mono (Nat.le_of_lt HSZ.out))
 have HBW:Hid (Below w.heap.size w w1∧True):=⟨hbw1,trivial⟩
 have HX:Hid (Byt w1 x zs):=hx.below hbw1 (Nat.le_refl _)
 have HTT:Hid (Ins w1 aT T):=hinr.byt
 have c0:=keep hb1 HSZ.out r0
 have c1:=keep hb1 HSZ.out r1
 have HR:Hid (w1.cell? ⟨w.heap.size,0,none⟩=some (.slice x zs.length cx)∧w1.cell? ⟨w.heap.size,1,none⟩=some (.int .i64 N)):=⟨c0,c1⟩
 have HS1:Hid (w.heap.size<w1.heap.size):=by have:=HSZ.out;have:=hb1.size;unfold Hid;omega
 have HTL:Hid (T.length=192∧True):=⟨HGD.out.len,trivial⟩
 clear hw r0 r1 HSZ hcv hinr hb1 hbw1 ha hx
 have h6i:(N:Int)<6:=by omega
 go_wp2
 exact bodyPost_ret (v:=.tuple #[.slice none 0 0,.bool false]) (by simp [results,Tryz.results161,go_sem]) rfl ⟨rfl,HBW.out.1⟩

set_option maxRecDepth 20000 in
set_option maxHeartbeats 8000000 in
theorem l3get_long (a:Option Addr) (ca:Nat) (ls:List Int) (x:Option Addr) (cx:Nat) (zs:List Int) (E N v n:Nat) (T:List Int) (w:World) (ha:Ins w a ls) (hx:Byt w x zs) (hz:zs=enc N v) (hN:N≤4096) (hn:n≤300) (hnb:normB ls=true) (hNE:N=E+6) (hTe:tb (pl (fl 0 ls) (plc 64)) ls 64=T) :
  Calls Tryz.prog 161 #[.slice a ls.length ca,.agg #[.slice x zs.length cx,.int .i64 N],.int .i64 n] w fun e w'=>
   ∃ u,e=.returned (.tuple #[u,.bool (decide (sg T v E n=some (0,0)))])∧(sg T v E n=some (0,0)→OVI w' w.heap.size u (so T v E n))∧Below w.heap.size w w':=by
 have HNE:Hid (N=E+6∧True):=⟨hNE,trivial⟩
 have h6N:(6:Int)≤(N:Int):=by omega
 clear hNE
 obtain ⟨i0,hi,hz0,hz1,hz2⟩:=info_parts Tryz.infoI64
 have HGD:Hid (Gd T ls.length):=by unfold Hid;rw [←hTe];exact gd_tb hnb
 have HTR:Hid (∀ z ∈ T,-9223372036854775808≤z∧z≤9223372036854775807):=by
  intro z hz
  rw [←hTe] at hz
  have:=tb_rng hnb 64 (Nat.le_refl _) z hz
  omega
 have hbd:=normB_bnd hnb
 have hw:Below w.heap.size w (w.alloc (Obj.cells #[Value.slice x zs.length cx,Value.int IntKind.i64 N] 155)):=(Below.refl _ _).alloc (Nat.le_refl _) _
 have r0:(w.alloc (Obj.cells #[Value.slice x zs.length cx,Value.int IntKind.i64 N] 155)).cell? ⟨w.heap.size,0,none⟩=some (.slice x zs.length cx):=by simp
 have r1:(w.alloc (Obj.cells #[Value.slice x zs.length cx,Value.int IntKind.i64 N] 155)).cell? ⟨w.heap.size,1,none⟩=some (.int .i64 N):=by simp
 have HSZ:Hid (w.heap.size<(w.alloc (Obj.cells #[Value.slice x zs.length cx,Value.int IntKind.i64 N] 155)).heap.size):=by simp [Hid]
 have HLT:=l3table_any a ca ls _ (ha.below hw (Nat.le_refl _)) hnb
 rw [hTe] at HLT
 have HZ:Hid (zs=enc N v∧True):=⟨hz,trivial⟩
 clear hz hTe hnb
 go_enter Tryz.func161,Tryz.ntmps161
 go_wp2_with fail
 generalize w.alloc (Obj.cells #[Value.slice x zs.length cx,Value.int IntKind.i64 N] 155)=W at *
 refine HLT.mono ?_
 clear HLT
 rintro e w1 ⟨aT,cT,rfl,hcv,hb1⟩
 have hinr:=hcv.inR HTR.out (HGD.out.len)
 have hbw1:Below w.heap.size w w1:=hw.trans (hb1.mono (Nat.le_of_lt HSZ.out))
 have HBW:Hid (Below w.heap.size w w1∧True):=⟨hbw1,trivial⟩
 have HX:Hid (Byt w1 x zs):=hx.below hbw1 (Nat.le_refl _)
 have HTT:Hid (Ins w1 aT T):=hinr.byt
 have c0:=keep hb1 HSZ.out r0
 have c1:=keep hb1 HSZ.out r1
 have HR:Hid (w1.cell? ⟨w.heap.size,0,none⟩=some (.slice x zs.length cx)∧w1.cell? ⟨w.heap.size,1,none⟩=some (.int .i64 N)):=⟨c0,c1⟩
 have HS1:Hid (w.heap.size<w1.heap.size):=by have:=HSZ.out;have:=hb1.size;unfold Hid;omega
 have HTL:Hid (T.length=192∧True):=⟨HGD.out.len,trivial⟩
 clear hw r0 r1 HSZ hcv hinr hb1 hbw1 ha hx
 go_wp2_with fail
 have HG1:=l1get_any x cx zs (N:Int) ((N:Int) - 6) 6 N v w1 HX.out HZ.out.1 (by omega) (by omega) (by omega) (by omega) (by omega)
 rw [show ((N:Int) - 6).toNat=E from by have:=HNE.out.1;omega] at HG1
 simp only [show ((6:Int)).toNat=6 from rfl,show 2 ^ 6=64 from rfl] at HG1
 refine HG1.mono ?_
 clear HG1 c0 c1
 rintro e w2 ⟨rfl,hb2⟩
 have HBW2:Hid (Below w.heap.size w w2∧True):=⟨HBW.out.1.trans (hb2.mono (Nat.le_of_lt HS1.out)),trivial⟩
 have HX2:Hid (Byt w2 x zs):=HX.out.below hb2 (Nat.le_refl _)
 have HT2:Hid (Ins w2 aT T):=HTT.out.below hb2 (Nat.le_refl _)
 have HR2:Hid (w2.cell? ⟨w.heap.size,0,none⟩=some (.slice x zs.length cx)∧w2.cell? ⟨w.heap.size,1,none⟩=some (.int .i64 N)):=⟨keep hb2 HS1.out HR.out.1,keep hb2 HS1.out HR.out.2⟩
 have HS2:Hid (w.heap.size<w2.heap.size):=by have:=HS1.out;have:=hb2.size;unfold Hid;omega
 clear hb2 HBW HX HTT HR HS1
 generalize hB:w2.heap.size=B at *
 have HB:Hid (w2.heap.size=B∧True):=⟨hB,trivial⟩
 clear hB
 go_wp2
 go_loopw [9,10,11,12] (fun t s o i wr=>∃ (k st en:Nat),k≤n∧i=.int .i64 k∧t=.int .i64 en∧s=.int .i64 st∧sg T v E k=some (st,en)∧OVI wr B o (so T v E k)∧Below B w2 wr) (fun _ _ _ i _=>n - (intOf i).toNat)
 case atStart=>exact ⟨0,v / 2 ^ E % 64,E,Nat.zero_le _,rfl,by rw [show (N:Int) - 6=(E:Int) from by have:=HNE.out.1;omega],rfl,rfl,OVI.nil _ _,Below.refl _ _⟩
 case round=>
  obtain ⟨k,st,en,hk,rfl,rfl,rfl,hsg,hov,hbel⟩:=hrel
  obtain ⟨au,cu,rfl⟩:=hov.form
  have HQL:Hid ((so T v E k).length=k∧True):=⟨so_len _ _ _ _,trivial⟩
  rw [HQL.out.1] at hov ⊢
  have HOV:Hid (OVI wr B (.slice au k cu) (so T v E k)):=hov
  have HSG:Hid (sg T v E k=some (st,en)∧True):=⟨hsg,trivial⟩
  obtain ⟨hst,hen⟩:=sg_rng HGD.out v E k st en hsg
  have henN:(en:Int)≤4096:=by have:=HNE.out.1;omega
  have henM:(en:Int)≤(N:Int):=by have:=HNE.out.1;omega
  have HBL:Hid (Below B w2 wr∧True):=⟨hbel,trivial⟩
  have HBB:Hid (Below w.heap.size w wr∧True):=⟨HBW2.out.1.trans (hbel.mono (Nat.le_of_lt HS2.out)),trivial⟩
  have HZW:Hid (B≤wr.heap.size):=by have:=hbel.size;have:=HB.out.1;unfold Hid;omega
  have HRW:Hid (wr.cell? ⟨w.heap.size,0,none⟩=some (.slice x zs.length cx)∧wr.cell? ⟨w.heap.size,1,none⟩=some (.int .i64 N)):=⟨keep hbel HS2.out HR2.out.1,keep hbel HS2.out HR2.out.2⟩
  have hTw:Ins wr aT T:=HT2.out.below hbel (by rw [HB.out.1];exact Nat.le_refl _)
  clear hov hsg hbel
  by_cases hlt:k<n
  ·obtain ⟨sy,b,z,e1,e2,e3,hsy,hb6,hz64⟩:=HGD.out.cell st hst
   obtain ⟨gT,oT,rfl,hgT,hcT⟩:=hTw.len_pos (st * 3) (by rw [HTL.out.1];omega)
   have t0:=hcT (st * 3) (by rw [HTL.out.1];omega)
   have t1:=hcT (st * 3+1) (by rw [HTL.out.1];omega)
   have t2:=hcT (st * 3+2) (by rw [HTL.out.1];omega)
   rw [e1] at t0
   rw [e2,←Nat.add_assoc] at t1
   rw [e3,←Nat.add_assoc] at t2
   have HCB:Hid (cB T st=b∧cZ T st=z∧T.getD (st * 3) 0=(sy:Int)):=⟨by unfold cB;rw [e2,Int.toNat_natCast],by unfold cZ;rw [e3,Int.toNat_natCast],e1⟩
   have hpz:=Nat.pow_pos (n:=b) (show 0<2 by omega)
   have hz63:(z:Int)≤64:=by omega
   clear hcT e1 e2 e3 hTw hz64 hpz
   by_cases hbe:en<b
   ·have HNO:Hid (sg T v E n=none∧True):=⟨sg_none (sg_stop HSG.out.1 (by rw [HCB.out.1];exact hbe)) n (by omega),trivial⟩
    have hbi:(en:Int)<(b:Int):=by omega
    have HWA:Hid (Below w.heap.size w (wr.alloc (Obj.cells #[Value.int .i64 sy,Value.int .i64 b,Value.int .i64 z] 247))∧True):=⟨HBB.out.1.alloc (by have:=HZW.out;have:=HS2.out;omega) _,trivial⟩
    clear HOV HSG
    go_wp2
    exact bodyPost_ret (v:=.tuple #[.slice none 0 0,.bool false]) (by simp [results,Tryz.results161,go_sem]) rfl ⟨_,by rw [HNO.out.1];rfl,fun h=>by rw [HNO.out.1] at h;simp at h,HWA.out.1⟩
   ·have hbi:(b:Int)≤(en:Int):=by omega
    have HSG2:Hid (sg T v E (k+1)=some (z+v / 2 ^ (en - b) % 2 ^ b,en - b)∧so T v E (k+1)=so T v E k++[(sy:Int)]):=by
     have h1:=sg_step HSG.out.1 (show ¬en<cB T st by rw [HCB.out.1];exact hbe)
     have h2:=so_step HSG.out.1
     rw [HCB.out.1,HCB.out.2.1] at h1
     rw [HCB.out.2.2] at h2
     exact ⟨h1,h2⟩
    have HVB:Hid (v / 2 ^ (en - b) % 2 ^ b<64):=by
     have h1:v / 2 ^ (en - b) % 2 ^ b<2 ^ b:=Nat.mod_lt _ (Nat.pow_pos (by omega))
     have h2:2 ^ b≤2 ^ 6:=Nat.pow_le_pow_right (by omega) hb6
     unfold Hid
     omega
    have hu:(wr.alloc (Obj.cells #[Value.int .i64 sy,Value.int .i64 b,Value.int .i64 z] 247)).ownsRow B 3 1 (.slice au k cu) k ((so T v E k).map (Value.int .i64)):=by have:=(HOV.out.1).alloc (Obj.cells #[Value.int .i64 sy,Value.int .i64 b,Value.int .i64 z] 247);rw [HQL.out.1] at this;exact this
    have HWA:Hid (Below B w2 (wr.alloc (Obj.cells #[Value.int .i64 sy,Value.int .i64 b,Value.int .i64 z] 247))∧True):=⟨HBL.out.1.alloc HZW.out _,trivial⟩
    have HOA:Hid (OVI (wr.alloc (Obj.cells #[Value.int .i64 sy,Value.int .i64 b,Value.int .i64 z] 247)) B (.slice au k cu) (so T v E k)):=⟨by rw [HQL.out.1];exact hu,HOV.out.2⟩
    have HLB:Hid (∀ g,(Value.slice au k cu).ownBlock=some g→B≤g∧g<wr.heap.size):=fun g hg=>HOV.out.1.lt g hg
    have d0:(wr.alloc (Obj.cells #[Value.int .i64 sy,Value.int .i64 b,Value.int .i64 z] 247)).cell? ⟨wr.heap.size,0,none⟩=some (.int .i64 sy):=by simp
    have d1:(wr.alloc (Obj.cells #[Value.int .i64 sy,Value.int .i64 b,Value.int .i64 z] 247)).cell? ⟨wr.heap.size,1,none⟩=some (.int .i64 b):=by simp
    have d2:(wr.alloc (Obj.cells #[Value.int .i64 sy,Value.int .i64 b,Value.int .i64 z] 247)).cell? ⟨wr.heap.size,2,none⟩=some (.int .i64 z):=by simp
    have HD:Hid (_∧_∧_):=⟨d0,d1,d2⟩
    have HSA:Hid ((wr.alloc (Obj.cells #[Value.int .i64 sy,Value.int .i64 b,Value.int .i64 z] 247)).heap.size=wr.heap.size+1∧True):=⟨by simp,trivial⟩
    have hsy80:(sy:Int)≤80:=by omega
    have HN3:Hid (k+1≤300):=by unfold Hid;omega
    clear HOV HSG
    go_wp2_with (at_builtin;(refine wpList_append_lies _ rfl (.tmp 41) (.tmp 44) 29 rfl B 3 i0 (.int .i64 0) 1 8 Tryz.underlying29 hi hz0 hz1 hz2 rfl (by decide) (.slice au k cu) k ((so T v E k).map (Value.int .i64)) rfl (hu.alloc _) ⟨wr.heap.size+1,0,none⟩ 1 1 [.int .i64 sy] rfl rfl (by intro j y hj;match j,hj with | 0,hj=>(simp at hj;subst hj;simp [Addr.add])) (by intro y hy;simp at hy;subst hy;rfl) (by have:=HN3.out;omega) (by have:=HN3.out;unfold maxLen;omega) (by have:=HN3.out;omega) (by have:=HZW.out;simp;omega) _ rfl ?_);intro g cap1 w4 hown hgrow hat hlt1)
    have hOn:Only (fun j=>(Value.slice au k cu).ownBlock=some j) (wr.alloc (Obj.cells #[Value.int .i64 sy,Value.int .i64 b,Value.int .i64 z] 247)) w4:=Only.grown (Only.alloc (Only.refl _ _) _) hgrow (fun j hj=>.inl hj)
    have HC:Hid (w4.cell? ⟨wr.heap.size,2,none⟩=some (.int .i64 z)∧w4.cell? ⟨w.heap.size,0,none⟩=some (.slice x zs.length cx)∧w4.cell? ⟨w.heap.size,1,none⟩=some (.int .i64 N)∧w4.cell? ⟨wr.heap.size,1,none⟩=some (.int .i64 b)):=by
     have hw1:w.heap.size<wr.heap.size:=by have:=HZW.out;have:=HS2.out;omega
     have hs1:=HSA.out.1
     refine ⟨hOn.cell (by omega) (fun hg=>by have:=HLB.out _ hg;omega) HD.out.2.2,hOn.cell (by omega) (fun hg=>by have:=HLB.out _ hg;have:=HS2.out;omega) (keepA _ hw1 HRW.out.1),hOn.cell (by omega) (fun hg=>by have:=HLB.out _ hg;have:=HS2.out;omega) (keepA _ hw1 HRW.out.2),hOn.cell (by omega) (fun hg=>by have:=HLB.out _ hg;omega) HD.out.2.1⟩
    have HOV4:Hid (OVI w4 B (.slice (some ⟨g,0,none⟩) (k+1) cap1) (so T v E (k+1))):=by
     unfold Hid
     rw [HSG2.out.2]
     exact OVI.app HQL.out.1 HOA.out.2 (by omega) hown
    have HB4:Hid (Below B w2 w4∧True):=⟨app_below HWA.out.1 (by have:=HZW.out;have:=HSA.out.1;omega) HOA.out hgrow,trivial⟩
    have HXW:Hid (Byt w4 x zs):=HX2.out.below HB4.out.1 (by rw [HB.out.1];exact Nat.le_refl _)
    have HZ4:Hid (B≤w4.heap.size):=by have:=HB4.out.1.size;have:=HB.out.1;unfold Hid;omega
    have HLT4:Hid (wr.heap.size<w4.heap.size∧w.heap.size<w4.heap.size):=by have h1:=hOn.size;have h2:=HSA.out.1;have:=HZW.out;have:=HS2.out;exact ⟨by omega,by omega⟩
    clear hown hgrow hat hlt1 HOA HWA hu hOn d0 d1 d2 HD HSA HLB t0 t1 t2 HRW HBL HBB
    generalize wr.heap.size=cb at *
    obtain ⟨Xn,hXn⟩:∃ Xn,Xn=v / 2 ^ (en - b) % 2 ^ b:=⟨_,rfl⟩
    rw [←hXn] at HSG2 HVB
    have HG2:∀ W,Byt W x zs→Calls Tryz.prog 156 #[.agg #[.slice x zs.length cx,.int .i64 (N:Int)],.int .i64 ((en:Int) - (b:Int)),.int .i64 (b:Int)] W fun e w'=>e=.returned (.int .i64 (Xn:Int))∧Below W.heap.size W w':=by
     intro W hW
     have:=l1get_any x cx zs (N:Int) ((en:Int) - (b:Int)) (b:Int) N v W hW HZ.out.1 (by omega) (by omega) (by omega) (by omega) (by omega)
     rw [show ((en:Int) - (b:Int)).toNat=en - b from by omega,Int.toNat_natCast,←hXn] at this
     exact this
    have hX64:(Xn:Int)<64:=by have:=HVB.out;omega
    clear hXn HVB
    go_region_held3 (fun W=>W.cell? ⟨cb,2,none⟩=some (.int .i64 z)∧W.cell? ⟨w.heap.size,0,none⟩=some (.slice x zs.length cx)∧W.cell? ⟨w.heap.size,1,none⟩=some (.int .i64 N)∧W.cell? ⟨cb,1,none⟩=some (.int .i64 b))
     (first | exact HC.out | exact HC8.out)
     (first
      | (go_at_call 156;refine (HG2 _ (by exact HXW.out)).mono ?_;rintro e w8 ⟨rfl,hb8'⟩;have HB8:Hid (Below B w2 w8∧True):=⟨HB4.out.1.trans ((Below.drewS hb8').mono HZ4.out),trivial⟩;have HO8:Hid (OVI w8 B (.slice (some ⟨g,0,none⟩) (k+1) cap1) (so T v E (k+1))):=HOV4.out.onlyF (Only.ofBelow (S:=fun _=>False) (Below.drewS hb8') (Nat.le_refl _)) (by simp);have HC8:Hid (w8.cell? ⟨cb,2,none⟩=some (.int .i64 z)∧w8.cell? ⟨w.heap.size,0,none⟩=some (.slice x zs.length cx)∧w8.cell? ⟨w.heap.size,1,none⟩=some (.int .i64 N)∧w8.cell? ⟨cb,1,none⟩=some (.int .i64 b)):=⟨keep (Below.drewS hb8') HLT4.out.1 HC.out.1,keep (Below.drewS hb8') HLT4.out.2 HC.out.2.1,keep (Below.drewS hb8') HLT4.out.2 HC.out.2.2.1,keep (Below.drewS hb8') HLT4.out.1 HC.out.2.2.2⟩))
    all_goals
     clear HC HC8
     go_wp2
     go_roundw
     case rel=>
      exact ⟨k+1,z+Xn,en - b,by omega,by go_num,by rw [show (en:Int) - (b:Int)=((en - b:Nat):Int) from by omega],(by have hwz:IntKind.i64.wrap ((z:Int)+(Xn:Int))=((z+Xn:Nat):Int):=(by rw [IntWalk.i64_in _ (by omega)];omega);exact congrArg (Value.int IntKind.i64) hwz),HSG2.out.1,HO8.out,HB8.out.1⟩
     case measure=>simp [intOf];omega
  ·have hkn:k=n:=by omega
   subst hkn
   have HOF:Hid (OVI wr w.heap.size (.slice au k cu) (so T v E k)):=HOV.out.weakF (Nat.le_of_lt HS2.out)
   clear hTw HOV HRW HBL
   by_cases h1:en=0
   ·by_cases h2:st=0
    ·have HD:Hid (sg T v E k=some (0,0)∧True):=⟨by rw [HSG.out.1,h1,h2],trivial⟩
     subst h1 h2
     clear HSG
     go_wp2
     exact bodyPost_ret (v:=.tuple #[.slice au k cu,.bool true]) (by simp [results,Tryz.results161,go_sem]) rfl ⟨_,by rw [decide_eq_true HD.out.1],fun _=>HOF.out,HBB.out.1⟩
    ·have HD:Hid (¬sg T v E k=some (0,0)):=by unfold Hid;rw [HSG.out.1];simp;omega
     have h2i:((st:Int) == 0)=false:=by simp;omega
     subst h1
     clear HSG
     go_wp2
     exact bodyPost_ret (v:=.tuple #[.slice au k cu,.bool false]) (by simp [results,Tryz.results161,go_sem]) rfl ⟨_,by rw [decide_eq_false HD.out],fun h=>absurd h HD.out,HBB.out.1⟩
   ·have HD:Hid (¬sg T v E k=some (0,0)):=by unfold Hid;rw [HSG.out.1];simp;omega
    have h2i:((en:Int) == 0)=false:=by simp;omega
    clear HSG
    go_wp2
    exact bodyPost_ret (v:=.tuple #[.slice au k cu,.bool false]) (by simp [results,Tryz.results161,go_sem]) rfl ⟨_,by rw [decide_eq_false HD.out],fun h=>absurd h HD.out,HBB.out.1⟩
theorem l3get_any (a:Option Addr) (ca:Nat) (ls:List Int) (x:Option Addr) (cx:Nat) (zs:List Int) (N v n:Nat) (T:List Int) (w:World) (ha:Ins w a ls) (hx:Byt w x zs) (hz:zs=enc N v) (hN:N≤4096) (hn:n≤300) (hnb:normB ls=true) (hTe:tb (pl (fl 0 ls) (plc 64)) ls 64=T) :
  Calls Tryz.prog 161 #[.slice a ls.length ca,.agg #[.slice x zs.length cx,.int .i64 N],.int .i64 n] w fun e w'=>
   ∃ u,e=.returned (.tuple #[u,.bool (fgB T v N n)])∧(fgB T v N n=true→OVI w' w.heap.size u (so T v (N - 6) n))∧Below w.heap.size w w':=by
 by_cases h6:N<6
 ·refine (l3get_short a ca ls x cx zs N v n T w ha hx hz hN hn hnb h6 hTe).mono ?_
  rintro e w' ⟨rfl,hb⟩
  exact ⟨_,by rw [fgB_short h6],fun h=>by rw [fgB_short h6] at h;simp at h,hb⟩
 ·obtain ⟨E,rfl⟩:∃ E,N=E+6:=⟨N - 6,by omega⟩
  refine (l3get_long a ca ls x cx zs E (E+6) v n T w ha hx hz hN hn hnb rfl hTe).mono ?_
  rintro e w' ⟨u,rfl,h1,hb⟩
  have e1:fgB T v (E+6) n=decide (sg T v E n=some (0,0)):=by unfold fgB;simp
  rw [Nat.add_sub_cancel,e1]
  exact ⟨u,rfl,fun h=>h1 (by simpa using h),hb⟩
end Go.Proofs.YtaibkchbkedjnaaGreatDoor
