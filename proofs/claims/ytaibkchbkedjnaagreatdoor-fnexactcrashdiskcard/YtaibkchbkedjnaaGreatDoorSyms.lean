import Derived.Test.YtaibkchbkedjnaaGreatDoorILens
set_option maxRecDepth 20000
set_option maxHeartbeats 16000000
namespace Go.Proofs.YtaibkchbkedjnaaGreatDoor
open Go.RowKit
set_option linter.unusedVariables false
structure Four (w:World):Prop where
 g1:∃ T x,w.cell? ⟨23,0,none⟩=some (.iface T x)
 g2:∃ T x,w.cell? ⟨24,0,none⟩=some (.iface T x)
 g3:∃ T x,w.cell? ⟨25,0,none⟩=some (.iface T x)
 g4:∃ T x,w.cell? ⟨26,0,none⟩=some (.iface T x)
theorem z3r {w w':World} {g:Nat} (h:∃ T x,w.cell? ⟨g,0,none⟩=some (.iface T x)) (hb:Below w.heap.size w w'):∃ T x,w'.cell? ⟨g,0,none⟩=some (.iface T x):=by
 obtain ⟨T,x,h⟩:=h;exact ⟨T,x,keep hb (World.block_lt_of_cell? _ _ h) h⟩
theorem Four.below {w w':World} (h:Four w) (hb:Below w.heap.size w w'):Four w':=⟨z3r h.g1 hb,z3r h.g2 hb,z3r h.g3 hb,z3r h.g4 hb⟩
def chk (zs:List Int) (w:World) (e:Ending) (w':World):Prop:=
 Below w.heap.size w w'/\(zx zs=true->e=.returned .nilIface)/\(zx zs=false->∃ p:Addr,e=.returned (.iface 297 (.pointer (some p))))
theorem za7 (a:Option Addr) (cap:Nat) (zs:List Int) (w:World) (hb:Ins w a zs) (hn:zs.length<=281474976710656) (h4:Four w) :
  Calls Tryz.prog 234 #[.slice a zs.length cap] w (chk zs w):=by
 obtain ⟨T1,v1,e1⟩:=h4.g1;obtain ⟨T2,v2,e2⟩:=h4.g2;obtain ⟨T3,v3,e3⟩:=h4.g3;obtain ⟨T4,v4,e4⟩:=h4.g4;clear h4
 by_cases h:1<=zs.length/\zs.length<=80
 ·obtain ⟨h1,h2⟩:=h
  generalize hlen:zs.length=n at *;have HL:Hid (zs.length=n):=hlen;clear hlen
  go_enter Tryz.func234,Tryz.ntmps234
  go_wp2
  go_loop [3,4,22] (fun x y i=>∃ k:Nat,k<=n/\i=.int .i64 k/\x=.int .i64 (zu one (zs.take k))/\y=.int .i64 (zu zq (zs.take k))/\∀ z ∈ zs.take k,0<=z/\z<=12) (fun _ _ i=>n-(intOf i).toNat)
  case atStart=>exact ⟨0,Nat.zero_le _,rfl,by simp [zu],by simp [zu],by simp⟩
  case round=>
   obtain ⟨k,hk,rfl,rfl,rfl,htk⟩:=hrel;have HT:Hid (∀ z ∈ zs.take k,0<=z/\z<=12):=htk;clear htk
   by_cases hlt:k<n
   ·obtain ⟨b1,o1,rfl,hb1,hc1⟩:=hb.len_pos k (by rw [HL.out];exact hlt)
    have hs1:=hc1 k (by rw [HL.out];exact hlt)
    have g1:=z15 hb.1 k;have hF:=z10 one 1 z4y (zs.take k);have hG:=z10 zq 4096 z2r (zs.take k);have hF2:(zs.take k).length<=80:=by rw [List.length_take,HL.out];omega
    have HS:Hid (zu one (zs.take (k+1))=zu one (zs.take k)+one (zs.getD k 0)):=z2q one zs k (by rw [HL.out];exact hlt)
    have HS2:Hid (zu zq (zs.take (k+1))=zu zq (zs.take k)+zq (zs.getD k 0)):=z2q zq zs k (by rw [HL.out];exact hlt)
    clear hc1 hb;generalize hx:zs.getD k 0=x at *;have HX:Hid (zs.getD k 0=x):=hx;clear hx;generalize hFF:zu one (zs.take k)=F at *;generalize hGG:zu zq (zs.take k)=G at *;have hFb:0<=F/\F<=80:=by omega
    have hGb:0<=G/\G<=327680:=by omega
    clear hF hG hF2 hFF hGG
    by_cases h3:0<=x
    ·by_cases h4:x<=12
     ·have HT':Hid (∀ z ∈ zs.take (k+1),0<=z/\z<=12):=z3v HT.out (by rw [HL.out];exact hlt) (by rw [HX.out];exact ⟨h3,h4⟩)
      by_cases h5:0<x
      ·have HP:Hid (one x=1):=by simp [Hid,one,h5]
       have hp:=z4x (12-x).toNat (by omega)
       have HWP:Hid (wrap64 (2 ^ (12-x).toNat)=2 ^ (12-x).toNat):=zds (12-x).toNat (by omega)
       have HQ:Hid (zq x=2 ^ (12-x).toNat):=by simp [Hid,zq,h5]
       have HW:Hid (wrap64 (G+2 ^ (12-x).toNat)=G+2 ^ (12-x).toNat):=IntWalk.wrap64_in _ (by omega)
       clear hp;go_wp2;go_round
       case rel=>exact ⟨k+1,by omega,by go_num,by rw [HS.out,HP.out],by rw [HS2.out,HQ.out,HWP.out,HW.out],HT'.out⟩
       case measure=>simp [intOf];omega
      ·have HP:Hid (one x=0):=by simp [Hid,one,h5]
       have HQ:Hid (zq x=0):=by simp [Hid,zq,h5]
       go_wp2
       go_round
       case rel=>exact ⟨k+1,by omega,by go_num,by rw [HS.out,HP.out];simp,by rw [HS2.out,HQ.out];simp,HT'.out⟩
       case measure=>simp [intOf];omega
     ·have HN:Hid (zx zs=false):=z2y (by rw [HL.out];exact hlt) (by rw [HX.out];omega)
      go_wp2
      try go_region
      all_goals try go_wp2
      all_goals go_ret
      all_goals exact ⟨by repeat (first | exact Below.refl _ _ | refine Below.drew ?_ | refine Below.alloc ?_ (by simp) _),fun h=>(by rw [HN.out] at h;cases h),fun _=>⟨_,rfl⟩⟩
    ·have HN:Hid (zx zs=false):=z2y (by rw [HL.out];exact hlt) (by rw [HX.out];omega)
     go_wp2
     try go_region
     all_goals try go_wp2
     all_goals go_ret
     all_goals exact ⟨by repeat (first | exact Below.refl _ _ | refine Below.drew ?_ | refine Below.alloc ?_ (by simp) _),fun h=>(by rw [HN.out] at h;cases h),fun _=>⟨_,rfl⟩⟩
   ·have hkn:k=n:=by omega
    subst hkn;have e:zs.take k=zs:=List.take_of_length_le (by rw [HL.out];exact Nat.le_refl _)
    have HE:Hid (zx zs=decide (zu one zs=1/\zu zq zs=2048\/1<zu one zs/\zu zq zs=4096)):=z8n (by rw [HL.out];exact h1) (by rw [HL.out];exact h2) (by rw [HL.out];exact HT.out)
    have hF:=z10 one 1 z4y zs;have hG:=z10 zq 4096 z2r zs;rw [HL.out] at hF hG;rw [e];clear e HT;generalize zu one zs=F at *;generalize zu zq zs=G at *
    by_cases c0:F=0
    ·subst c0
     have HN:Hid (zx zs=false):=by rw [Hid,HE.out,decide_eq_false (by omega)]
     go_wp2
     try go_region
     all_goals try go_wp2
     all_goals go_ret
     all_goals exact ⟨by repeat (first | exact Below.refl _ _ | refine Below.drew ?_ | refine Below.alloc ?_ (by simp) _),fun h=>(by rw [HN.out] at h;cases h),fun _=>⟨_,rfl⟩⟩
    ·by_cases c1:F=1
     ·subst c1
      by_cases c2:G=2048
      ·subst c2
       have HN:Hid (zx zs=true):=by rw [Hid,HE.out,decide_eq_true (by omega)]
       go_wp2
       go_ret;exact ⟨Below.refl _ _,fun _=>rfl,fun h=>(by rw [HN.out] at h;cases h)⟩
      ·have HN:Hid (zx zs=false):=by rw [Hid,HE.out,decide_eq_false (by omega)]
       go_wp2
       try go_region
       all_goals try go_wp2
       all_goals go_ret
       all_goals exact ⟨by repeat (first | exact Below.refl _ _ | refine Below.drew ?_ | refine Below.alloc ?_ (by simp) _),fun h=>(by rw [HN.out] at h;cases h),fun _=>⟨_,rfl⟩⟩
     ·by_cases c2:G=4096
      ·subst c2
       have HN:Hid (zx zs=true):=by rw [Hid,HE.out,decide_eq_true (by omega)]
       go_wp2
       go_ret;exact ⟨Below.refl _ _,fun _=>rfl,fun h=>(by rw [HN.out] at h;cases h)⟩
      ·have HN:Hid (zx zs=false):=by rw [Hid,HE.out,decide_eq_false (by omega)]
       have c3:(G != 4096)=true:=by simp [c2]
       go_wp2
       try go_region
       all_goals try go_wp2
       all_goals go_ret
       all_goals exact ⟨by repeat (first | exact Below.refl _ _ | refine Below.drew ?_ | refine Below.alloc ?_ (by simp) _),fun h=>(by rw [HN.out] at h;cases h),fun _=>⟨_,rfl⟩⟩
 ·have HN:Hid (zx zs=false):=z98 h
  by_cases c1:1<=zs.length
  ·have c2:80<zs.length:=by omega
   go_enter Tryz.func234,Tryz.ntmps234
   go_wp2
   try go_region
   all_goals try go_wp2
   all_goals go_ret
   all_goals exact ⟨by repeat (first | exact Below.refl _ _ | refine Below.drew ?_ | refine Below.alloc ?_ (by simp) _),fun h=>(by rw [HN.out] at h;cases h),fun _=>⟨_,rfl⟩⟩
  ·go_enter Tryz.func234,Tryz.ntmps234
   go_wp2
   try go_region
   all_goals try go_wp2
   all_goals go_ret
   all_goals exact ⟨by repeat (first | exact Below.refl _ _ | refine Below.drew ?_ | refine Below.alloc ?_ (by simp) _),fun h=>(by rw [HN.out] at h;cases h),fun _=>⟨_,rfl⟩⟩
set_option linter.unusedSimpArgs false
def giY (n V p s:Nat) (res:List Int) (q:Nat):Prop:=gi n V s s p [] false=some (res,q)/\zx res=true
def giR (B:Nat) (w0 w':World) (R:Nat) (a:Option Addr) (L cap n V p s:Nat) (e:Ending):Prop:=Below B w0 w' /\
   (∀ res q,giY n V p s res q->∃ a' cp,e=.returned (.tuple #[.slice a' res.length cp,.nilIface])/\MinI w' B w'.heap.size a' cp res/\RD w' B R a L cap n q) /\
   ((¬∃ res q,giY n V p s res q)->∃ T x v,e=.returned (.tuple #[v,.iface T x]))
theorem giR.no {B:Nat} {w0 w':World} {R:Nat} {a:Option Addr} {L cap n V p s:Nat} {v x:Value} {T:TypeId} (hb:Below B w0 w') (h:gi n V s s p [] false=none):giR B w0 w' R a L cap n V p s (.returned (.tuple #[v,.iface T x])):=
 And.intro hb (And.intro (fun res q hy=>by have:=hy.1;rw [h] at this;cases this) (fun _=>⟨_,_,_,rfl⟩))
theorem zai {B:Nat} {a b:World} (h:Below B a b) (n:Nat):Below B a (b.drewN n):=⟨h.os,h.tape,h.output,h.size,h.block⟩
theorem OVI.stayR {S:Nat->Prop} {w w':World} {B:Nat} {v:Value} {zs:List Int} (h:OVI w B v zs) (ho:Only S w w') (hs:∀ k,v.ownBlock=some k->¬S k):OVI w' B v zs:=by
 refine ⟨⟨h.1.1,?_⟩,h.2⟩;rcases h.1.2 with h' | ⟨g,cap,cur,h',hg,hh,r⟩
 ·exact .inl h'
 ·exact .inr ⟨g,cap,cur,h',hg,(ho.block g (Array.getElem?_eq_some_iff.1 hh).1 (hs g (by rw [h'];rfl))).trans hh,r⟩
theorem RD.grown {w w':World} {B B' R:Nat} {a:Option Addr} {L cap n p:Nat} {v:Value} {zs:List Int} (h:RD w B R a L cap n p) (ho:OVI w B' v zs) (hg:w.grownBy w' v.ownBlock):RD w' B R a L cap n p:=
 ⟨z0s hg h.1 (ho.blk_ne h.1 (by decide)),h.2.1,Nat.le_trans h.2.2 hg.size⟩
theorem RD.alloc {w:World} {B R:Nat} {a:Option Addr} {L cap n p:Nat} (h:RD w B R a L cap n p) (o:Obj):RD (w.alloc o) B R a L cap n p:=h.only (Only.ofBelow (S:=fun _=>False) ((Below.refl _ _).alloc nl o) nl) (by simp)
theorem z0f {w0 w w':World} {B R:Nat} (h:Below B w0 w/\B<=R/\B<=w.heap.size) (ho:Only (fun k=>k=R) w w'):Below B w0 w':=h.1.trans (ho.below h.2.2 (fun k hk=>by rw [hk];exact h.2.1))
theorem z3i {w w1 w':World} {R:Nat} {v:Value} {zs:List Int} (ho:Only (fun k=>k=R) w w1) (h:OVI w1 w.heap.size v zs) (hg:w1.grownBy w' v.ownBlock):Only (fun k=>k=R) w w':=
 ho.grown hg (fun k hk=>.inr (h.1.lt k hk).1)
theorem zfd (R B:Nat) (a:Option Addr) (cap:Nat) (zs:List Int) (n V p s:Nat) (w0 w:World) (hb:Byt w0 a zs) (hB:w0.heap.size=B) (hbel:Below B w0 w) (hz:zs=enc n V) (hn:n<=4096) (hR:RD w B R a zs.length cap n p) (hp:p<=n) (hs:s<=80)
  (s0:Sent w0 17) (s1:Sent w0 18) (s2:Sent w0 19) (h4:Four w0) (hG:17<B/\18<B/\19<B) :
  Calls Tryz.prog 223 #[.pointer (some ⟨R,0,none⟩),.int .i64 s] w fun e w'=>giR B w0 w' R a zs.length cap n V p s e/\Only (fun k=>k=R) w w':=by
 obtain ⟨i0,hi,hz0,hz1,hz2⟩:=info_parts Tryz.infoI64;have HZ:Hid (zs=enc n V):=hz;have HR:Hid (RD w B R a zs.length cap n p/\Below B w0 w):=⟨hR,hbel⟩;have HBW:Hid (Below B w0 w/\B<=R/\B<=w.heap.size):=⟨hbel,hR.2.1,hR.2.2⟩;have HE:Hid (Sent w0 17/\Sent w0 18/\Sent w0 19/\Four w0/\w0.heap.size=B/\Byt w0 a zs):=⟨s0,s1,s2,h4,hB,hb⟩;clear hz hR hbel s0 s1 s2 h4 hB hb
 go_enter Tryz.func223,Tryz.ntmps223
 go_wp2
 go_loopw [6,7] (fun o ev wr=>∃ (q k f:Nat) (out:List Int) (au:Option Addr) (cu:Nat) (eb:Bool),o=.slice au k cu/\ev=.bool eb/\(out.length=k/\k<=s/\q<=n)/\(s<=f+k/\gi n V s f q out eb=gi n V s s p [] false)/\OVI wr w.heap.size (.slice au k cu) out/\RD wr B R a zs.length cap n q/\Below B w0 wr/\Only (fun k=>k=R) w wr) (fun o _ _=>s-z63 o)
 case atStart=>exact ⟨p,0,s,[],none,0,false,rfl,rfl,⟨rfl,by omega,hp⟩,⟨by omega,rfl⟩,OVI.nil _ _,HR.out.1,HR.out.2,Only.refl _ _⟩
 case round=>
  clear HR;obtain ⟨q,k,f,out,au,cu,eb,rfl,rfl,⟨hkl,hk7,hq⟩,hgi,hov,hrd,hbel,hon⟩:=hrel;have HON:Hid (Only (fun k=>k=R) w wr):=hon
  have hszW:w.heap.size<=wr.heap.size:=hon.size;clear hon;have HF:Hid (out.length=k/\s<=f+k/\gi n V s f q out eb=gi n V s s p [] false):=⟨hkl,hgi⟩;have HB:Hid (Below B w0 wr/\RD wr B R a zs.length cap n q):=⟨hbel,hrd⟩;have HOV:Hid (OVI wr w.heap.size (.slice au k cu) out):=hov;have hsz:B<=wr.heap.size:=by have:=hbel.size;have:=HE.out.2.2.2.2.1;omega
  clear hkl hgi hov hbel hrd
  by_cases hlt:k<s
  ·have hlt2:(k:Int)<(s:Int):=by omega
   obtain ⟨f,rfl⟩:∃ g,f=g+1:=⟨f-1,by have:=HF.out.2.1;omega⟩
   by_cases c1:q+4<=n
   ·have HC:=HB.out.2.yes V 4 (by omega) (HE.out.2.2.2.2.2.below HB.out.1 (by rw [HE.out.2.2.2.2.1];exact Nat.le_refl _)) HZ.out (by omega) (by omega) (by omega)
    go_wp2_with fail
    refine HC.mono ?_;clear HC;rintro e w2 ⟨rfl,hrd2,hon2,hb2⟩;have hxe:V / 2 ^ q % 2 ^ (4:Int).toNat=bt V q 4:=rfl;rw [hxe];have hx16:=z00 V q 4;have HON2:Hid (Only (fun k=>k=R) w w2):=HON.out.trans hon2
    have hzW2:w.heap.size<=w2.heap.size:=HON2.out.size;have HRD2:Hid (RD w2 B R a zs.length cap n (q+4)):=hrd2;have HB2:Hid (Below B w0 w2):=HB.out.1.trans hb2;have HOV2:Hid (OVI w2 w.heap.size (.slice au k cu) out):=HOV.out.stayR hon2 (fun j hj he=>HOV.out.blk_ne HB.out.2.1 (by decide) (by rw [hj,he]))
    have hz3:B<=w2.heap.size:=hrd2.2.2;have hu:w2.ownsRow w.heap.size 3 1 (.slice au k cu) k (out.map (Value.int .i64)):=by have:=HOV2.out.1;rw [HF.out.1] at this;exact this
    have HXB:Hid (∃ x,x=bt V q 4):=⟨_,rfl⟩;obtain ⟨x,hxx⟩:=HXB.out;rw [<-hxx] at hx16 ⊢;have HXE:Hid (x=bt V q 4):=hxx;clear hxx hxe hb2 hrd2 hon2 HXB HOV;have HK8:Hid (k<=87):=by unfold Hid;omega
    by_cases hx0:x=0
    ·have hx1:((x:Int) == 0)=true:=by rw [beq_iff_eq];omega
     have HX0:Hid (x=0/\bt V q 4=0):=⟨hx0,by rw [<-HXE.out];exact hx0⟩
     clear hx0
     by_cases c2:q+7<=n
     ·skip
      go_wp2_with (at_builtin;(refine wpList_append_lies _ rfl (.tmp 23) (.tmp 25) 29 rfl w.heap.size 3 i0 (.int .i64 0) 1 8 Tryz.underlying29 hi hz0 hz1 hz2 rfl (by decide) (.slice au k cu) k (out.map (Value.int .i64)) rfl (hu.alloc _) ⟨w2.heap.size,0,none⟩ 1 1 [.int .i64 (x:Nat)] rfl rfl (by intro j y hj;match j,hj with | 0,hj=>(simp at hj;subst hj;simp [Addr.add])) (by intro y hy;simp at hy;subst hy;rfl) (by omega) (by have:=HK8.out;unfold maxLen;omega) (by have:=HK8.out;omega) (by simp;omega) _ rfl ?_);intro g cap1 w4 hown hgrow hat hlt1)
      have HOV4:Hid (OVI w4 w.heap.size (.slice (some ⟨g,0,none⟩) (k+1) cap1) (out++[((x:Nat):Int)])):=OVI.app HF.out.1 HOV2.out.2 (by omega) hown
      have HRD4:Hid (RD w4 B R a zs.length cap n (q+4)):=RD.grown (HRD2.out.alloc _) ⟨HOV2.out.1.alloc _,HOV2.out.2⟩ hgrow;have HON4:Hid (Only (fun k=>k=R) w w4):=z3i (HON2.out.alloc _) ⟨HOV2.out.1.alloc _,HOV2.out.2⟩ hgrow
      have HB4:Hid (Below B w0 w4):=z0f HBW.out HON4.out;have hz4:B<=w4.heap.size:=HRD4.out.2.2;clear hown hgrow hat hlt1 HOV2 HB2 HRD2 hu hz3 HON2 hzW2;have HC:=HRD4.out.yes V 3 (by omega) (HE.out.2.2.2.2.2.below HB4.out (by rw [HE.out.2.2.2.2.1];exact Nat.le_refl _)) HZ.out (by omega) (by omega) (by omega)
      refine HC.mono ?_;clear HC;rintro e w5 ⟨rfl,hrd5,hon5,hb5⟩;have hye:V / 2 ^ (q+4) % 2 ^ (3:Int).toNat=bt V (q+4) 3:=rfl;rw [hye];have hy8:=z00 V (q+4) 3;have HON5:Hid (Only (fun k=>k=R) w w5):=HON4.out.trans hon5
      have hzW5:w.heap.size<=w5.heap.size:=HON5.out.size;have HRD5:Hid (RD w5 B R a zs.length cap n (q+7)):=hrd5;have HB5:Hid (Below B w0 w5):=HB4.out.trans hb5;have HOV5:Hid (OVI w5 w.heap.size (.slice (some ⟨g,0,none⟩) (k+1) cap1) (out++[((x:Nat):Int)])):=HOV4.out.stayR hon5 (fun j hj he=>HOV4.out.blk_ne HRD4.out.1 (by decide) (by rw [hj,he]))
      have hz5:B<=w5.heap.size:=hrd5.2.2;have HL:Hid ((out++[((x:Nat):Int)]).length=k+1):=by rw [List.length_append,HF.out.1];rfl
      have HGB:Hid (eb=true\/s<k+1+bt V (q+4) 3->gi n V s s p [] false=none):=by
       intro hbad
       rw [<-HF.out.2.2];exact zkc (by rw [HF.out.1];exact hlt) HX0.out.2 c2 (by rw [HF.out.1];exact hbad)
      have HGZ:Hid (¬(eb=true\/s<k+1+bt V (q+4) 3)->gi n V s f (q+7) (out++[0]++List.replicate (bt V (q+4) 3) 0) (decide (bt V (q+4) 3<7))=gi n V s s p [] false):=by
       intro hgd
       rw [<-HF.out.2.2];exact (zju (by rw [HF.out.1];exact hlt) HX0.out.2 c2 (by rw [HF.out.1];exact hgd)).symm
      clear hye hb5 hrd5 hon5 HOV4 HB4 HRD4 hz4;generalize bt V (q+4) 3=y at *;obtain ⟨T9,y9,he9⟩:=HE.out.2.2.1.below HB5.out hG.2.2
      by_cases hbad:eb=true\/s<k+1+y
      ·have HN:Hid (gi n V s s p [] false=none):=HGB.out hbad
       clear HGB HGZ
       cases eb with
       | true=>
        go_wp2
        try go_region
        all_goals try go_wp2
        all_goals exact bodyPost_ret (v:=.tuple #[.slice none 0 0,.iface 297 (.pointer (some ⟨w5.heap.size,0,none⟩))]) (by simp [results,Tryz.results223,go_sem]) rfl ⟨giR.no (by repeat (first | exact HB5.out | refine Below.drew ?_ | refine Below.alloc ?_ (by first | exact hz5 | (simp;omega)) _)) HN.out,by repeat (first | exact HON5.out | refine Only.drew ?_ | refine Only.alloc ?_ _)⟩
       | false=>
        have hbd:(s:Int)-((k:Int)+1)<(y:Int):=by
         rcases hbad with h | h
         ·cases h
         ·omega
        go_wp2
        try go_region
        all_goals try go_wp2
        all_goals exact bodyPost_ret (v:=.tuple #[.slice none 0 0,.iface 297 (.pointer (some ⟨w5.heap.size,0,none⟩))]) (by simp [results,Tryz.results223,go_sem]) rfl ⟨giR.no (by repeat (first | exact HB5.out | refine Below.drew ?_ | refine Below.alloc ?_ (by first | exact hz5 | (simp;omega)) _)) HN.out,by repeat (first | exact HON5.out | refine Only.drew ?_ | refine Only.alloc ?_ _)⟩
      ·have HG:=HGZ.out hbad
       have hbd:¬(s:Int)-((k:Int)+1)<(y:Int):=by omega
       have hks2:k+1+y<=s:=by omega
       cases eb with
       | true=>exact absurd (Or.inl rfl) hbad
       | false=>
        clear HGB HGZ hbad;have HGG:Hid (gi n V s f (q+7) (out++[0]++List.replicate y 0) (decide (y<7))=gi n V s s p [] false):=HG;clear HG;go_wp2_with (at_builtin;(refine z2c rfl (.tmp 53) (.tmp 54) rfl w.heap.size (.slice (some ⟨g,0,none⟩) (k+1) cap1) (out++[((x:Nat):Int)]) rfl HOV5.out y rfl (by rw [HL.out];omega) (by rw [HL.out];omega) hzW5 ?_);intro v6 w6 hown6 hgrow6)
        obtain ⟨a6,c6,rfl⟩:=hown6.form;have hl6:(out++[((x:Nat):Int)]++List.replicate y 0).length=k+1+y:=by rw [List.length_append,HL.out,List.length_replicate]
        rw [hl6] at hown6 ⊢;have HOV6:Hid (OVI w6 w.heap.size (.slice a6 (k+1+y) c6) (out++[0]++List.replicate y 0)):=by rw [HX0.out.1] at hown6;exact hown6
        have HON6:Hid (Only (fun k=>k=R) w w6):=z3i HON5.out HOV5.out hgrow6
        have HB6:Hid (Below B w0 w6):=z0f HBW.out HON6.out;have HRD6:Hid (RD w6 B R a zs.length cap n (q+7)):=RD.grown HRD5.out HOV5.out hgrow6;have HL6:Hid ((out++[(0:Int)]++List.replicate y 0).length=k+1+y):=by rw [HX0.out.1] at hl6;exact hl6
        clear hl6 hown6 hgrow6 HOV5 HB5 HL HRD5;go_roundw
        case rel=>exact ⟨q+7,k+1+y,f,out++[0]++List.replicate y 0,a6,c6,decide (y<7),rfl,by simp;omega,⟨HL6.out,by omega,by omega⟩,⟨by have:=HF.out.2.1;omega,HGG.out⟩,HOV6.out,HRD6.out,HB6.out,HON6.out⟩
        case measure=>simp [z63];omega
     ·skip
      go_wp2_with (at_builtin;(refine wpList_append_lies _ rfl (.tmp 23) (.tmp 25) 29 rfl w.heap.size 3 i0 (.int .i64 0) 1 8 Tryz.underlying29 hi hz0 hz1 hz2 rfl (by decide) (.slice au k cu) k (out.map (Value.int .i64)) rfl (hu.alloc _) ⟨w2.heap.size,0,none⟩ 1 1 [.int .i64 (x:Nat)] rfl rfl (by intro j y hj;match j,hj with | 0,hj=>(simp at hj;subst hj;simp [Addr.add])) (by intro y hy;simp at hy;subst hy;rfl) (by omega) (by have:=HK8.out;unfold maxLen;omega) (by have:=HK8.out;omega) (by simp;omega) _ rfl ?_);intro g cap1 w4 hown hgrow hat hlt1)
      have HOV4:Hid (OVI w4 w.heap.size (.slice (some ⟨g,0,none⟩) (k+1) cap1) (out++[((x:Nat):Int)])):=OVI.app HF.out.1 HOV2.out.2 (by omega) hown
      have HRD4:Hid (RD w4 B R a zs.length cap n (q+4)):=RD.grown (HRD2.out.alloc _) ⟨HOV2.out.1.alloc _,HOV2.out.2⟩ hgrow;have HON4:Hid (Only (fun k=>k=R) w w4):=z3i (HON2.out.alloc _) ⟨HOV2.out.1.alloc _,HOV2.out.2⟩ hgrow
      have HB4:Hid (Below B w0 w4):=z0f HBW.out HON4.out;have hz4:B<=w4.heap.size:=HRD4.out.2.2;clear hown hgrow hat hlt1 HOV2 HB2 HRD2 hu hz3 HON2 hzW2;have HN:Hid (gi n V s s p [] false=none):=by rw [<-HF.out.2.2];exact zlr (by rw [HF.out.1];exact hlt) c1 HX0.out.2 c2
      have HC:=HRD4.out.no 3 (by omega) (by omega) (HE.out.1.below HB4.out hG.1) (HE.out.2.1.below HB4.out hG.2.1) (by omega)
      refine HC.mono ?_;clear HC;rintro e w5 ⟨⟨T,y,rfl⟩,m,rfl⟩;go_wp2;exact bodyPost_ret (v:=.tuple #[.slice none 0 0,.iface T y]) (by simp [results,Tryz.results223,go_sem]) rfl ⟨giR.no (zai HB4.out _) HN.out,HON4.out.drewN _⟩
    ·have hx1:((x:Int) == 0)=false:=by rw [beq_eq_false_iff_ne];omega
     go_wp2_with (at_builtin;(refine wpList_append_lies _ rfl (.tmp 23) (.tmp 25) 29 rfl w.heap.size 3 i0 (.int .i64 0) 1 8 Tryz.underlying29 hi hz0 hz1 hz2 rfl (by decide) (.slice au k cu) k (out.map (Value.int .i64)) rfl (hu.alloc _) ⟨w2.heap.size,0,none⟩ 1 1 [.int .i64 (x:Nat)] rfl rfl (by intro j y hj;match j,hj with | 0,hj=>(simp at hj;subst hj;simp [Addr.add])) (by intro y hy;simp at hy;subst hy;rfl) (by omega) (by have:=HK8.out;unfold maxLen;omega) (by have:=HK8.out;omega) (by simp;omega) _ rfl ?_);intro g cap1 w4 hown hgrow hat hlt1)
     have HOV4:Hid (OVI w4 w.heap.size (.slice (some ⟨g,0,none⟩) (k+1) cap1) (out++[((x:Nat):Int)])):=OVI.app HF.out.1 HOV2.out.2 (by omega) hown
     have HRD4:Hid (RD w4 B R a zs.length cap n (q+4)):=RD.grown (HRD2.out.alloc _) ⟨HOV2.out.1.alloc _,HOV2.out.2⟩ hgrow;have HON4:Hid (Only (fun k=>k=R) w w4):=z3i (HON2.out.alloc _) ⟨HOV2.out.1.alloc _,HOV2.out.2⟩ hgrow
     have HB4:Hid (Below B w0 w4):=z0f HBW.out HON4.out;have hz4:B<=w4.heap.size:=HRD4.out.2.2;clear hown hgrow hat hlt1 HOV2 HB2 HRD2 hu hz3 HON2 hzW2;have HG:Hid (gi n V s f (q+4) (out++[((x:Nat):Int)]) false=gi n V s s p [] false):=by rw [<-HF.out.2.2,HXE.out];exact (zkg (by rw [HF.out.1];exact hlt) c1 (by rw [<-HXE.out];exact hx0)).symm
     go_roundw
     case rel=>exact ⟨q+4,k+1,f,out++[((x:Nat):Int)],some ⟨g,0,none⟩,cap1,false,rfl,rfl,⟨by rw [List.length_append,HF.out.1];rfl,by omega,by omega⟩,⟨by have:=HF.out.2.1;omega,HG.out⟩,HOV4.out,HRD4.out,HB4.out,HON4.out⟩
     case measure=>simp [z63];omega
   ·have HN:Hid (gi n V s s p [] false=none):=by rw [<-HF.out.2.2];exact zlu (by rw [HF.out.1];exact hlt) c1
    have HC:=HB.out.2.no 4 (by omega) (by omega) (HE.out.1.below HB.out.1 hG.1) (HE.out.2.1.below HB.out.1 hG.2.1) (by omega)
    go_wp2_with fail
    refine HC.mono ?_;clear HC;rintro e w2 ⟨⟨T,y,rfl⟩,m,rfl⟩;go_wp2;exact bodyPost_ret (v:=.tuple #[.slice none 0 0,.iface T y]) (by simp [results,Tryz.results223,go_sem]) rfl ⟨giR.no (zai HB.out.1 _) HN.out,HON.out.drewN _⟩
  ·have hlt2:¬(k:Int)<(s:Int):=by omega
   have HG:Hid (gi n V s s p [] false=some (out,q)):=by rw [<-HF.out.2.2];exact zkp (by rw [HF.out.1];exact hlt)
   have hks:k=s:=by omega
   subst hks;have HC:=za7 au cu out wr HOV.out.ins (by rw [HF.out.1];omega) (HE.out.2.2.2.1.below (by rw [HE.out.2.2.2.2.1];exact HB.out.1))
   rw [HF.out.1] at HC;go_wp2_with fail
   refine HC.mono ?_;clear HC;rintro e w5 ⟨hb5,hy5,hn5⟩;obtain ⟨a',c',e',hm⟩:=HOV.out.mine;have HON5:Hid (Only (fun k=>k=R) w w5):=HON.out.trans (Only.ofBelow hb5 nl)
   have HM:Hid (MinI w5 B w5.heap.size au cu out):=by
    obtain ⟨rfl,-,rfl⟩:au=a'/\k=out.length/\cu=c':=by simpa using e'
    exact (hm.below hb5).mono HBW.out.2.2 hb5.size
   have HB5:Hid (Below B w0 w5/\RD w5 B R a zs.length cap n q):=⟨HB.out.1.trans (hb5.mono hsz),HB.out.2.only (Only.ofBelow (S:=fun _=>False) hb5 nl) (by simp)⟩
   clear e' hm hb5
   cases hlb:zx out with
   | true=>
    obtain rfl:=hy5 hlb;have HRR:giR B w0 w5 R a zs.length cap n V p k (.returned (.tuple #[.slice au k cu,.nilIface])):=by
     refine And.intro HB5.out.1 (And.intro (fun res q' hy=>?_) (fun hno=>absurd ⟨out,q,HG.out,hlb⟩ hno))
     obtain ⟨rfl,rfl⟩:out=res/\q=q':=by have:=hy.1;rw [HG.out] at this;simpa using this
     exact ⟨au,cu,by rw [HF.out.1],HM.out,HB5.out.2⟩
    clear hy5 hn5 HG HM HOV HF HB5 hlb HB;go_wp2;exact bodyPost_ret (v:=.tuple #[.slice au k cu,.nilIface]) (by simp [results,Tryz.results223,go_sem]) rfl ⟨HRR,HON5.out⟩
   | false=>
    obtain ⟨pp,rfl⟩:=hn5 hlb;have HRR:giR B w0 w5 R a zs.length cap n V p k (.returned (.tuple #[.slice au k cu,.iface 297 (.pointer (some pp))])):=by
     refine And.intro HB5.out.1 (And.intro (fun res q' hy=>?_) (fun hno=>⟨_,_,_,rfl⟩))
     obtain ⟨rfl,rfl⟩:out=res/\q=q':=by have:=hy.1;rw [HG.out] at this;simpa using this
     have:=hy.2;rw [hlb] at this
     cases this
    clear hy5 hn5 HG HM HOV HF HB5 hlb HB;go_wp2;exact bodyPost_ret (v:=.tuple #[.slice au k cu,.iface 297 (.pointer (some pp))]) (by simp [results,Tryz.results223,go_sem]) rfl ⟨HRR,HON5.out⟩
def z3o (zs:List Int) (p:Nat):Nat:=(zs.getD (p / 8) 0).toNat / 2 ^ (p % 8) % 2
theorem z21 (a:Option Addr) (cap:Nat) (zs:List Int) (N p:Int) (w:World) (hb:Byt w a zs) (h0:0<=p) (h1:p.toNat / 8<zs.length) (hp:p<=8388608) :
  Calls Tryz.prog 176 #[.agg #[.slice a zs.length cap,.int .i64 N],.int .i64 p] w fun e w'=>e=.returned (.int .i64 (z3o zs p.toNat:Nat))/\Below w.heap.size w w':=by
 have hw:Below w.heap.size w (w.alloc (Obj.cells #[.slice a zs.length cap,.int .i64 N] 155)):=ba;obtain ⟨q,rfl⟩:=Int.eq_ofNat_of_zero_le h0
 simp only [Int.toNat_natCast] at *
 obtain ⟨b,off,rfl,hbl,hc⟩:=hb.len_pos (q / 8) h1;have hs:=hc (q / 8) h1;have hr:=z0g hb.1 (q / 8);have hlen:(q / 8:Nat)<zs.length:=h1;generalize hz:zs.getD (q / 8) 0=z at *;have HZ:Hid (zs.getD (q / 8) 0=z):=hz;clear hz hc
 go_enter Tryz.func176,Tryz.ntmps176
 go_wp2
 go_ret;exact ⟨z4z (by unfold z3o;rw [HZ.out];exact ziv z _ hr),hw⟩
def cd (v p:Nat):Nat->Nat
 | 0=>0
 | k+1=>2*cd v p k+v / 2 ^ (p+k) % 2
theorem zdz (v p:Nat):∀ k,cd v p k<2 ^ k
 | 0=>by simp [cd]
 | k+1=>by
  have:=zdz v p k
  simp only [cd]
  rw [Nat.pow_succ]
  omega
def Hit (ls cs:List Int) (v p k i:Nat):Prop:=ls.getD i 0=(k:Int)/\cs.getD i 0=(cd v p k:Nat)
def z0l (ls cs:List Int) (v p k:Nat):Prop:=∀ j i,1<=j->j<=k->i<ls.length->¬Hit ls cs v p j i
theorem zh2 (a:Option Addr) (ca:Nat) (ls:List Int) (b:Option Addr) (cb:Nat) (cs:List Int) (x:Option Addr) (cx:Nat) (zs:List Int) (n v p:Nat) (w:World) (ha:Ins w a ls) (hb:Ins w b cs) (hx:Byt w x zs) (hz:zs=enc n v) (hn:n<=4104) (hp:p<=n) (hl:ls.length<=80) (hcl:cs.length=ls.length) :
  Calls Tryz.prog 180 #[.slice a ls.length ca,.slice b ls.length cb,.agg #[.slice x zs.length cx,.int .i64 n],.int .i64 p] w fun e w'=>Below w.heap.size w w' /\
   ((∃ k i, 1 <= k /\ k <= 12 /\ p + k <= n /\ i < ls.length /\ Hit ls cs v p k i /\ (∀ j, j < i -> ¬ Hit ls cs v p k j) /\ z0l ls cs v p (k-1) /\ e = .returned (.tuple #[.int .i64 i, .int .i64 (p + k : Nat)])) \/
    (z0l ls cs v p (min 12 (n-p))/\e=.returned (.tuple #[.int .i64 (-1),.int .i64 (-1)]))):=by
 have hw:Below w.heap.size w (w.alloc (Obj.cells #[.slice x zs.length cx,.int .i64 n] 155)):=ba;have HW:Hid _:=hw;have HA:Hid (Ins w a ls):=ha;have HB:Hid (Ins w b cs):=hb;have HX:Hid (Byt w x zs):=hx;have HZ:Hid (zs=enc n v):=hz;have HL:Hid (zs.length=(n+7) / 8):=by unfold Hid;rw [hz,z0p]
 have HC:Hid (cs.length=ls.length):=hcl;clear hw ha hb hx hz hcl;generalize hz0:zs.length=Z at *;have HZL:Hid (zs.length=Z):=hz0;clear hz0;generalize hn0:ls.length=m at *;have HLL:Hid (ls.length=m):=hn0;clear hn0
 go_enter Tryz.func180,Tryz.ntmps180
 go_wp2
 go_loopw [3,10,11] (fun t c k wr=>∃ (j:Nat) (tz kz cz:Int),j<=12/\p+j<=n/\tz=(p:Int)+j/\kz=(j:Int)+1/\cz=(cd v p j:Nat)/\t=.int .i64 tz/\c=.int .i64 cz/\k=.int .i64 kz/\Below w.heap.size w wr/\w.heap.size<wr.heap.size /\
   wr.cell? ⟨w.heap.size,0,none⟩=some (.slice x Z cx)/\wr.cell? ⟨w.heap.size,1,none⟩=some (.int .i64 n)/\z0l ls cs v p j) (fun _ _ k _=>(13-intOf k).toNat)
 case atStart=>exact ⟨0,p,1,0,by omega,by omega,by simp,by simp,by simp [cd],rfl,rfl,rfl,HW.out,by simp,by simp,by simp,fun j i h1 h2=>by omega⟩
 case round=>
  clear HW;obtain ⟨j,tz,kz,cz,hj,hpj,ht,hk,hc,rfl,rfl,rfl,hbel,hsz,p0,p1,hnh⟩:=hrel;have HNH:Hid (z0l ls cs v p j):=hnh;have HBL:Hid (Below w.heap.size w wr):=hbel;have HT:Hid (tz=(p:Int)+j):=ht;have HK:Hid (kz=(j:Int)+1):=hk;have hcb:=zdz v p j;have hcp:2 ^ j<=2 ^ 12:=Nat.pow_le_pow_right (by omega) hj
  have hcz:0<=cz/\cz<=4096:=by omega
  have HCZ:Hid (cz=(cd v p j:Nat)):=hc;have htz:0<=tz/\tz<=4200:=by omega
  have hkz:1<=kz/\kz<=13:=by omega
  clear hnh hbel hcb hcp hc
  by_cases hgo:j<12/\p+j<n
  ·have h1:kz<=12:=by omega
   have h2:tz<(n:Int):=by omega
   have HBT:Hid (z3o zs tz.toNat=v / 2 ^ (p+j) % 2):=by
    have:=z2h n v (p+j) (by omega)
    rw [<-HZ.out] at this;unfold Hid;rw [show tz.toNat=p+j from by omega]
    exact this
   have HZT:Hid (tz.toNat / 8<zs.length):=by have:=HL.out;have:=HZL.out;unfold Hid;omega
   have HLB:=z21 x cx zs (n:Int) tz wr (HX.out.below HBL.out nl) htz.1 HZT.out (by omega)
   rw [HZL.out,HBT.out] at HLB;have hb2:v / 2 ^ (p+j) % 2<2:=Nat.mod_lt _ (by omega)
   have HCD:Hid (2*cz+((v / 2 ^ (p+j) % 2:Nat):Int)=(cd v p (j+1):Nat)):=by have:=HCZ.out;unfold Hid;simp only [cd];omega
   generalize hbb:((v / 2 ^ (p+j) % 2:Nat):Int)=bz at *;have hbz:0<=bz/\bz<=1:=by omega
   clear ht hk hb2 hbb;go_wp2_with fail
   refine HLB.mono ?_;clear HLB;rintro e w1 ⟨rfl,hb1⟩;have HB1:Hid (Below w.heap.size w w1):=HBL.out.trans (hb1.mono (Nat.le_of_lt hsz));have q0:=keep hb1 hsz p0;have q1:=keep hb1 hsz p1;have hsz1:w.heap.size<w1.heap.size:=Nat.lt_of_lt_of_le hsz hb1.size;clear hb1 p0 p1 hsz;have hdz:0<=2*cz+bz/\2*cz+bz<=8193:=by omega
   go_wp2
   generalize 2*cz+bz=ez at *
   go_loopw [12] (fun i wi=>∃ q:Nat,q<=m/\i=.int .i64 q/\wi=w1/\∀ y,y<q->¬Hit ls cs v p (j+1) y) (fun i _=>m-(intOf i).toNat)
   case atStart=>exact ⟨0,Nat.zero_le _,rfl,rfl,fun y hy=>by omega⟩
   case round=>
    obtain ⟨q,hq,rfl,hwi,hny⟩:=hrel;subst hwi;have HNY:Hid (∀ y,y<q->¬Hit ls cs v p (j+1) y):=hny;clear hny
    by_cases hlt:q<m
    ·obtain ⟨b1,o1,rfl,hb1,hc1⟩:=(HA.out.below HB1.out nl).len_pos q (by rw [HLL.out];exact hlt)
     have l0:=hc1 q (by rw [HLL.out];exact hlt)
     obtain ⟨b2,o2,rfl,hb2,hc2⟩:=(HB.out.below HB1.out nl).len_pos q (by rw [HC.out];exact hlt)
     have d0:=hc2 q (by rw [HC.out];exact hlt)
     have HHI:Hid (Hit ls cs v p (j+1) q↔ls.getD q 0=kz/\cs.getD q 0=ez):=by
      unfold Hid Hit;rw [HCD.out,HK.out]
      simp
     generalize ls.getD q 0=lz at *;generalize cs.getD q 0=dz at *;clear hc1 hc2;have HGO:Hid (¬Hit ls cs v p (j+1) q->∀ y,y<q+1->¬Hit ls cs v p (j+1) y):=fun h y hy=>by
      by_cases hyq:y=q
      ·subst hyq;exact h
      ·exact HNY.out y (by omega)
     by_cases hlk:lz=kz
     ·subst hlk
      by_cases hde:dz=ez
      ·subst hde
       have HH:Hid (Hit ls cs v p (j+1) q):=HHI.out.2 ⟨rfl,rfl⟩;have HPK:Hid (tz+1=((p+(j+1):Nat):Int)):=by have:=HT.out;unfold Hid;omega
       clear HHI HGO;go_wp2;refine bodyPost_ret (v:=.tuple #[.int .i64 q,.int .i64 (tz+1)]) (by simp [results,Tryz.results180,go_sem]) rfl ?_
       exact ⟨HB1.out,.inl ⟨j+1,q,by omega,by omega,by omega,by omega,HH.out,HNY.out,HNH.out,by rw [HPK.out]⟩⟩
      ·have HN2:Hid (∀ y,y<q+1->¬Hit ls cs v p (j+1) y):=HGO.out (fun h=>hde (HHI.out.1 h).2)
       have hne:(dz == ez)=false:=by simpa using hde
       clear HHI HGO HNY;go_wp2;go_roundw
       case rel=>exact ⟨q+1,by omega,by go_num,trivial,HN2.out⟩
       case measure=>simp [intOf];omega
     ·have HN2:Hid (∀ y,y<q+1->¬Hit ls cs v p (j+1) y):=HGO.out (fun h=>hlk (HHI.out.1 h).1)
      have hne:(lz == kz)=false:=by simpa using hlk
      clear HHI HGO HNY;go_wp2;go_roundw
      case rel=>exact ⟨q+1,by omega,by go_num,trivial,HN2.out⟩
      case measure=>simp [intOf];omega
    ·have hqm:q=m:=by omega
     subst hqm;have HN2:Hid (z0l ls cs v p (j+1)):=fun y i h3 h4 h5=>by
      by_cases hy:y=j+1
      ·subst hy;exact HNY.out i (by rw [HLL.out] at h5;exact h5)
      ·exact HNH.out y i h3 (by omega) h5
     have HT2:Hid (tz+1=(p:Int)+(j+1:Nat)):=by have:=HT.out;unfold Hid;omega
     have HK2:Hid (kz+1=((j+1:Nat):Int)+1):=by have:=HK.out;unfold Hid;omega
     clear HNY HNH;go_wp2;go_roundw
     case rel=>exact ⟨j+1,tz+1,kz+1,ez,by omega,by omega,HT2.out,HK2.out,HCD.out,by go_num,rfl,by go_num,HB1.out,hsz1,q0,q1,HN2.out⟩
     case measure=>simp [intOf];omega
  ·have HFN:Hid (z0l ls cs v p (min 12 (n-p))):=by
    have e:min 12 (n-p)=j:=by omega
    rw [e];exact HNH.out
   by_cases h12:j<12
   ·have h1:kz<=12:=by omega
    have h2:(n:Int)<=tz:=by omega
    clear ht hk;go_wp2;refine bodyPost_ret (v:=.tuple #[.int .i64 (-1),.int .i64 (-1)]) (by simp [results,Tryz.results180,go_sem]) rfl ?_
    exact ⟨HBL.out,.inr ⟨HFN.out,rfl⟩⟩
   ·have h1:12<kz:=by omega
    clear ht hk;go_wp2;refine bodyPost_ret (v:=.tuple #[.int .i64 (-1),.int .i64 (-1)]) (by simp [results,Tryz.results180,go_sem]) rfl ?_
    exact ⟨HBL.out,.inr ⟨HFN.out,rfl⟩⟩
def atL (zs:List Int) (L i:Nat):List Int:=((List.range i).filter (fun s=>decide (zs.getD s 0=(L:Int)))).map (fun s=>((s:Nat):Int))
def sbL (zs:List Int):Nat->List Int
 | 0=>[]
 | l+1=>sbL zs l++atL zs (l+1) zs.length
theorem z2j (zs:List Int) (L:Nat):atL zs L 0=[]:=by simp [atL]
theorem z1k (zs:List Int) (L i:Nat) (h:zs.getD i 0=(L:Int)):atL zs L (i+1)=atL zs L i++[(i:Int)]:=by
 unfold atL;rw [List.range_succ,List.filter_append,List.map_append]
 congr 1
 rw [List.filter_cons_of_pos (by simpa using h)]
 simp
theorem z3c (zs:List Int) (L i:Nat) (h:¬zs.getD i 0=(L:Int)):atL zs L (i+1)=atL zs L i:=by
 unfold atL;rw [List.range_succ,List.filter_append,List.map_append];rw [List.filter_cons_of_neg (by simpa using h)]
 simp
theorem z51 (zs:List Int) (L i:Nat):(atL zs L i).length<=i:=by
 unfold atL;rw [List.length_map];have:=List.length_filter_le (fun s=>decide (zs.getD s 0=(L:Int))) (List.range i)
 simpa using this
theorem z3d (zs:List Int) (l:Nat):(sbL zs l).length<=l*zs.length:=by
 induction l with
 | zero=>simp [sbL]
 | succ l ih=>
  have:=z51 zs (l+1) zs.length
  simp only [sbL,List.length_append,Nat.add_mul]
  omega
theorem z7u (zs:List Int) (L i:Nat):∀ z ∈ atL zs L i,∃ s:Nat,z=s/\s<i/\zs.getD s 0=(L:Int):=by
 intro z hz
 simp only [atL,List.mem_map,List.mem_filter,List.mem_range,decide_eq_true_eq] at hz
 obtain ⟨s,⟨h1,h2⟩,rfl⟩:=hz;exact ⟨s,rfl,h1,h2⟩
theorem z89 (zs:List Int) (l:Nat):∀ z ∈ sbL zs l,∃ s:Nat,z=s/\s<zs.length/\1<=zs.getD s 0/\zs.getD s 0<=(l:Int):=by
 induction l with
 | zero=>simp [sbL]
 | succ l ih=>
  intro z hz
  simp only [sbL,List.mem_append] at hz
  rcases hz with hz | hz
  ·obtain ⟨s,h1,h2,h3,h4⟩:=ih z hz
   exact ⟨s,h1,h2,h3,by omega⟩
  ·obtain ⟨s,h1,h2,h3⟩:=z7u _ _ _ z hz
   exact ⟨s,h1,h2,by omega,by omega⟩
theorem zhz (a:Option Addr) (cap:Nat) (zs:List Int) (w:World) (hb:Ins w a zs) (hn:zs.length<=80) :
  Calls Tryz.prog 235 #[.slice a zs.length cap] w fun e w'=>
   ∃ a' cp,e=.returned (.slice a' (sbL zs 12).length cp)/\MinI w' w.heap.size w'.heap.size a' cp (sbL zs 12)/\Below w.heap.size w w':=by
 obtain ⟨i0,hi,hz0,hz1,hz2⟩:=info_parts Tryz.infoI64;have HSB:Hid (∀ l,sbL zs (l+1)=sbL zs l++atL zs (l+1) zs.length):=fun _=>rfl
 have HSL:Hid _:=z3d zs;have HAY:Hid _:=z1k zs;have HAN:Hid _:=z3c zs;have HAZ:Hid _:=z2j zs;have HAL:Hid _:=z51 zs;generalize hlen:zs.length=n at *;have HL:Hid (zs.length=n):=hlen;clear hlen
 go_enter Tryz.func235,Tryz.ntmps235
 go_wp2
 go_loopw [3,4] (fun o l wr=>∃ (M:Nat) (y:Int),y=M/\1<=M/\M<=13/\l=.int .i64 y/\OVI wr w.heap.size o (sbL zs (M-1))/\Below w.heap.size w wr) (fun _ l _=>13-(intOf l).toNat)
 case atStart=>exact ⟨1,1,rfl,by omega,by omega,rfl,OVI.nil _ _,Below.refl _ _⟩
 case round=>
  obtain ⟨M,y,hy,hM1,hM,rfl,hov,hbel⟩:=hrel;obtain ⟨ao,co,rfl⟩:=hov.form;have hsl:=HSL.out (M-1);have hlb:(M-1)*n<=12*80:=Nat.mul_le_mul (by omega) hn
  have hm:(sbL zs (M-1)).length<=960:=by omega
  have HOV:Hid (OVI wr w.heap.size (.slice ao (sbL zs (M-1)).length co) (sbL zs (M-1))):=hov;clear hov hsl hlb;have HMY:Hid (y=(M:Int)):=hy;have HM1:Hid (1<=M/\M<=13):=⟨hM1,hM⟩;have hy1:1<=y/\y<=13:=by omega
  clear hy hM1 hM
  by_cases hL12:y<=12
  ·have HB0:Hid (Below w.heap.size w wr):=hbel
   have HMS:Hid (sbL zs (M+1-1)=sbL zs (M-1)++atL zs M n):=by
    obtain ⟨l,rfl⟩:∃ l,M=l+1:=⟨M-1,by have:=HM1.out;omega⟩
    exact HSB.out l
   clear hbel;generalize sbL zs (M-1)=q0 at *;generalize hm0:q0.length=m0 at *;have HM0:Hid (q0.length=m0):=hm0;clear hm0;go_wp2
   go_loopw [3,13] (fun o i wi=>∃ k:Nat,k<=n/\i=.int .i64 k/\OVI wi w.heap.size o (q0++atL zs M k)/\Below w.heap.size w wi) (fun _ i _=>n-(intOf i).toNat)
   case atStart=>exact ⟨0,Nat.zero_le _,rfl,by rw [HAZ.out,List.append_nil];exact HOV.out,HB0.out⟩
   case round=>
    clear HOV HB0;obtain ⟨k,hk,rfl,hov,hbel⟩:=hrel
    by_cases hlt:k<n
    ·obtain ⟨b1,o1,rfl,hb1,hc1⟩:=(hb.below hbel nl).len_pos k (by rw [HL.out];exact hlt)
     have hs1:=hc1 k (by rw [HL.out];exact hlt)
     have g1:=z15 hb.1 k;have hal:=HAL.out M k;have HY:=HAY.out M k;have HN:=HAN.out M k;obtain ⟨au,cu,rfl⟩:=hov.form;have hsz:=hbel.size;clear hc1;generalize zs.getD k 0=x at *;have hlen2:(q0++atL zs M k).length<=2000:=by rw [List.length_append,HM0.out];omega
     clear hal;generalize hq:q0++atL zs M k=q at *
     by_cases hx:x=y
     ·have HE:Hid (q++[(k:Int)]=q0++atL zs M (k+1)):=by unfold Hid;rw [HY (hx.trans HMY.out),<-List.append_assoc,hq]
      have HQR:Hid (∀ z ∈ q,-9223372036854775808<=z/\z<=9223372036854775807):=hov.2;have hu:=hov.1;have HOV:Hid (OVI wr w.heap.size (.slice au q.length cu) q):=hov;clear HY HN hq hov;subst hx;generalize hql:q.length=m at *;have HQL:Hid (q.length=m):=hql;clear hql;go_wp2_with (at_builtin;(refine wpList_append_lies _ rfl (.tmp 21) (.tmp 23) 29 rfl w.heap.size 3 i0 (.int .i64 0) 1 8 Tryz.underlying29 hi hz0 hz1 hz2 rfl (by decide) (.slice au m cu) m (q.map (Value.int .i64)) rfl (hu.alloc _) ⟨wr.heap.size,0,none⟩ 1 1 [.int .i64 (k:Nat)] rfl rfl (by intro j y hj;match j,hj with | 0,hj=>(simp at hj;subst hj;simp [Addr.add])) (by intro y hy;simp at hy;subst hy;rfl) (by omega) (by unfold maxLen;omega) (by omega) (by simp;omega) _ rfl ?_);intro g cap1 w1 hown hgrow hat hlt1)
      have HOV2:Hid (OVI w1 w.heap.size (.slice (some ⟨g,0,none⟩) (m+1) cap1) (q++[(k:Int)])):=OVI.app HQL.out HQR.out (by omega) hown
      have HB2:Hid (Below w.heap.size w w1):=z1i hbel hsz HOV.out hgrow;clear hown hgrow hat hlt1 HOV hu hbel;go_roundw
      case rel=>exact ⟨k+1,by omega,by go_num,by rw [<-HE.out];exact HOV2.out,HB2.out⟩
      case measure=>simp [intOf];omega
     ·have HE:Hid (q=q0++atL zs M (k+1)):=by unfold Hid;rw [HN (fun h=>hx (h.trans HMY.out.symm)),hq]
      have hxx:(x == y)=false:=by simpa using hx
      have HOV:Hid _:=hov;clear HY HN hq hov hx;go_wp2;go_roundw
      case rel=>exact ⟨k+1,by omega,by go_num,by rw [<-HE.out];exact HOV.out,hbel⟩
      case measure=>simp [intOf];omega
    ·have hkn:k=n:=by omega
     subst hkn;obtain ⟨au,cu,rfl⟩:=hov.form;have HOV:Hid _:=hov;clear hov;go_wp2;go_roundw
     case rel=>exact ⟨M+1,y+1,by have:=HMY.out;omega,by omega,by have:=HMY.out;omega,by go_num,by rw [HMS.out];exact HOV.out,hbel⟩
     case measure=>simp [intOf];omega
  ·have hLe:M=13:=by have:=HMY.out;have:=HM1.out;omega
   subst hLe;have HOV2:Hid (OVI wr w.heap.size (.slice ao (sbL zs (13-1)).length co) (sbL zs 12)):=HOV.out;clear HOV;go_wp2;go_ret;obtain ⟨a',cp,he,hmm⟩:=HOV2.out.mine;exact ⟨a',cp,congrArg Ending.returned he,hmm,hbel⟩
end Go.Proofs.YtaibkchbkedjnaaGreatDoor
