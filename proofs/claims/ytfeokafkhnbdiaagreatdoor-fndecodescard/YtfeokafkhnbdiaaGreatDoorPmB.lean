import Derived.LaidEql
import Derived.Stop.Asserts
import Derived.RowKitTokens
import Derived.Test.YtfeokafkhnbdiaaGreatDoorPmA
set_option maxRecDepth 20000
set_option maxHeartbeats 16000000
namespace Go.Proofs.YtfeokafkhnbdiaaGreatDoor
open Go.RowKit
set_option linter.unusedVariables false
def zm (f:Int->Int) (zs:List Int):Int:=(zs.map f).sum
theorem z1s (f:Int->Int) (zs:List Int) (k:Nat) (h:k<zs.length):zm f (zs.take (k+1))=zm f (zs.take k)+f (zs.getD k 0):=by
 unfold zm;rw [List.take_succ_eq_append_getElem h,List.map_append,List.sum_append]
 simp [List.getD_eq_getElem?_getD,List.getElem?_eq_getElem h]
theorem z15 (f:Int->Int) (m:Int) (hf:∀ z,0<=f z/\f z<=m) (zs:List Int):0<=zm f zs/\zm f zs<=m*zs.length:=by
 unfold zm
 induction zs with
 | nil=>simp
 | cons z zs ih=>
  have:=hf z
  simp only [List.map_cons,List.sum_cons,List.length_cons]
  rw [show m*((zs.length+1:Nat):Int)=m*zs.length+m from by rw [Int.natCast_add,Int.mul_add];simp]
  omega
def one (z:Int):Int:=if 0<z then 1 else 0
theorem z1q (z:Int):0<=one z/\one z<=1:=by unfold one;split <;> omega
def z08 (z:Int):Int:=if 0<z then 2 ^ (12-z).toNat else 0
theorem z9s (n:Nat) (h:n<=12):(1:Int)<=2 ^ n/\(2:Int) ^ n<=4096:=by
 have h1:1<=2 ^ n:=Nat.pow_pos (by omega)
 have h2:2 ^ n<=2 ^ 12:=Nat.pow_le_pow_right (by omega) h
 have e:((2:Int) ^ n)=((2 ^ n:Nat):Int):=by simp
 rw [e]
 omega
theorem zam (z:Int):0<=z08 z/\z08 z<=4096:=by
 unfold z08
 split
 ·have:=z9s (12-z).toNat (by omega);omega
 ·omega
theorem zn2 (n:Nat) (h:n<=12):wrap64 (2 ^ n)=2 ^ n:=by
 have:=z9s n h;generalize (2:Int) ^ n=y at *;exact IntWalk.wrap64_in _ (by omega)
def z01 (zs:List Int):Bool:=decide (1<=zs.length/\zs.length<=80/\(∀ z ∈ zs,0<=z/\z<=12)/\(zm one zs=1/\zm z08 zs=2048\/1<zm one zs/\zm z08 zs=4096))
theorem zan {zs:List Int} {k:Nat} (hk:k<zs.length) (h:¬(0<=zs.getD k 0/\zs.getD k 0<=12)):z01 zs=false:=by
 simp only [z01,decide_eq_false_iff_not]
 exact fun h'=>h (h'.2.2.1 _ (zp hk))
theorem zhx {zs:List Int} (h:¬(1<=zs.length/\zs.length<=80)):z01 zs=false:=by
 simp only [z01,decide_eq_false_iff_not]
 exact fun h'=>h ⟨h'.1,h'.2.1⟩
theorem zj8 {zs:List Int} (h1:1<=zs.length) (h2:zs.length<=80) (h:∀ z ∈ zs.take zs.length,0<=z/\z<=12):z01 zs=decide (zm one zs=1/\zm z08 zs=2048\/1<zm one zs/\zm z08 zs=4096):=by
 rw [List.take_length] at h
 simp only [z01]
 apply decide_eq_decide.2
 exact ⟨fun h'=>h'.2.2.2,fun h'=>⟨h1,h2,h,h'⟩⟩
structure Four (w:World):Prop where
 g1:∃ T x,w.cell? ⟨17,0,none⟩=some (.iface T x)
 g2:∃ T x,w.cell? ⟨18,0,none⟩=some (.iface T x)
 g3:∃ T x,w.cell? ⟨8,0,none⟩=some (.iface T x)
 g4:∃ T x,w.cell? ⟨19,0,none⟩=some (.iface T x)
theorem z50 {w w':World} {g:Nat} (h:∃ T x,w.cell? ⟨g,0,none⟩=some (.iface T x)) (hb:Below w.heap.size w w'):∃ T x,w'.cell? ⟨g,0,none⟩=some (.iface T x):=by
 obtain ⟨T,x,h⟩:=h;exact ⟨T,x,za hb (World.block_lt_of_cell? _ _ h) h⟩
theorem Four.below {w w':World} (h:Four w) (hb:Below w.heap.size w w'):Four w':=⟨z50 h.g1 hb,z50 h.g2 hb,z50 h.g3 hb,z50 h.g4 hb⟩
def chk (zs:List Int) (w:World) (e:Ending) (w':World):Prop:=
 Below w.heap.size w w'/\(z01 zs=true->e=.returned .nilIface)/\(z01 zs=false->∃ p:Addr,e=.returned (.iface 236 (.pointer (some p))))
theorem zaz (a:Option Addr) (cap:Nat) (zs:List Int) (w:World) (hb:Ins w a zs) (hn:zs.length<=281474976710656) (h4:Four w) :
  Calls Tryz.prog 160 #[.slice a zs.length cap] w (chk zs w):=by
 obtain ⟨T1,v1,e1⟩:=h4.g1;obtain ⟨T2,v2,e2⟩:=h4.g2;obtain ⟨T3,v3,e3⟩:=h4.g3;obtain ⟨T4,v4,e4⟩:=h4.g4;clear h4
 by_cases h:1<=zs.length/\zs.length<=80
 ·obtain ⟨h1,h2⟩:=h
  generalize hlen:zs.length=n at *;have HL:Hid (zs.length=n):=hlen;clear hlen
  go_enter Tryz.func160,Tryz.ntmps160
  go_wp2
  go_loop [3,4,22] (fun x y i=>∃ k:Nat,k<=n/\i=.int .i64 k/\x=.int .i64 (zm one (zs.take k))/\y=.int .i64 (zm z08 (zs.take k))/\∀ z ∈ zs.take k,0<=z/\z<=12) (fun _ _ i=>n-(intOf i).toNat)
  case atStart=>exact ⟨0,Nat.zero_le _,rfl,by simp [zm],by simp [zm],by simp⟩
  case round=>
   obtain ⟨k,hk,rfl,rfl,rfl,htk⟩:=hrel;have HT:Hid (∀ z ∈ zs.take k,0<=z/\z<=12):=htk;clear htk
   by_cases hlt:k<n
   ·obtain ⟨b1,o1,rfl,hb1,hc1⟩:=hb.len_pos k (by rw [HL.out];exact hlt)
    have hs1:=hc1 k (by rw [HL.out];exact hlt)
    have g1:=z2u hb.1 k;have hF:=z15 one 1 z1q (zs.take k);have hG:=z15 z08 4096 zam (zs.take k);have hF2:(zs.take k).length<=80:=by rw [List.length_take,HL.out];omega
    have HS:Hid (zm one (zs.take (k+1))=zm one (zs.take k)+one (zs.getD k 0)):=z1s one zs k (by rw [HL.out];exact hlt)
    have HS2:Hid (zm z08 (zs.take (k+1))=zm z08 (zs.take k)+z08 (zs.getD k 0)):=z1s z08 zs k (by rw [HL.out];exact hlt)
    clear hc1 hb;generalize hx:zs.getD k 0=x at *;have HX:Hid (zs.getD k 0=x):=hx;clear hx;generalize hFF:zm one (zs.take k)=F at *;generalize hGG:zm z08 (zs.take k)=G at *;have hFb:0<=F/\F<=80:=by omega
    have hGb:0<=G/\G<=327680:=by omega
    clear hF hG hF2 hFF hGG
    by_cases h3:0<=x
    ·by_cases h4:x<=12
     ·have HT':Hid (∀ z ∈ zs.take (k+1),0<=z/\z<=12):=z2z HT.out (by rw [HL.out];exact hlt) (by rw [HX.out];exact ⟨h3,h4⟩)
      by_cases h5:0<x
      ·have HP:Hid (one x=1):=by simp [Hid,one,h5]
       have hp:=z9s (12-x).toNat (by omega)
       have HWP:Hid (wrap64 (2 ^ (12-x).toNat)=2 ^ (12-x).toNat):=zn2 (12-x).toNat (by omega)
       have HQ:Hid (z08 x=2 ^ (12-x).toNat):=by simp [Hid,z08,h5]
       have HW:Hid (wrap64 (G+2 ^ (12-x).toNat)=G+2 ^ (12-x).toNat):=IntWalk.wrap64_in _ (by omega)
       clear hp;go_wp2;go_round
       case rel=>exact ⟨k+1,by omega,by go_num,by rw [HS.out,HP.out],by rw [HS2.out,HQ.out,HWP.out,HW.out],HT'.out⟩
       case measure=>simp [intOf];omega
      ·have HP:Hid (one x=0):=by simp [Hid,one,h5]
       have HQ:Hid (z08 x=0):=by simp [Hid,z08,h5]
       go_wp2
       go_round
       case rel=>exact ⟨k+1,by omega,by go_num,by rw [HS.out,HP.out];simp,by rw [HS2.out,HQ.out];simp,HT'.out⟩
       case measure=>simp [intOf];omega
     ·have HN:Hid (z01 zs=false):=zan (by rw [HL.out];exact hlt) (by rw [HX.out];omega)
      go_wp2
      try go_region
      all_goals try go_wp2
      all_goals go_ret
      all_goals exact ⟨by repeat (first | exact Below.refl _ _ | refine Below.drew ?_ | refine Below.alloc ?_ (by simp) _),fun h=>(by rw [HN.out] at h;cases h),fun _=>⟨_,rfl⟩⟩
    ·have HN:Hid (z01 zs=false):=zan (by rw [HL.out];exact hlt) (by rw [HX.out];omega)
     go_wp2
     try go_region
     all_goals try go_wp2
     all_goals go_ret
     all_goals exact ⟨by repeat (first | exact Below.refl _ _ | refine Below.drew ?_ | refine Below.alloc ?_ (by simp) _),fun h=>(by rw [HN.out] at h;cases h),fun _=>⟨_,rfl⟩⟩
   ·have hkn:k=n:=by omega
    subst hkn;have e:zs.take k=zs:=List.take_of_length_le (by rw [HL.out];exact Nat.le_refl _)
    have HE:Hid (z01 zs=decide (zm one zs=1/\zm z08 zs=2048\/1<zm one zs/\zm z08 zs=4096)):=zj8 (by rw [HL.out];exact h1) (by rw [HL.out];exact h2) (by rw [HL.out];exact HT.out)
    have hF:=z15 one 1 z1q zs;have hG:=z15 z08 4096 zam zs;rw [HL.out] at hF hG;rw [e];clear e HT;generalize zm one zs=F at *;generalize zm z08 zs=G at *
    by_cases c0:F=0
    ·subst c0
     have HN:Hid (z01 zs=false):=by rw [Hid,HE.out,decide_eq_false (by omega)]
     go_wp2
     try go_region
     all_goals try go_wp2
     all_goals go_ret
     all_goals exact ⟨by repeat (first | exact Below.refl _ _ | refine Below.drew ?_ | refine Below.alloc ?_ (by simp) _),fun h=>(by rw [HN.out] at h;cases h),fun _=>⟨_,rfl⟩⟩
    ·by_cases c1:F=1
     ·subst c1
      by_cases c2:G=2048
      ·subst c2
       have HN:Hid (z01 zs=true):=by rw [Hid,HE.out,decide_eq_true (by omega)]
       go_wp2
       go_ret;exact ⟨Below.refl _ _,fun _=>rfl,fun h=>(by rw [HN.out] at h;cases h)⟩
      ·have HN:Hid (z01 zs=false):=by rw [Hid,HE.out,decide_eq_false (by omega)]
       go_wp2
       try go_region
       all_goals try go_wp2
       all_goals go_ret
       all_goals exact ⟨by repeat (first | exact Below.refl _ _ | refine Below.drew ?_ | refine Below.alloc ?_ (by simp) _),fun h=>(by rw [HN.out] at h;cases h),fun _=>⟨_,rfl⟩⟩
     ·by_cases c2:G=4096
      ·subst c2
       have HN:Hid (z01 zs=true):=by rw [Hid,HE.out,decide_eq_true (by omega)]
       go_wp2
       go_ret;exact ⟨Below.refl _ _,fun _=>rfl,fun h=>(by rw [HN.out] at h;cases h)⟩
      ·have HN:Hid (z01 zs=false):=by rw [Hid,HE.out,decide_eq_false (by omega)]
       have c3:(G != 4096)=true:=by simp [c2]
       go_wp2
       try go_region
       all_goals try go_wp2
       all_goals go_ret
       all_goals exact ⟨by repeat (first | exact Below.refl _ _ | refine Below.drew ?_ | refine Below.alloc ?_ (by simp) _),fun h=>(by rw [HN.out] at h;cases h),fun _=>⟨_,rfl⟩⟩
 ·have HN:Hid (z01 zs=false):=zhx h
  by_cases c1:1<=zs.length
  ·have c2:80<zs.length:=by omega
   go_enter Tryz.func160,Tryz.ntmps160
   go_wp2
   try go_region
   all_goals try go_wp2
   all_goals go_ret
   all_goals exact ⟨by repeat (first | exact Below.refl _ _ | refine Below.drew ?_ | refine Below.alloc ?_ (by simp) _),fun h=>(by rw [HN.out] at h;cases h),fun _=>⟨_,rfl⟩⟩
  ·go_enter Tryz.func160,Tryz.ntmps160
   go_wp2
   try go_region
   all_goals try go_wp2
   all_goals go_ret
   all_goals exact ⟨by repeat (first | exact Below.refl _ _ | refine Below.drew ?_ | refine Below.alloc ?_ (by simp) _),fun h=>(by rw [HN.out] at h;cases h),fun _=>⟨_,rfl⟩⟩
open Go.Extern.Stop Go.Stop Go.Extern
abbrev zo3 (t:Nat):Value:=.pointer (some ⟨21,t,none⟩)
abbrev zq3 (a:Addr) (fl:Int):Value:=.agg #[zo3 236,.pointer (some a),.int .u64 fl]
abbrev zq1 (t:Nat):Value:=.iface 226 (.agg #[zo3 t])
end Go.Proofs.YtfeokafkhnbdiaaGreatDoor
namespace Go.Proofs.YtfeokafkhnbdiaaGreatDoor
open Go.RowKit
set_option linter.unusedVariables false
def zop (cs ls:List Int):Nat->Int
 | 0=>0
 | k+1=>zop cs ls k+cs.getD k 0*ls.getD k 0
def znd (cs ls:List Int):Prop:=z0j cs=true/\z01 ls=true/\ls.length=cs.length/\∀ i,i<cs.length->¬(0<cs.getD i 0/\ls.getD i 0=0)
noncomputable def costB (cs ls:List Int):Bool:=@decide (znd cs ls) (Classical.propDecidable _)
noncomputable def costN (cs ls:List Int):Int:=if costB cs ls=true then zop cs ls cs.length else 0
set_option linter.unusedSimpArgs false
theorem z97 (f:Int->Nat) (hf:f 0=0) {zs ls:List Int} (hl:ls.length=zs.length) (hno:∀ s,¬0<zs.getD s 0->ls.getD s 0=0):∀ k,k<=ls.length->zm (fun z=>(f z:Int)) (ls.take k)=((tot (fun p=>f (ls.getD p.plc 0)) (zd zs k):Nat):Int)
 | 0,_=>by simp [zm,zd,tot]
 | k+1,h=>by
  rw [z1s _ _ _ (by omega),z97 f hf hl hno k (by omega)]
  simp only [zd]
  split
  ·rw [z3a]
   simp [tot,Pc.plc]
  ·rename_i hz
   rw [hno k hz,hf]
   simp
theorem zae (f:Int->Nat) (hf:f 0=0) {zs ls:List Int} {L:Nat} {lm:Nat->Nat} (h:LF zs ls L lm):zm (fun z=>(f z:Int)) ls=((zk (fun k=>f (lm k)) (z4 zs).length:Nat):Int):=by
 have:=z97 f hf h.len h.no ls.length nl;rw [List.take_length,h.len,zc7 _ (z0m zs zs.length).symm] at this;rw [this]
 show ((tot _ (z4 zs):Nat):Int)=_
 have e:=z26 (fun p=>f (ls.getD p.plc 0)) dpc (z4 zs) (z4 zs).length nl
 rw [List.take_length] at e;rw [e]
 congr 1
 refine z05 fun k hk=>?_
 rw [List.getD_eq_getElem?_getD (i:=k),List.getElem?_eq_getElem hk]
 simp only [Option.getD_some]
 rw [h.at_ k hk]
theorem LF.rng {zs ls:List Int} {L:Nat} {lm:Nat->Nat} (h:LF zs ls L lm) (s:Nat) (hs:s<zs.length):(0<zs.getD s 0->∃ k,∃ hk:k<(z4 zs).length,(z4 zs)[k]=.coin s (zs.getD s 0).toNat/\ls.getD s 0=(lm k:Nat)/\1<=lm k/\lm k<=L)/\(¬0<zs.getD s 0->ls.getD s 0=0):=by
 refine ⟨fun hz=>?_,h.no s⟩
 obtain ⟨k,hk,e⟩:=zfo zs s hs hz;have:=h.at_ k hk;rw [e] at this;exact ⟨k,hk,e,this,h.pos k hk,h.le k⟩
theorem zm1 :one=fun z=>(((if 0<z then 1 else 0:Nat)):Int):=by
 funext z;unfold one;split <;> rfl
theorem LF.okB {zs ls:List Int} {L:Nat} {lm:Nat->Nat} (h:LF zs ls L lm) (hc:z0j zs=true) (hL:L<=12) (h1:1<=(z4 zs).length):z01 ls=true:=by
 simp only [z0j,decide_eq_true_eq] at hc
 obtain ⟨hl1,hl2,hz⟩:=hc
 simp only [z01,decide_eq_true_eq]
 have hr:∀ z ∈ ls,0<=z/\z<=12:=fun z hz'=>by
  obtain ⟨s,hs,rfl⟩:=List.getElem_of_mem hz';have e:ls[s]=ls.getD s 0:=by simp [List.getD_eq_getElem?_getD,List.getElem?_eq_getElem hs]
  rw [e];obtain ⟨a1,a2⟩:=h.rng s (by rw [<-h.len];exact hs)
  by_cases hp:0<zs.getD s 0
  ·obtain ⟨k,_,_,e2,e3,e4⟩:=a1 hp
   omega
  ·have:=a2 hp
   omega
 have ho:zm one ls=((z4 zs).length:Nat):=by
  rw [zm1,zae (fun z=>if 0<z then 1 else 0) (by simp) h]
  congr 1
  rw [z05 (h:=fun _=>1) (fun k hk=>by have:=h.pos k hk;simp;omega),z16]
  omega
 have hs:zm z08 ls=((zk (fun k=>2 ^ (12-lm k)) (z4 zs).length:Nat):Int):=by
  have e:z08=fun z=>(((if 0<z then 2 ^ (12-z).toNat else 0:Nat)):Int):=by
   funext z;unfold z08;split
   ·simp
   ·rfl
  rw [e,zae (fun z=>if 0<z then 2 ^ (12-z).toNat else 0) (by simp) h]
  congr 1
  refine z05 fun k hk=>?_
  have p1:=h.pos k hk;have p2:=h.le k;rw [if_pos (by omega)]
  congr 1
  omega
 refine ⟨by rw [h.len];exact hl1,by rw [h.len];exact hl2,hr,?_⟩
 by_cases hn:(z4 zs).length=1
 ·left
  rw [ho,hs,hn]
  simp only [zk]
  rw [h.sole hn]
  decide
 ·right
  refine ⟨by rw [ho];omega,?_⟩
  rw [hs];have e:zk (fun k=>2 ^ (12-lm k)) (z4 zs).length=2 ^ (12-L)*zk (fun k=>2 ^ (L-lm k)) (z4 zs).length:=by
   rw [<-z7f];refine z05 fun k hk=>?_
   rw [<-Nat.pow_add]
   congr 1
   have:=h.le k
   omega
  rw [e,h.full (by omega),<-Nat.pow_add,show 12-L+L=12 by omega]
  decide
theorem z4o :∀ (a b:List Pc) (c p:Nat),WS a->WS b->c<=a.length->p<=b.length->tot Pc.wt ((mrg a b).take (c+p))<=tot Pc.wt (a.take c)+tot Pc.wt (b.take p)
 | [],b,c,p,_,_,hc,hp=>by
  obtain rfl:c=0:=by simpa using hc
  rw [mrg]
  simp [tot]
 | a :: ar,[],c,p,_,_,hc,hp=>by
  obtain rfl:p=0:=by simpa using hp
  rw [mrg]
  simp [tot]
 | a :: ar,b :: br,c,p,ha,hb,hc,hp=>by
  obtain ⟨a1,a2⟩:=List.pairwise_cons.1 ha;obtain ⟨b1,b2⟩:=List.pairwise_cons.1 hb;rw [mrg]
  split
  ·rename_i hw
   cases c with
   | succ c=>
    rw [show c+1+p=c+p+1 by omega,List.take_succ_cons,List.take_succ_cons,z14,z14]
    have:=z4o ar (b :: br) c p a2 hb (by simpa using hc) hp
    omega
   | zero=>
    cases p with
    | zero=>simp [tot]
    | succ p=>
     rw [show 0+(p+1)=0+p+1 by omega,List.take_succ_cons,z14]
     have:=z4o ar (b :: br) 0 p a2 hb (by omega) (by simp at hp ⊢;omega)
     have e:=List.take_succ_eq_append_getElem (l:=b :: br) (i:=p) (by omega)
     rw [e,z3a];have hx:a.wt<=((b :: br)[p]).wt:=by
      rcases List.mem_cons.1 (List.getElem_mem (l:=b :: br) (n:=p) (by omega)) with h | h
      ·rw [h];exact hw
      ·have:=b1 _ h;omega
     have e2:tot Pc.wt [(b :: br)[p]]=((b :: br)[p]).wt:=by simp [tot]
     rw [e2]
     simp only [List.take_zero,tot,List.map_nil,List.sum_nil,Nat.add_zero,Nat.zero_add] at this ⊢
     omega
  ·rename_i hw
   cases p with
   | succ p=>
    rw [show c+(p+1)=c+p+1 by omega,List.take_succ_cons,List.take_succ_cons,z14,z14]
    have:=z4o (a :: ar) br c p ha b2 hc (by simpa using hp)
    omega
   | zero=>
    cases c with
    | zero=>simp [tot]
    | succ c=>
     rw [show c+1+0=c+0+1 by omega,List.take_succ_cons,z14]
     have:=z4o (a :: ar) br c 0 ha b2 (by simp at hc ⊢;omega) (by omega)
     have e:=List.take_succ_eq_append_getElem (l:=a :: ar) (i:=c) (by omega)
     rw [e,z3a];have hx:b.wt<=((a :: ar)[c]).wt:=by
      rcases List.mem_cons.1 (List.getElem_mem (l:=a :: ar) (n:=c) (by omega)) with h | h
      ·rw [h];omega
      ·have:=a1 _ h;omega
     have e2:tot Pc.wt [(a :: ar)[c]]=((a :: ar)[c]).wt:=by simp [tot]
     rw [e2]
     simp only [List.take_zero,tot,List.map_nil,List.sum_nil,Nat.add_zero,Nat.zero_add] at this ⊢
     omega
termination_by a b=>a.length+b.length
theorem znm (w:Nat->Nat) {c d:Nat} (h:c<=d):zk w c<=zk w d:=by
 induction d with
 | zero => obtain rfl : c = 0 := by omega
           exact Nat.le_refl _
 | succ d ih=>
  by_cases e:c=d+1
  ·subst e;exact Nat.le_refl _
  ·have:=ih (by omega)
   simp only [zk]
   omega
theorem zlv {S:List Pc} (hS:WS S) (hW:∀ r,WS (zf (rnd S r) ((rnd S r).length / 2))):∀ (ts:List Nat) (k:Nat),(∀ a ∈ ts,a<=S.length)->k*2 ^ ts.length<=2*pmv ts->k<=(rnd S ts.length).length/\tot Pc.wt ((rnd S ts.length).take k)<=(ts.map (fun a=>tot Pc.wt (S.take a))).sum
 | [],k,_,h=>by
  simp [pmv] at h
  subst h
  simp [rnd,tot]
 | a :: ts,k,ha,h=>by
  have haS:=ha a (by simp)
  have h2:(2*(k-min a k))*2 ^ ts.length<=2*pmv ts:=by
   simp only [pmv,List.length_cons,Nat.pow_succ] at h
   generalize 2 ^ ts.length=z at *
   by_cases hka:k<=a
   ·rw [show k-min a k=0 by omega];simp
   ·obtain ⟨p,hp⟩:∃ p,k=p+a:=⟨k-a,by omega⟩
    rw [show k-min a k=p by omega]
    rw [hp,Nat.mul_comm z 2,<-Nat.mul_assoc,Nat.add_mul,Nat.add_mul,Nat.mul_comm p 2,Nat.mul_comm a 2,Nat.mul_assoc 2 a z] at h
    omega
  obtain ⟨i1,i2⟩:=zlv hS hW ts (2*(k-min a k)) (fun d hd=>ha d (by simp [hd])) h2
  have hlen:(rnd S (ts.length+1)).length=S.length+(rnd S ts.length).length / 2:=by
   show (mrg _ _).length=_
   rw [(z0q _ _).length_eq,List.length_append,zt]
  refine ⟨by simp only [List.length_cons];rw [hlen];omega,?_⟩
  simp only [List.length_cons,List.map_cons,List.sum_cons]
  have hm:=z4o S (zf (rnd S ts.length) ((rnd S ts.length).length / 2)) (min a k) (k-min a k) hS (hW _) (by omega) (by rw [zt];omega)
  rw [z5b _ _ _ (by omega),z7q zi3 _ _ (by omega),show min a k+(k-min a k)=k by omega] at hm
  have hP:tot Pc.wt (S.take (min a k))<=tot Pc.wt (S.take a):=by
   rw [z26 _ dpc S _ (by omega),z26 _ dpc S _ haS]
   exact znm _ (by omega)
  show tot Pc.wt ((mrg _ _).take k)<=_
  omega
def cnt (q:Nat->Bool) (n:Nat):Nat:=zk (fun k=>if q k=true then 1 else 0) n
theorem zd8 (q:Nat->Bool):∀ n,cnt q n<=n
 | 0=>Nat.le_refl _
 | n+1=>by
  have:=zd8 q n;unfold cnt at this ⊢
  simp only [zk]
  split <;> omega
theorem zfa (w:Nat->Nat) (q:Nat->Bool):∀ n,(∀ i j,i<=j->j<n->w i<=w j)->zk w (cnt q n)<=zk (fun k=>if q k=true then w k else 0) n
 | 0,_=>Nat.le_refl _
 | n+1,h=>by
  have ih:=zfa w q n (fun i j h1 h2=>h i j h1 (by omega))
  have hc:=zd8 q n;unfold cnt at ih hc ⊢
  simp only [zk]
  by_cases hq:q n=true
  ·simp only [hq,if_true]
   simp only [zk]
   have:=h _ n hc (by omega)
   omega
  ·simp only [hq,if_false]
   simpa using ih
def al (n L:Nat) (lm:Nat->Nat):Nat->List Nat
 | 0=>[]
 | r+1=>cnt (fun k=>decide (L-r<=lm k)) n :: al n L lm r
theorem z8j (n L:Nat) (lm:Nat->Nat):∀ r,(al n L lm r).length=r
 | 0=>rfl
 | r+1=>by simp [al,z8j n L lm r]
theorem zfs (n L:Nat) (lm:Nat->Nat):∀ r,∀ a ∈ al n L lm r,a<=n
 | 0,a,h=>by simp [al] at h
 | r+1,a,h=>by
  rcases List.mem_cons.1 h with rfl | h
  ·exact zd8 _ _
  ·exact zfs n L lm r a h
theorem zh8 (n L:Nat) (lm:Nat->Nat) (hm:∀ k,k<n->lm k<=L):∀ r,r<=L->zk (fun k=>2 ^ (min r (L-lm k))) n+pmv (al n L lm r)=n*2 ^ r
 | 0,_=>by
  simp only [Nat.zero_min,Nat.pow_zero,al,pmv]
  rw [z16]
  omega
 | r+1,hr=>by
  have ih:=zh8 n L lm hm r (by omega)
  simp only [al,pmv]
  rw [z8j];have e:zk (fun k=>2 ^ (min (r+1) (L-lm k))) n+zk (fun k=>(if decide (L-r<=lm k)=true then 1 else 0)*2 ^ r) n=zk (fun k=>2 ^ (min r (L-lm k))) n+zk (fun _=>2 ^ r) n:=by
   rw [<-z1p,<-z1p];refine z05 fun k hk=>?_
   have hmk:=hm k hk
   by_cases h:L-r<=lm k
   ·simp only [h,decide_true,if_true]
    rw [show min (r+1) (L-lm k)=min r (L-lm k) by omega]
    omega
   ·simp only [h,decide_false]
    rw [show min (r+1) (L-lm k)=r+1 by omega,show min r (L-lm k)=r by omega,Nat.pow_succ]
    simp
    omega
  have e2:zk (fun k=>(if decide (L-r<=lm k)=true then 1 else 0)*2 ^ r) n=cnt (fun k=>decide (L-r<=lm k)) n*2 ^ r:=by
   unfold cnt;rw [Nat.mul_comm,<-z7f];exact z05 fun k _=>Nat.mul_comm _ _
  rw [e2,z16] at e;rw [Nat.pow_succ,Nat.mul_comm _ 2,Nat.mul_left_comm,Nat.two_mul];generalize 2 ^ r=z at *
  omega
theorem zlz (n L:Nat) (lm w:Nat->Nat) (hw:∀ i j,i<=j->j<n->w i<=w j) (hm:∀ k,k<n->lm k<=L):∀ r,r<=L->((al n L lm r).map (fun a=>zk w a)).sum<=zk (fun k=>w k*(lm k-(L-r))) n
 | 0,_=>by simp [al]
 | r+1,hr=>by
  have ih:=zlz n L lm w hw hm r (by omega)
  have hc:=zfa w (fun k=>decide (L-r<=lm k)) n hw
  simp only [al,List.map_cons,List.sum_cons]
  have e:zk (fun k=>w k*(lm k-(L-(r+1)))) n=zk (fun k=>if decide (L-r<=lm k)=true then w k else 0) n+zk (fun k=>w k*(lm k-(L-r))) n:=by
   rw [<-z1p];refine z05 fun k hk=>?_
   by_cases h:L-r<=lm k
   ·simp only [h,decide_true,if_true]
    rw [show lm k-(L-(r+1))=lm k-(L-r)+1 by omega,Nat.mul_add]
    omega
   ·simp only [h,decide_false]
    rw [show lm k-(L-(r+1))=0 by omega,show lm k-(L-r)=0 by omega]
    simp
  rw [e];exact Nat.add_le_add hc ih
theorem best {S:List Pc} (hS:WS S) (hW:∀ r,WS (zf (rnd S r) ((rnd S r).length / 2))) {L:Nat} (lm:Nat->Nat) (hn:1<=S.length) (h1:∀ k,k<S.length->lm k<=L) (hK:zk (fun k=>2 ^ (L-lm k)) S.length<=2 ^ L):tot Pc.wt ((rnd S L).take (2*S.length-2))<=zk (fun k=>(S.getD k dpc).wt*lm k) S.length:=by
 have hv:=zh8 S.length L lm h1 L nl;have e:zk (fun k=>2 ^ (min L (L-lm k))) S.length=zk (fun k=>2 ^ (L-lm k)) S.length:=z05 fun k hk=>by rw [show min L (L-lm k)=L-lm k by omega]
 rw [e] at hv;have hl:=zlv hS hW (al S.length L lm L) (2*S.length-2) (zfs _ _ _ _) (by
  rw [z8j];obtain ⟨m,hm⟩:∃ m,S.length=m+1:=⟨S.length-1,by omega⟩
  rw [hm] at hv hK ⊢;generalize zk (fun k=>2 ^ (L-lm k)) (m+1)=q at *
  generalize pmv (al (m+1) L lm L)=v at *;generalize 2 ^ L=z at *;rw [show 2*(m+1)-2=2*m by omega,Nat.mul_assoc]
  rw [Nat.add_mul,Nat.one_mul] at hv
  omega)
 rw [z8j] at hl;have hmon:∀ i j,i<=j->j<S.length->(S.getD i dpc).wt<=(S.getD j dpc).wt:=fun i j hij hj=>by
  by_cases e:i=j
  ·subst e;exact Nat.le_refl _
  ·have:=List.pairwise_iff_getElem.1 hS i j (by omega) hj (by omega)
   rw [List.getD_eq_getElem?_getD,List.getElem?_eq_getElem (by omega),List.getD_eq_getElem?_getD,List.getElem?_eq_getElem hj]
   exact this
 have ha:=zlz S.length L lm (fun k=>(S.getD k dpc).wt) hmon h1 L nl
 have e2:((al S.length L lm L).map (fun a=>tot Pc.wt (S.take a)))=(al S.length L lm L).map (fun a=>zk (fun k=>(S.getD k dpc).wt) a):=List.map_congr_left fun a h=>z26 _ dpc S a (zfs _ _ _ _ a h)
 have e3:zk (fun k=>(S.getD k dpc).wt*(lm k-(L-L))) S.length=zk (fun k=>(S.getD k dpc).wt*lm k) S.length:=z05 fun k _=>by rw [Nat.sub_self,Nat.sub_zero]
 rw [e2] at hl;rw [e3] at ha;exact Nat.le_trans hl.2 ha
end Go.Proofs.YtfeokafkhnbdiaaGreatDoor
