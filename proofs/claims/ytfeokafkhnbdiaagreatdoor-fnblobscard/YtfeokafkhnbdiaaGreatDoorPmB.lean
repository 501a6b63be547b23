/- Lemmas on the way. -/
import Derived.Test.YtfeokafkhnbdiaaGreatDoorPcB
import Derived.LaidEql
import Derived.Stop.Asserts
import Derived.RowKitTokens
import Derived.Test.YtfeokafkhnbdiaaGreatDoorPmA
set_option maxRecDepth 20000
set_option maxHeartbeats 16000000
namespace Go.Proofs.YtfeokafkhnbdiaaGreatDoor
open Go.RowKit
set_option linter.unusedVariables false
def sumF (f:Int→Int) (zs:List Int):Int:=(zs.map f).sum
theorem sumF_succ (f:Int→Int) (zs:List Int) (k:Nat) (h:k<zs.length):sumF f (zs.take (k+1))=sumF f (zs.take k)+f (zs.getD k 0):=by
 unfold sumF
 rw [List.take_succ_eq_append_getElem h,List.map_append,List.sum_append]
 simp [List.getD_eq_getElem?_getD,List.getElem?_eq_getElem h]
theorem sumF_bnd (f:Int→Int) (m:Int) (hf:∀ z,0≤f z∧f z≤m) (zs:List Int):0≤sumF f zs∧sumF f zs≤m*zs.length:=by
 unfold sumF
 induction zs with
 | nil=>simp
 | cons z zs ih=>
  have:=hf z
  simp only [List.map_cons,List.sum_cons,List.length_cons]
  rw [show m*((zs.length+1:Nat):Int)=m*zs.length+m from by rw [Int.natCast_add,Int.mul_add];simp]
  omega
def one (z:Int):Int:=if 0<z then 1 else 0
theorem one_bnd (z:Int):0≤one z∧one z≤1:=by unfold one;split <;> omega
def share (z:Int):Int:=if 0<z then 2 ^ (12-z).toNat else 0
theorem pow_bnd (n:Nat) (h:n≤12):(1:Int)≤2 ^ n∧(2:Int) ^ n≤4096:=by
 have h1:1≤2 ^ n:=Nat.pow_pos (by omega)
 have h2:2 ^ n≤2 ^ 12:=Nat.pow_le_pow_right (by omega) h
 have e:((2:Int) ^ n)=((2 ^ n:Nat):Int):=by simp
 rw [e]
 omega
theorem share_bnd (z:Int):0≤share z∧share z≤4096:=by
 unfold share
 split
 ·have:=pow_bnd (12-z).toNat (by omega);omega
 ·omega
theorem wrapPow (n:Nat) (h:n≤12):wrap64 (2 ^ n)=2 ^ n:=by
 have:=pow_bnd n h
 generalize (2:Int) ^ n=y at *
 exact IntWalk.wrap64_in _ (by omega)
def lensB (zs:List Int):Bool:=decide (1≤zs.length∧zs.length≤80∧(∀ z ∈ zs,0≤z∧z≤12)∧(sumF one zs=1∧sumF share zs=2048∨1<sumF one zs∧sumF share zs=4096))
theorem lensB_bad {zs:List Int} {k:Nat} (hk:k<zs.length) (h:¬(0≤zs.getD k 0∧zs.getD k 0≤12)):lensB zs=false:=by
 simp only [lensB,decide_eq_false_iff_not]
 exact fun h'=>h (h'.2.2.1 _ (getD_mem hk))
theorem lensB_len {zs:List Int} (h:¬(1≤zs.length∧zs.length≤80)):lensB zs=false:=by
 simp only [lensB,decide_eq_false_iff_not]
 exact fun h'=>h ⟨h'.1,h'.2.1⟩
theorem lensB_all {zs:List Int} (h1:1≤zs.length) (h2:zs.length≤80) (h:∀ z ∈ zs.take zs.length,0≤z∧z≤12):lensB zs=decide (sumF one zs=1∧sumF share zs=2048∨1<sumF one zs∧sumF share zs=4096):=by
 rw [List.take_length] at h
 simp only [lensB]
 apply decide_eq_decide.2
 exact ⟨fun h'=>h'.2.2.2,fun h'=>⟨h1,h2,h,h'⟩⟩
structure Four (w:World):Prop where
 g1:∃ T x,w.cell? ⟨17,0,none⟩=some (.iface T x)
 g2:∃ T x,w.cell? ⟨18,0,none⟩=some (.iface T x)
 g3:∃ T x,w.cell? ⟨8,0,none⟩=some (.iface T x)
 g4:∃ T x,w.cell? ⟨19,0,none⟩=some (.iface T x)
theorem someCell {w w':World} {g:Nat} (h:∃ T x,w.cell? ⟨g,0,none⟩=some (.iface T x)) (hb:Below w.heap.size w w'):∃ T x,w'.cell? ⟨g,0,none⟩=some (.iface T x):=by
 obtain ⟨T,x,h⟩:=h
 exact ⟨T,x,keep hb (World.block_lt_of_cell? _ _ h) h⟩
theorem Four.below {w w':World} (h:Four w) (hb:Below w.heap.size w w'):Four w':=⟨someCell h.g1 hb,someCell h.g2 hb,someCell h.g3 hb,someCell h.g4 hb⟩
def chk (zs:List Int) (w:World) (e:Ending) (w':World):Prop:=
 Below w.heap.size w w'∧(lensB zs=true→e=.returned .nilIface)∧(lensB zs=false→∃ p:Addr,e=.returned (.iface 236 (.pointer (some p))))
theorem checkLens_any (a:Option Addr) (cap:Nat) (zs:List Int) (w:World) (hb:Ins w a zs) (hn:zs.length≤281474976710656) (h4:Four w) :
  Calls Tryz.prog 160 #[.slice a zs.length cap] w (chk zs w):=by
 obtain ⟨T1,v1,e1⟩:=h4.g1
 obtain ⟨T2,v2,e2⟩:=h4.g2
 obtain ⟨T3,v3,e3⟩:=h4.g3
 obtain ⟨T4,v4,e4⟩:=h4.g4
 clear h4
 by_cases h:1≤zs.length∧zs.length≤80
 ·obtain ⟨h1,h2⟩:=h
  generalize hlen:zs.length=n at *
  have HL:Hid (zs.length=n):=hlen
  clear hlen
  go_enter Tryz.func160,Tryz.ntmps160
  go_wp2
  go_loop [3,4,22] (fun x y i=>∃ k:Nat,k≤n∧i=.int .i64 k∧x=.int .i64 (sumF one (zs.take k))∧y=.int .i64 (sumF share (zs.take k))∧∀ z ∈ zs.take k,0≤z∧z≤12) (fun _ _ i=>n-(intOf i).toNat)
  case atStart=>exact ⟨0,Nat.zero_le _,rfl,by simp [sumF],by simp [sumF],by simp⟩
  case round=>
   obtain ⟨k,hk,rfl,rfl,rfl,htk⟩:=hrel
   have HT:Hid (∀ z ∈ zs.take k,0≤z∧z≤12):=htk
   clear htk
   by_cases hlt:k<n
   ·obtain ⟨b1,o1,rfl,hb1,hc1⟩:=hb.len_pos k (by rw [HL.out];exact hlt)
    have hs1:=hc1 k (by rw [HL.out];exact hlt)
    have g1:=getD_rngI hb.1 k
    have hF:=sumF_bnd one 1 one_bnd (zs.take k)
    have hG:=sumF_bnd share 4096 share_bnd (zs.take k)
    have hF2:(zs.take k).length≤80:=by rw [List.length_take,HL.out];omega
    have HS:Hid (sumF one (zs.take (k+1))=sumF one (zs.take k)+one (zs.getD k 0)):=sumF_succ one zs k (by rw [HL.out];exact hlt)
    have HS2:Hid (sumF share (zs.take (k+1))=sumF share (zs.take k)+share (zs.getD k 0)):=sumF_succ share zs k (by rw [HL.out];exact hlt)
    clear hc1 hb
    generalize hx:zs.getD k 0=x at *
    have HX:Hid (zs.getD k 0=x):=hx
    clear hx
    generalize hFF:sumF one (zs.take k)=F at *
    generalize hGG:sumF share (zs.take k)=G at *
    have hFb:0≤F∧F≤80:=by omega
    have hGb:0≤G∧G≤327680:=by omega
    clear hF hG hF2 hFF hGG
    by_cases h3:0≤x
    ·by_cases h4:x≤12
     ·have HT':Hid (∀ z ∈ zs.take (k+1),0≤z∧z≤12):=all_take_succ HT.out (by rw [HL.out];exact hlt) (by rw [HX.out];exact ⟨h3,h4⟩)
      by_cases h5:0<x
      ·have HP:Hid (one x=1):=by simp [Hid,one,h5]
       have hp:=pow_bnd (12-x).toNat (by omega)
       have HWP:Hid (wrap64 (2 ^ (12-x).toNat)=2 ^ (12-x).toNat):=wrapPow (12-x).toNat (by omega)
       have HQ:Hid (share x=2 ^ (12-x).toNat):=by simp [Hid,share,h5]
       have HW:Hid (wrap64 (G+2 ^ (12-x).toNat)=G+2 ^ (12-x).toNat):=IntWalk.wrap64_in _ (by omega)
       clear hp
       go_wp2
       go_round
       case rel=>exact ⟨k+1,by omega,by go_num,by rw [HS.out,HP.out],by rw [HS2.out,HQ.out,HWP.out,HW.out],HT'.out⟩
       case measure=>simp [intOf];omega
      ·have HP:Hid (one x=0):=by simp [Hid,one,h5]
       have HQ:Hid (share x=0):=by simp [Hid,share,h5]
       go_wp2
       go_round
       case rel=>exact ⟨k+1,by omega,by go_num,by rw [HS.out,HP.out];simp,by rw [HS2.out,HQ.out];simp,HT'.out⟩
       case measure=>simp [intOf];omega
     ·have HN:Hid (lensB zs=false):=lensB_bad (by rw [HL.out];exact hlt) (by rw [HX.out];omega)
      go_wp2
      try go_region
      all_goals try go_wp2
      all_goals go_ret
      all_goals exact ⟨by repeat (first | exact Below.refl _ _ | refine Below.drew ?_ | refine Below.alloc ?_ (by simp) _),fun h=>(by rw [HN.out] at h;cases h),fun _=>⟨_,rfl⟩⟩
    ·have HN:Hid (lensB zs=false):=lensB_bad (by rw [HL.out];exact hlt) (by rw [HX.out];omega)
     go_wp2
     try go_region
     all_goals try go_wp2
     all_goals go_ret
     all_goals exact ⟨by repeat (first | exact Below.refl _ _ | refine Below.drew ?_ | refine Below.alloc ?_ (by simp) _),fun h=>(by rw [HN.out] at h;cases h),fun _=>⟨_,rfl⟩⟩
   ·have hkn:k=n:=by omega
    subst hkn
    have e:zs.take k=zs:=List.take_of_length_le (by rw [HL.out];exact Nat.le_refl _)
    have HE:Hid (lensB zs=decide (sumF one zs=1∧sumF share zs=2048∨1<sumF one zs∧sumF share zs=4096)):=lensB_all (by rw [HL.out];exact h1) (by rw [HL.out];exact h2) (by rw [HL.out];exact HT.out)
    have hF:=sumF_bnd one 1 one_bnd zs
    have hG:=sumF_bnd share 4096 share_bnd zs
    rw [HL.out] at hF hG
    rw [e]
    clear e HT
    generalize sumF one zs=F at *
    generalize sumF share zs=G at *
    by_cases c0:F=0
    ·subst c0
     have HN:Hid (lensB zs=false):=by rw [Hid,HE.out,decide_eq_false (by omega)]
     go_wp2
     try go_region
     all_goals try go_wp2
     all_goals go_ret
     all_goals exact ⟨by repeat (first | exact Below.refl _ _ | refine Below.drew ?_ | refine Below.alloc ?_ (by simp) _),fun h=>(by rw [HN.out] at h;cases h),fun _=>⟨_,rfl⟩⟩
    ·by_cases c1:F=1
     ·subst c1
      by_cases c2:G=2048
      ·subst c2
       have HN:Hid (lensB zs=true):=by rw [Hid,HE.out,decide_eq_true (by omega)]
       go_wp2
       go_ret
       exact ⟨Below.refl _ _,fun _=>rfl,fun h=>(by rw [HN.out] at h;cases h)⟩
      ·have HN:Hid (lensB zs=false):=by rw [Hid,HE.out,decide_eq_false (by omega)]
       go_wp2
       try go_region
       all_goals try go_wp2
       all_goals go_ret
       all_goals exact ⟨by repeat (first | exact Below.refl _ _ | refine Below.drew ?_ | refine Below.alloc ?_ (by simp) _),fun h=>(by rw [HN.out] at h;cases h),fun _=>⟨_,rfl⟩⟩
     ·by_cases c2:G=4096
      ·subst c2
       have HN:Hid (lensB zs=true):=by rw [Hid,HE.out,decide_eq_true (by omega)]
       go_wp2
       go_ret
       exact ⟨Below.refl _ _,fun _=>rfl,fun h=>(by rw [HN.out] at h;cases h)⟩
      ·have HN:Hid (lensB zs=false):=by rw [Hid,HE.out,decide_eq_false (by omega)]
       have c3:(G != 4096)=true:=by simp [c2]
       go_wp2
       try go_region
       all_goals try go_wp2
       all_goals go_ret
       all_goals exact ⟨by repeat (first | exact Below.refl _ _ | refine Below.drew ?_ | refine Below.alloc ?_ (by simp) _),fun h=>(by rw [HN.out] at h;cases h),fun _=>⟨_,rfl⟩⟩
 ·have HN:Hid (lensB zs=false):=lensB_len h
  by_cases c1:1≤zs.length
  ·have c2:80<zs.length:=by omega
   go_enter Tryz.func160,Tryz.ntmps160
   go_wp2
   try go_region
   all_goals try go_wp2
   all_goals go_ret
   all_goals exact ⟨by repeat (first | exact Below.refl _ _ | refine Below.drew ?_ | refine Below.alloc ?_ (by simp) _),fun h=>(by rw [HN.out] at h;cases h),fun _=>⟨_,rfl⟩⟩
  ·go_enter Tryz.func160,Tryz.ntmps160
   go_wp2
   try go_region
   all_goals try go_wp2
   all_goals go_ret
   all_goals exact ⟨by repeat (first | exact Below.refl _ _ | refine Below.drew ?_ | refine Below.alloc ?_ (by simp) _),fun h=>(by rw [HN.out] at h;cases h),fun _=>⟨_,rfl⟩⟩
end Go.Proofs.YtfeokafkhnbdiaaGreatDoor
namespace Go.Proofs.YtfeokafkhnbdiaaGreatDoor
open Go.RowKit Go.Extern.Stop Go.Stop Go.Extern
set_option linter.unusedVariables false
abbrev hand (t:Nat):Value:=.pointer (some ⟨21,t,none⟩)
abbrev valE (a:Addr) (fl:Int):Value:=.agg #[hand 236,.pointer (some a),.int .u64 fl]
abbrev rtyp (t:Nat):Value:=.iface 226 (.agg #[hand t])
end Go.Proofs.YtfeokafkhnbdiaaGreatDoor
namespace Go.Proofs.YtfeokafkhnbdiaaGreatDoor
open Go.RowKit
set_option linter.unusedVariables false
def pays (cs ls:List Int):Nat→Int
 | 0=>0
 | k+1=>pays cs ls k+cs.getD k 0*ls.getD k 0
def costYes (cs ls:List Int):Prop:=cntB cs=true∧lensB ls=true∧ls.length=cs.length∧∀ i,i<cs.length→¬(0<cs.getD i 0∧ls.getD i 0=0)
noncomputable def costB (cs ls:List Int):Bool:=@decide (costYes cs ls) (Classical.propDecidable _)
noncomputable def costN (cs ls:List Int):Int:=if costB cs ls=true then pays cs ls cs.length else 0
set_option linter.unusedSimpArgs false
theorem sumF_coins (f:Int→Nat) (hf:f 0=0) {zs ls:List Int} (hl:ls.length=zs.length) (hno:∀ s,¬0<zs.getD s 0→ls.getD s 0=0):∀ k,k≤ls.length→sumF (fun z=>(f z:Int)) (ls.take k)=((tot (fun p=>f (ls.getD p.plc 0)) (coinsL zs k):Nat):Int)
 | 0,_=>by simp [sumF,coinsL,tot]
 | k+1,h=>by
  rw [sumF_succ _ _ _ (by omega),sumF_coins f hf hl hno k (by omega)]
  simp only [coinsL]
  split
  ·rw [tot_app]
   simp [tot,Pc.plc]
  ·rename_i hz
   rw [hno k hz,hf]
   simp
theorem sumF_rank (f:Int→Nat) (hf:f 0=0) {zs ls:List Int} {L:Nat} {lm:Nat→Nat} (h:LF zs ls L lm):sumF (fun z=>(f z:Int)) ls=((sumN (fun k=>f (lm k)) (coinsS zs).length:Nat):Int):=by
 have:=sumF_coins f hf h.len h.no ls.length nl
 rw [List.take_length,h.len,tot_perm _ (srt_perm zs zs.length).symm] at this
 rw [this]
 show ((tot _ (coinsS zs):Nat):Int)=_
 have e:=tot_sumN (fun p=>f (ls.getD p.plc 0)) dpc (coinsS zs) (coinsS zs).length nl
 rw [List.take_length] at e
 rw [e]
 congr 1
 refine sumN_congr fun k hk=>?_
 rw [List.getD_eq_getElem?_getD (i:=k),List.getElem?_eq_getElem hk]
 simp only [Option.getD_some]
 rw [h.at_ k hk]
theorem LF.rng {zs ls:List Int} {L:Nat} {lm:Nat→Nat} (h:LF zs ls L lm) (s:Nat) (hs:s<zs.length):(0<zs.getD s 0→∃ k,∃ hk:k<(coinsS zs).length,(coinsS zs)[k]=.coin s (zs.getD s 0).toNat∧ls.getD s 0=(lm k:Nat)∧1≤lm k∧lm k≤L)∧(¬0<zs.getD s 0→ls.getD s 0=0):=by
 refine ⟨fun hz=>?_,h.no s⟩
 obtain ⟨k,hk,e⟩:=coinsS_has zs s hs hz
 have:=h.at_ k hk
 rw [e] at this
 exact ⟨k,hk,e,this,h.pos k hk,h.le k⟩
theorem one_nat :one=fun z=>(((if 0<z then 1 else 0:Nat)):Int):=by
 funext z;unfold one;split <;> rfl
theorem LF.okB {zs ls:List Int} {L:Nat} {lm:Nat→Nat} (h:LF zs ls L lm) (hc:cntB zs=true) (hL:L≤12) (h1:1≤(coinsS zs).length):lensB ls=true:=by
 simp only [cntB,decide_eq_true_eq] at hc
 obtain ⟨hl1,hl2,hz⟩:=hc
 simp only [lensB,decide_eq_true_eq]
 have hr:∀ z ∈ ls,0≤z∧z≤12:=fun z hz'=>by
  obtain ⟨s,hs,rfl⟩:=List.getElem_of_mem hz'
  have e:ls[s]=ls.getD s 0:=by simp [List.getD_eq_getElem?_getD,List.getElem?_eq_getElem hs]
  rw [e]
  obtain ⟨a1,a2⟩:=h.rng s (by rw [←h.len];exact hs)
  by_cases hp:0<zs.getD s 0
  ·obtain ⟨k,_,_,e2,e3,e4⟩:=a1 hp
   omega
  ·have:=a2 hp
   omega
 have ho:sumF one ls=((coinsS zs).length:Nat):=by
  rw [one_nat,sumF_rank (fun z=>if 0<z then 1 else 0) (by simp) h]
  congr 1
  rw [sumN_congr (h:=fun _=>1) (fun k hk=>by have:=h.pos k hk;simp;omega),sumN_const]
  omega
 have hs:sumF share ls=((sumN (fun k=>2 ^ (12-lm k)) (coinsS zs).length:Nat):Int):=by
  have e:share=fun z=>(((if 0<z then 2 ^ (12-z).toNat else 0:Nat)):Int):=by
   funext z;unfold share;split
   ·simp
   ·rfl
  rw [e,sumF_rank (fun z=>if 0<z then 2 ^ (12-z).toNat else 0) (by simp) h]
  congr 1
  refine sumN_congr fun k hk=>?_
  have p1:=h.pos k hk
  have p2:=h.le k
  rw [if_pos (by omega)]
  congr 1
  omega
 refine ⟨by rw [h.len];exact hl1,by rw [h.len];exact hl2,hr,?_⟩
 by_cases hn:(coinsS zs).length=1
 ·left
  rw [ho,hs,hn]
  simp only [sumN]
  rw [h.sole hn]
  decide
 ·right
  refine ⟨by rw [ho];omega,?_⟩
  rw [hs]
  have e:sumN (fun k=>2 ^ (12-lm k)) (coinsS zs).length=2 ^ (12-L)*sumN (fun k=>2 ^ (L-lm k)) (coinsS zs).length:=by
   rw [←sumN_mul]
   refine sumN_congr fun k hk=>?_
   rw [←Nat.pow_add]
   congr 1
   have:=h.le k
   omega
  rw [e,h.full (by omega),←Nat.pow_add,show 12-L+L=12 by omega]
  decide
theorem mrg_min :∀ (a b:List Pc) (c p:Nat),WS a→WS b→c≤a.length→p≤b.length→tot Pc.wt ((mrg a b).take (c+p))≤tot Pc.wt (a.take c)+tot Pc.wt (b.take p)
 | [],b,c,p,_,_,hc,hp=>by
  obtain rfl:c=0:=by simpa using hc
  rw [mrg]
  simp [tot]
 | a :: ar,[],c,p,_,_,hc,hp=>by
  obtain rfl:p=0:=by simpa using hp
  rw [mrg]
  simp [tot]
 | a :: ar,b :: br,c,p,ha,hb,hc,hp=>by
  obtain ⟨a1,a2⟩:=List.pairwise_cons.1 ha
  obtain ⟨b1,b2⟩:=List.pairwise_cons.1 hb
  rw [mrg]
  split
  ·rename_i hw
   cases c with
   | succ c=>
    rw [show c+1+p=c+p+1 by omega,List.take_succ_cons,List.take_succ_cons,tot_cons,tot_cons]
    have:=mrg_min ar (b :: br) c p a2 hb (by simpa using hc) hp
    omega
   | zero=>
    cases p with
    | zero=>simp [tot]
    | succ p=>
     rw [show 0+(p+1)=0+p+1 by omega,List.take_succ_cons,tot_cons]
     have:=mrg_min ar (b :: br) 0 p a2 hb (by omega) (by simp at hp ⊢;omega)
     have e:=List.take_succ_eq_append_getElem (l:=b :: br) (i:=p) (by omega)
     rw [e,tot_app]
     have hx:a.wt≤((b :: br)[p]).wt:=by
      rcases List.mem_cons.1 (List.getElem_mem (l:=b :: br) (n:=p) (by omega)) with h | h
      ·rw [h];exact hw
      ·have:=b1 _ h;omega
     have e2:tot Pc.wt [(b :: br)[p]]=((b :: br)[p]).wt:=by simp [tot]
     rw [e2]
     simp only [List.take_zero,tot,List.map_nil,List.sum_nil,Nat.add_zero,Nat.zero_add] at this ⊢
     omega
  ·rename_i hw
   cases p with
   | succ p=>
    rw [show c+(p+1)=c+p+1 by omega,List.take_succ_cons,List.take_succ_cons,tot_cons,tot_cons]
    have:=mrg_min (a :: ar) br c p ha b2 hc (by simpa using hp)
    omega
   | zero=>
    cases c with
    | zero=>simp [tot]
    | succ c=>
     rw [show c+1+0=c+0+1 by omega,List.take_succ_cons,tot_cons]
     have:=mrg_min (a :: ar) br c 0 ha b2 (by simp at hc ⊢;omega) (by omega)
     have e:=List.take_succ_eq_append_getElem (l:=a :: ar) (i:=c) (by omega)
     rw [e,tot_app]
     have hx:b.wt≤((a :: ar)[c]).wt:=by
      rcases List.mem_cons.1 (List.getElem_mem (l:=a :: ar) (n:=c) (by omega)) with h | h
      ·rw [h];omega
      ·have:=a1 _ h;omega
     have e2:tot Pc.wt [(a :: ar)[c]]=((a :: ar)[c]).wt:=by simp [tot]
     rw [e2]
     simp only [List.take_zero,tot,List.map_nil,List.sum_nil,Nat.add_zero,Nat.zero_add] at this ⊢
     omega
termination_by a b=>a.length+b.length
theorem sumN_le (w:Nat→Nat) {c d:Nat} (h:c≤d):sumN w c≤sumN w d:=by
 induction d with
 | zero => obtain rfl : c = 0 := by omega
           exact Nat.le_refl _
 | succ d ih=>
  by_cases e:c=d+1
  ·subst e;exact Nat.le_refl _
  ·have:=ih (by omega)
   simp only [sumN]
   omega
theorem lower {S:List Pc} (hS:WS S) (hW:∀ r,WS (pairL (rnd S r) ((rnd S r).length / 2))):∀ (ts:List Nat) (k:Nat),(∀ a ∈ ts,a≤S.length)→k*2 ^ ts.length≤2*pmv ts→k≤(rnd S ts.length).length∧tot Pc.wt ((rnd S ts.length).take k)≤(ts.map (fun a=>tot Pc.wt (S.take a))).sum
 | [],k,_,h=>by
  simp [pmv] at h
  subst h
  simp [rnd,tot]
 | a :: ts,k,ha,h=>by
  have haS:=ha a (by simp)
  have h2:(2*(k-min a k))*2 ^ ts.length≤2*pmv ts:=by
   simp only [pmv,List.length_cons,Nat.pow_succ] at h
   generalize 2 ^ ts.length=z at *
   by_cases hka:k≤a
   ·rw [show k-min a k=0 by omega];simp
   ·obtain ⟨p,hp⟩:∃ p,k=p+a:=⟨k-a,by omega⟩
    rw [show k-min a k=p by omega]
    rw [hp,Nat.mul_comm z 2,←Nat.mul_assoc,Nat.add_mul,Nat.add_mul,Nat.mul_comm p 2,Nat.mul_comm a 2,Nat.mul_assoc 2 a z] at h
    omega
  obtain ⟨i1,i2⟩:=lower hS hW ts (2*(k-min a k)) (fun d hd=>ha d (by simp [hd])) h2
  have hlen:(rnd S (ts.length+1)).length=S.length+(rnd S ts.length).length / 2:=by
   show (mrg _ _).length=_
   rw [(mrg_perm _ _).length_eq,List.length_append,pairL_len]
  refine ⟨by simp only [List.length_cons];rw [hlen];omega,?_⟩
  simp only [List.length_cons,List.map_cons,List.sum_cons]
  have hm:=mrg_min S (pairL (rnd S ts.length) ((rnd S ts.length).length / 2)) (min a k) (k-min a k) hS (hW _) (by omega) (by rw [pairL_len];omega)
  rw [pairL_take _ _ _ (by omega),tot_pair wt_add _ _ (by omega),show min a k+(k-min a k)=k by omega] at hm
  have hP:tot Pc.wt (S.take (min a k))≤tot Pc.wt (S.take a):=by
   rw [tot_sumN _ dpc S _ (by omega),tot_sumN _ dpc S _ haS]
   exact sumN_le _ (by omega)
  show tot Pc.wt ((mrg _ _).take k)≤_
  omega
def cnt (q:Nat→Bool) (n:Nat):Nat:=sumN (fun k=>if q k=true then 1 else 0) n
theorem cnt_le (q:Nat→Bool):∀ n,cnt q n≤n
 | 0=>Nat.le_refl _
 | n+1=>by
  have:=cnt_le q n
  unfold cnt at this ⊢
  simp only [sumN]
  split <;> omega
theorem cnt_min (w:Nat→Nat) (q:Nat→Bool):∀ n,(∀ i j,i≤j→j<n→w i≤w j)→sumN w (cnt q n)≤sumN (fun k=>if q k=true then w k else 0) n
 | 0,_=>Nat.le_refl _
 | n+1,h=>by
  have ih:=cnt_min w q n (fun i j h1 h2=>h i j h1 (by omega))
  have hc:=cnt_le q n
  unfold cnt at ih hc ⊢
  simp only [sumN]
  by_cases hq:q n=true
  ·simp only [hq,if_true]
   simp only [sumN]
   have:=h _ n hc (by omega)
   omega
  ·simp only [hq,if_false]
   simpa using ih
def al (n L:Nat) (lm:Nat→Nat):Nat→List Nat
 | 0=>[]
 | r+1=>cnt (fun k=>decide (L-r≤lm k)) n :: al n L lm r
theorem al_len (n L:Nat) (lm:Nat→Nat):∀ r,(al n L lm r).length=r
 | 0=>rfl
 | r+1=>by simp [al,al_len n L lm r]
theorem al_le (n L:Nat) (lm:Nat→Nat):∀ r,∀ a ∈ al n L lm r,a≤n
 | 0,a,h=>by simp [al] at h
 | r+1,a,h=>by
  rcases List.mem_cons.1 h with rfl | h
  ·exact cnt_le _ _
  ·exact al_le n L lm r a h
theorem al_val (n L:Nat) (lm:Nat→Nat) (hm:∀ k,k<n→lm k≤L):∀ r,r≤L→sumN (fun k=>2 ^ (min r (L-lm k))) n+pmv (al n L lm r)=n*2 ^ r
 | 0,_=>by
  simp only [Nat.zero_min,Nat.pow_zero,al,pmv]
  rw [sumN_const]
  omega
 | r+1,hr=>by
  have ih:=al_val n L lm hm r (by omega)
  simp only [al,pmv]
  rw [al_len]
  have e:sumN (fun k=>2 ^ (min (r+1) (L-lm k))) n+sumN (fun k=>(if decide (L-r≤lm k)=true then 1 else 0)*2 ^ r) n=sumN (fun k=>2 ^ (min r (L-lm k))) n+sumN (fun _=>2 ^ r) n:=by
   rw [←sumN_add,←sumN_add]
   refine sumN_congr fun k hk=>?_
   have hmk:=hm k hk
   by_cases h:L-r≤lm k
   ·simp only [h,decide_true,if_true]
    rw [show min (r+1) (L-lm k)=min r (L-lm k) by omega]
    omega
   ·simp only [h,decide_false]
    rw [show min (r+1) (L-lm k)=r+1 by omega,show min r (L-lm k)=r by omega,Nat.pow_succ]
    simp
    omega
  have e2:sumN (fun k=>(if decide (L-r≤lm k)=true then 1 else 0)*2 ^ r) n=cnt (fun k=>decide (L-r≤lm k)) n*2 ^ r:=by
   unfold cnt
   rw [Nat.mul_comm,←sumN_mul]
   exact sumN_congr fun k _=>Nat.mul_comm _ _
  rw [e2,sumN_const] at e
  rw [Nat.pow_succ,Nat.mul_comm _ 2,Nat.mul_left_comm,Nat.two_mul]
  generalize 2 ^ r=z at *
  omega
theorem al_wt (n L:Nat) (lm w:Nat→Nat) (hw:∀ i j,i≤j→j<n→w i≤w j) (hm:∀ k,k<n→lm k≤L):∀ r,r≤L→((al n L lm r).map (fun a=>sumN w a)).sum≤sumN (fun k=>w k*(lm k-(L-r))) n
 | 0,_=>by simp [al]
 | r+1,hr=>by
  have ih:=al_wt n L lm w hw hm r (by omega)
  have hc:=cnt_min w (fun k=>decide (L-r≤lm k)) n hw
  simp only [al,List.map_cons,List.sum_cons]
  have e:sumN (fun k=>w k*(lm k-(L-(r+1)))) n=sumN (fun k=>if decide (L-r≤lm k)=true then w k else 0) n+sumN (fun k=>w k*(lm k-(L-r))) n:=by
   rw [←sumN_add]
   refine sumN_congr fun k hk=>?_
   by_cases h:L-r≤lm k
   ·simp only [h,decide_true,if_true]
    rw [show lm k-(L-(r+1))=lm k-(L-r)+1 by omega,Nat.mul_add]
    omega
   ·simp only [h,decide_false]
    rw [show lm k-(L-(r+1))=0 by omega,show lm k-(L-r)=0 by omega]
    simp
  rw [e]
  exact Nat.add_le_add hc ih
theorem best {S:List Pc} (hS:WS S) (hW:∀ r,WS (pairL (rnd S r) ((rnd S r).length / 2))) {L:Nat} (lm:Nat→Nat) (hn:1≤S.length) (h1:∀ k,k<S.length→lm k≤L) (hK:sumN (fun k=>2 ^ (L-lm k)) S.length≤2 ^ L):tot Pc.wt ((rnd S L).take (2*S.length-2))≤sumN (fun k=>(S.getD k dpc).wt*lm k) S.length:=by
 have hv:=al_val S.length L lm h1 L nl
 have e:sumN (fun k=>2 ^ (min L (L-lm k))) S.length=sumN (fun k=>2 ^ (L-lm k)) S.length:=sumN_congr fun k hk=>by rw [show min L (L-lm k)=L-lm k by omega]
 rw [e] at hv
 have hl:=lower hS hW (al S.length L lm L) (2*S.length-2) (al_le _ _ _ _) (by
  rw [al_len]
  obtain ⟨m,hm⟩:∃ m,S.length=m+1:=⟨S.length-1,by omega⟩
  rw [hm] at hv hK ⊢
  generalize sumN (fun k=>2 ^ (L-lm k)) (m+1)=q at *
  generalize pmv (al (m+1) L lm L)=v at *
  generalize 2 ^ L=z at *
  rw [show 2*(m+1)-2=2*m by omega,Nat.mul_assoc]
  rw [Nat.add_mul,Nat.one_mul] at hv
  omega)
 rw [al_len] at hl
 have hmon:∀ i j,i≤j→j<S.length→(S.getD i dpc).wt≤(S.getD j dpc).wt:=fun i j hij hj=>by
  by_cases e:i=j
  ·subst e;exact Nat.le_refl _
  ·have:=List.pairwise_iff_getElem.1 hS i j (by omega) hj (by omega)
   rw [List.getD_eq_getElem?_getD,List.getElem?_eq_getElem (by omega),List.getD_eq_getElem?_getD,List.getElem?_eq_getElem hj]
   exact this
 have ha:=al_wt S.length L lm (fun k=>(S.getD k dpc).wt) hmon h1 L nl
 have e2:((al S.length L lm L).map (fun a=>tot Pc.wt (S.take a)))=(al S.length L lm L).map (fun a=>sumN (fun k=>(S.getD k dpc).wt) a):=List.map_congr_left fun a h=>tot_sumN _ dpc S a (al_le _ _ _ _ a h)
 have e3:sumN (fun k=>(S.getD k dpc).wt*(lm k-(L-L))) S.length=sumN (fun k=>(S.getD k dpc).wt*lm k) S.length:=sumN_congr fun k _=>by rw [Nat.sub_self,Nat.sub_zero]
 rw [e2] at hl
 rw [e3] at ha
 exact Nat.le_trans hl.2 ha
end Go.Proofs.YtfeokafkhnbdiaaGreatDoor
