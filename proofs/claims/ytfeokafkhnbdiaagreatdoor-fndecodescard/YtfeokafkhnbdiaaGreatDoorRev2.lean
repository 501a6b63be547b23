/- Lemmas on the way. -/
import Derived.Test.YtfeokafkhnbdiaaGreatDoorPcA
import Derived.Test.YtfeokafkhnbdiaaGreatDoorPmB
import Derived.Laws.BitsAllLaws
import Derived.BigQuiet
set_option maxRecDepth 20000
set_option maxHeartbeats 16000000
namespace Go.Proofs.YtfeokafkhnbdiaaGreatDoor
open Go.RowKit
set_option linter.unusedVariables false
theorem sum_succ (zs:List Int) (k:Nat) (h:k<zs.length):(zs.take (k+1)).sum=(zs.take k).sum+zs.getD k 0:=by
 rw [List.take_succ_eq_append_getElem h,List.sum_append]
 simp [List.getD_eq_getElem?_getD,List.getElem?_eq_getElem h]
def normB (zs:List Int):Bool:=decide (1≤zs.length∧zs.length≤80∧(∀ z ∈ zs,0≤z∧z≤64)∧zs.sum=64)
theorem normB_get {zs:List Int} (h:normB zs=true) (k:Nat) (hk:k<zs.length):0≤zs.getD k 0∧zs.getD k 0≤64:=by
 simp only [normB,decide_eq_true_eq] at h
 exact h.2.2.1 _ (getD_mem hk)
theorem normB_bnd {zs:List Int} (h:normB zs=true):1≤zs.length∧zs.length≤80:=by
 simp only [normB,decide_eq_true_eq] at h
 exact ⟨h.1,h.2.1⟩
def ahead (cs ns:List Int) (best:Int) (i:Nat):Prop:=0<cs.getD i 0∧(best<0∨cs.getD best.toNat 0*ns.getD i 0<cs.getD i 0*ns.getD best.toNat 0)
instance (cs ns:List Int) (best:Int) (i:Nat):Decidable (ahead cs ns best i):=by unfold ahead;infer_instance
def pick (cs ns:List Int):Nat→Int
 | 0=>-1
 | k+1=>if ahead cs ns (pick cs ns k) k then k else pick cs ns k
def give (cs ns:List Int):List Int:=bump ns (pick cs ns cs.length)
def shares (cs:List Int):Nat→List Int
 | 0=>cs.map one
 | j+1=>give cs (shares cs j)
theorem pick_yes {cs ns:List Int} {k:Nat} (h:ahead cs ns (pick cs ns k) k):pick cs ns (k+1)=k:=by simp [pick,h]
theorem pick_no {cs ns:List Int} {k:Nat} (h:¬ahead cs ns (pick cs ns k) k):pick cs ns (k+1)=pick cs ns k:=by simp [pick,h]
theorem pick_rng (cs ns:List Int) (k:Nat):-1≤pick cs ns k∧pick cs ns k<k:=by
 induction k with
 | zero=>simp [pick]
 | succ k ih=>simp only [pick];split <;> omega
theorem pick_pos (cs ns:List Int) (k:Nat) (h:0≤pick cs ns k):0<cs.getD (pick cs ns k).toNat 0:=by
 induction k with
 | zero=>simp [pick] at h
 | succ k ih=>
  by_cases c:ahead cs ns (pick cs ns k) k
  ·rw [pick_yes c];simpa using c.1
  ·rw [pick_no c] at h ⊢;exact ih h
theorem pick_some (cs ns:List Int) (k i:Nat) (hi:i<k) (h:0<cs.getD i 0):0≤pick cs ns k:=by
 induction k with
 | zero=>omega
 | succ k ih=>
  by_cases c:ahead cs ns (pick cs ns k) k
  ·rw [pick_yes c];omega
  ·rw [pick_no c]
   by_cases hk:i<k
   ·exact ih hk
   ·have:i=k:=by omega
    subst this
    have hr:=pick_rng cs ns i
    by_cases hp:pick cs ns i<0
    ·exact absurd ⟨h,.inl hp⟩ c
    ·omega
def some1 (cs:List Int):Prop:=∃ i,i<cs.length∧0<cs.getD i 0
theorem some1_of {cs:List Int} (h:1≤sumF one cs):some1 cs:=by
 induction cs with
 | nil=>simp [sumF] at h
 | cons c cs ih=>
  by_cases hc:0<c
  ·exact ⟨0,by simp,by simpa using hc⟩
  ·have e:sumF one (c :: cs)=sumF one cs:=by simp [sumF,one,hc]
   rw [e] at h
   obtain ⟨i,hi,hp⟩:=ih h
   exact ⟨i+1,by simp;omega,by simpa using hp⟩
def Fair (cs ns:List Int) (j:Nat):Prop:=ns.length=cs.length∧∀ i,i<cs.length→(0<cs.getD i 0→1≤ns.getD i 0∧ns.getD i 0≤j+1)∧(¬0<cs.getD i 0→ns.getD i 0=0)
theorem Fair.bnd {cs ns:List Int} {j:Nat} (h:Fair cs ns j) (i:Nat):0≤ns.getD i 0∧ns.getD i 0≤j+1:=by
 by_cases hi:i<cs.length
 ·have:=h.2 i hi
  by_cases hc:0<cs.getD i 0
  ·have:=this.1 hc;omega
  ·have:=this.2 hc;omega
 ·rw [List.getD_eq_getElem?_getD,List.getElem?_eq_none (by rw [h.1];omega)];simp;omega
theorem fair_zero (cs:List Int):Fair cs (cs.map one) 0:=by
 refine ⟨by simp,fun i hi=>?_⟩
 have e:(cs.map one).getD i 0=one (cs.getD i 0):=by simp [List.getD_eq_getElem?_getD,List.getElem?_eq_getElem hi]
 rw [e]
 constructor
 ·intro h;simp only [one];rw [if_pos h];omega
 ·intro h;simp only [one];rw [if_neg h]
theorem pick_in {cs ns:List Int} (hs:some1 cs):0≤pick cs ns cs.length∧(pick cs ns cs.length).toNat<cs.length∧0<cs.getD (pick cs ns cs.length).toNat 0:=by
 obtain ⟨i,hi,hp⟩:=hs
 have h1:=pick_some cs ns cs.length i hi hp
 have h2:=pick_rng cs ns cs.length
 exact ⟨h1,by omega,pick_pos cs ns _ h1⟩
theorem getD_set_eq {ns:List Int} {i:Nat} {v:Int} (h:i<ns.length):(ns.set i v).getD i 0=v:=by simp [List.getD_eq_getElem?_getD,h]
theorem getD_set_ne {ns:List Int} {i k:Nat} {v:Int} (h:i≠k):(ns.set k v).getD i 0=ns.getD i 0:=by
 simp only [List.getD_eq_getElem?_getD]
 rw [List.getElem?_set_ne (by omega)]
theorem fair_succ {cs ns:List Int} {j:Nat} (hs:some1 cs) (h:Fair cs ns j):Fair cs (give cs ns) (j+1):=by
 obtain ⟨p1,p2,p3⟩:=pick_in (ns:=ns) hs
 unfold give bump
 generalize (pick cs ns cs.length).toNat=p at *
 refine ⟨by simpa using h.1,fun i hi=>?_⟩
 have hi':=h.2 i hi
 by_cases hip:i=p
 ·subst hip
  rw [getD_set_eq (by rw [h.1];exact hi)]
  have:=hi'.1 p3
  exact ⟨fun _=>by omega,fun hh=>absurd p3 hh⟩
 ·rw [getD_set_ne hip]
  exact ⟨fun hh=>by have:=hi'.1 hh;omega,hi'.2⟩
theorem fair_all {cs:List Int} (hs:some1 cs) (j:Nat):Fair cs (shares cs j) j:=by
 induction j with
 | zero=>exact fair_zero cs
 | succ j ih=>exact fair_succ hs ih
theorem Fair.rng {cs ns:List Int} {j:Nat} (h:Fair cs ns j):∀ z ∈ ns,0≤z∧z≤(j:Int)+1:=by
 intro z hz
 obtain ⟨i,hi,rfl⟩:=List.getElem_of_mem hz
 have:=h.bnd i
 simpa [List.getD_eq_getElem?_getD,List.getElem?_eq_getElem hi] using this
theorem mulb {x y:Int} (hx:0≤x∧x≤1000000) (hy:0≤y∧y≤65):0≤x*y∧x*y≤65000000:=by
 refine ⟨Int.mul_nonneg hx.1 hy.1,?_⟩
 have h1:x*y≤1000000*y:=Int.mul_le_mul_of_nonneg_right hx.2 hy.1
 omega
theorem one_part_set (cs:List Int) (k:Nat) (h:k<cs.length) (hp:0<cs.getD k 0):(part (cs.map one) k).set k 1=part (cs.map one) (k+1):=by
 rw [←part_set (cs.map one) k (by simpa using h)]
 congr 1
 have e:(cs.map one).getD k 0=one (cs.getD k 0):=by simp [List.getD_eq_getElem?_getD,List.getElem?_eq_getElem h]
 rw [e]
 simp only [one]
 rw [if_pos hp]
theorem one_part_skip (cs:List Int) (k:Nat) (h:k<cs.length) (hp:¬0<cs.getD k 0):part (cs.map one) k=part (cs.map one) (k+1):=by
 rw [←part_set (cs.map one) k (by simpa using h)]
 have e:(cs.map one).getD k 0=one (cs.getD k 0):=by simp [List.getD_eq_getElem?_getD,List.getElem?_eq_getElem h]
 rw [e]
 have e0:one (cs.getD k 0)=0:=by simp only [one];rw [if_neg hp]
 rw [e0]
 apply List.ext_getElem?
 intro i
 by_cases hik:i=k
 ·subst hik
  rw [List.getElem?_set_self (by rw [part_len _ _ (by simp;omega)];simpa using h),part_get _ _ _ (by simp;omega)]
  simp [h]
 ·rw [List.getElem?_set_ne (by omega)]
theorem needy_any (a:Option Addr) (cap:Nat) (cs:List Int) (b:Option Addr) (cb:Nat) (ns:List Int) (j:Nat) (w:World) (ha:Ins w a cs) (hb:Ins w b ns) (hn:cs.length≤80) (hc:∀ i,i<cs.length→0≤cs.getD i 0∧cs.getD i 0≤1000000) (hj:j≤64) (hf:Fair cs ns j) :
  Calls Tryz.prog 128 #[.slice a cs.length cap,.slice b cs.length cb] w fun e w'=>e=.returned (.int .i64 (pick cs ns cs.length))∧∃ m,w'=w.drewN m:=by
 have HF:Hid (Fair cs ns j):=hf
 have HC:Hid (∀ i,i<cs.length→0≤cs.getD i 0∧cs.getD i 0≤1000000):=hc
 have HQ:Hid (ns.length=cs.length):=hf.1
 clear hf hc
 generalize hlen:cs.length=n at *
 have HL:Hid (cs.length=n):=hlen
 clear hlen
 go_enter Tryz.func128,Tryz.ntmps128
 go_wp2
 go_loopw [5,10] (fun x i wr=>∃ k m:Nat,k≤n∧i=.int .i64 k∧x=.int .i64 (pick cs ns k)∧wr=w.drewN m) (fun _ i _=>n-(intOf i).toNat)
 case atStart=>exact ⟨0,0,Nat.zero_le _,rfl,rfl,rfl⟩
 case round=>
  obtain ⟨k,m,hk,rfl,rfl,rfl⟩:=hrel
  by_cases hlt:k<n
  ·obtain ⟨b1,o1,rfl,hb1,hc1⟩:=ha.len_pos k (by rw [HL.out];exact hlt)
   obtain ⟨b2,o2,rfl,hb2,hc2⟩:=hb.len_pos k (by rw [HQ.out];exact hlt)
   have hs1:=hc1 k (by rw [HL.out];exact hlt)
   have hs2:=hc2 k (by rw [HQ.out];exact hlt)
   have hx:=HC.out k hlt
   have hy:=HF.out.bnd k
   have hfk:=HF.out.2 k (by rw [HL.out];exact hlt)
   have hp:=pick_rng cs ns k
   by_cases hsh:ns.getD k 0=0
   ·have hno:¬ahead cs ns (pick cs ns k) k:=fun h=>by have:=hfk.1 h.1;omega
    have HP:Hid (pick cs ns (k+1)=pick cs ns k):=pick_no hno
    clear hno hfk hc1 hc2 hx
    rw [hsh] at hs2
    clear hsh hy
    generalize pick cs ns k=p at *
    go_wp2
    go_roundw
    case rel=>exact ⟨k+1,_,by omega,by go_num,by rw [HP.out],rfl⟩
    case measure=>simp [intOf];omega
   ·have hpos:0<cs.getD k 0:=by
     by_cases h:0<cs.getD k 0
     ·exact h
     ·exact absurd (hfk.2 h) hsh
    by_cases hpn:pick cs ns k<0
    ·have HP:Hid (pick cs ns (k+1)=k):=pick_yes ⟨hpos,.inl hpn⟩
     clear hfk hc1 hc2
     generalize pick cs ns k=p at *
     generalize cs.getD k 0=x at *
     generalize ns.getD k 0=y at *
     go_wp2
     go_quiet (fail)
     go_wp2
     go_roundw
     case rel=>exact ⟨k+1,_,by omega,by go_num,by rw [HP.out],rfl⟩
     case measure=>simp [intOf];omega
    ·have HPY:Hid _:=@pick_yes cs ns k
     have HPN:Hid _:=@pick_no cs ns k
     have HPP:Hid (ahead cs ns (pick cs ns k) k↔cs.getD (pick cs ns k).toNat 0*ns.getD k 0<cs.getD k 0*ns.getD (pick cs ns k).toNat 0):=by
      unfold Hid ahead
      constructor
      ·rintro ⟨_,h | h⟩
       ·exact absurd h hpn
       ·exact h
      ·exact fun h=>⟨hpos,.inr h⟩
     clear hfk
     generalize pick cs ns k=p at *
     obtain ⟨q,rfl⟩:∃ q:Nat,p=q:=⟨p.toNat,by omega⟩
     simp only [Int.toNat_natCast] at HPP
     have hs3:=hc1 q (by rw [HL.out];omega)
     have hs4:=hc2 q (by rw [HQ.out];omega)
     have hu:=HC.out q (by omega)
     have hqn:q<n:=by omega
     have hv:=HF.out.bnd q
     clear hc1 hc2 hp hpn
     generalize cs.getD k 0=x at *
     generalize ns.getD k 0=y at *
     generalize cs.getD q 0=u at *
     generalize ns.getD q 0=v at *
     have m1:=mulb hx (show 0≤v∧v≤65 by omega)
     have m2:=mulb hu (show 0≤y∧y≤65 by omega)
     have hw1:IntKind.i64.wrap (x*v)=x*v:=IntWalk.i64_in _ (by omega)
     have hw2:IntKind.i64.wrap (u*y)=u*y:=IntWalk.i64_in _ (by omega)
     by_cases hcmp:u*y<x*v
     ·have HP:Hid (pick cs ns (k+1)=k):=HPY.out (HPP.out.2 hcmp)
      clear HPY HPN HPP
      go_wp2
      go_quiet (fail)
      go_wp2
      go_roundw
      case rel=>exact ⟨k+1,_,by omega,by go_num,by rw [HP.out],rfl⟩
      case measure=>simp [intOf];omega
     ·have HP:Hid (pick cs ns (k+1)=q):=HPN.out (fun h=>hcmp (HPP.out.1 h))
      clear HPY HPN HPP
      go_wp2
      go_quiet (fail)
      go_wp2
      go_roundw
      case rel=>exact ⟨k+1,_,by omega,by go_num,by rw [HP.out],rfl⟩
      case measure=>simp [intOf];omega
  ·have hkn:k=n:=by omega
   subst hkn
   go_wp2
   go_ret
   exact ⟨rfl,_,rfl⟩
theorem cntB_getN {zs:List Int} (h:cntB zs=true) (k:Nat) (hk:k<zs.length):0≤zs.getD k 0∧zs.getD k 0≤1000000:=by
 simp only [cntB,decide_eq_true_eq] at h
 exact h.2.2 _ (getD_mem hk)
theorem cntB_bndN {zs:List Int} (h:cntB zs=true):1≤zs.length∧zs.length≤80:=by
 simp only [cntB,decide_eq_true_eq] at h
 exact ⟨h.1,h.2.1⟩
theorem below_drewNN {B:Nat} {a b:World} (h:Below B a b) (n:Nat):Below B a (b.drewN n):=⟨h.os,h.tape,h.output,h.size,h.block⟩
def roomy (cs:List Int):Prop:=1≤sumF one cs∧sumF one cs≤64
def rest (cs:List Int):Nat:=(64-sumF one cs).toNat
theorem implNorm_ok (a:Option Addr) (cap:Nat) (cs:List Int) (w:World) (hb:Ins w a cs) (hc:cntB cs=true) :
  Calls Tryz.prog 99 #[.slice a cs.length cap] w fun e w'=>Below w.heap.size w w' ∧
   (¬roomy cs→e=.returned (.tuple #[.slice none 0 0,.bool false])) ∧
   (roomy cs→e=.returned (.tuple #[.slice (some ⟨w.heap.size,0,none⟩) cs.length cs.length,.bool true])∧OwI w' w.heap.size w.heap.size cs.length (shares cs (rest cs))):=by
 obtain ⟨i0,hi,hz0,hz1,hz2⟩:=info_parts Tryz.infoI64
 obtain ⟨hn1,hn2⟩:=cntB_bndN hc
 have HG:Hid (∀ i,i<cs.length→0≤cs.getD i 0∧cs.getD i 0≤1000000):=fun i hi=>cntB_getN hc i hi
 have HT:=implCnt_any a cap cs w hb (by omega)
 rw [hc] at HT
 have HND:Hid (∀ (b:Option Addr) (cb:Nat) (ns:List Int) (j:Nat) (w:World),Ins w a cs→Ins w b ns→j≤64→Fair cs ns j→Calls Tryz.prog 128 #[.slice a cs.length cap,.slice b cs.length cb] w fun e w'=>e=.returned (.int .i64 (pick cs ns cs.length))∧∃ m,w'=w.drewN m):=fun b cb ns j w h1 h2 h3 h4=>needy_any a cap cs b cb ns j w h1 h2 hn2 HG.out h3 h4
 clear hc
 generalize hlen:cs.length=n at *
 have HL:Hid (cs.length=n):=hlen
 clear hlen
 go_enter Tryz.func99,Tryz.ntmps99
 go_wp2_with fail
 refine HT.mono ?_
 rintro e w0 ⟨rfl,rfl⟩
 clear HT
 go_wp2_with (at_make;refine wpList_make_full _ rfl _ _ 38 rfl w0.heap.size 3 i0 (.int .i64 0) 1 Tryz.underlying38 hi hz0 hz1 .i64 .i64 _ _ n rfl rfl rfl rfl (by rw [hz2];omega) (by unfold maxLen;omega) nl ?_;intro w1 hown hgrow)
 have h0:OwI w1 w0.heap.size w0.heap.size n (part (cs.map one) 0):=by
  rw [part_zero,List.length_map,HL.out]
  refine ⟨?_,by intro z hz;simp at hz;omega⟩
  rw [made_zeroI] at hown
  simpa using hown
 have hbw:Below w0.heap.size w0 w1:=(Below.refl _ _).grown hgrow nl (by intro k hk;cases hk)
 have H0:Hid (OwI w1 w0.heap.size w0.heap.size n (part (cs.map one) 0)):=h0
 clear h0 hown hgrow hi hz0 hz1 hz2
 go_loopw [5,16] (fun x i wr=>∃ k:Nat,k≤n∧i=.int .i64 k∧x=.int .i64 (sumF one (cs.take k))∧OwI wr w0.heap.size w0.heap.size n (part (cs.map one) k)∧Below w0.heap.size w0 wr) (fun _ i _=>n-(intOf i).toNat)
 case atStart=>exact ⟨0,Nat.zero_le _,rfl,by simp [sumF],H0.out,hbw⟩
 case round=>
  obtain ⟨k,hk,rfl,rfl,hown,hbel⟩:=hrel
  have HO:Hid (OwI wr w0.heap.size w0.heap.size n (part (cs.map one) k)):=hown
  clear hown hbw H0
  by_cases hlt:k<n
  ·obtain ⟨b,off,rfl,hbl,hcells⟩:=hb.len_pos k (by rw [HL.out];exact hlt)
   have hsrc:wr.cell? ⟨b,off+k,none⟩=some (.int .i64 (cs.getD k 0)):=(hbel.cell (p:=⟨b,off+k,none⟩) hbl).trans (hcells k (by rw [HL.out];exact hlt))
   have hx:=HG.out k hlt
   have hF:=sumF_bnd one 1 one_bnd (cs.take k)
   have hF2:(cs.take k).length≤80:=by rw [List.length_take,HL.out];omega
   have HS:Hid (sumF one (cs.take (k+1))=sumF one (cs.take k)+one (cs.getD k 0)):=sumF_succ one cs k (by rw [HL.out];exact hlt)
   have hdst:=HO.out.cell k (by rw [part_len _ _ (by rw [List.length_map,HL.out];omega),List.length_map,HL.out];exact hlt)
   have hfz:=HO.out.frozen k
   have HP1:Hid _:=one_part_set cs k (by rw [HL.out];exact hlt)
   have HP0:Hid _:=one_part_skip cs k (by rw [HL.out];exact hlt)
   generalize cs.getD k 0=x at *
   generalize hFF:sumF one (cs.take k)=F at *
   have hFb:0≤F∧F≤80:=by omega
   clear hF hF2 hFF hcells hb
   by_cases h5:0<x
   ·have HP:Hid (one x=1):=by simp [Hid,one,h5]
    have R:=HO.out.store k 1 (by omega)
    rw [HP1.out h5] at R
    have HR:Hid (OwI (wr.setCell ⟨w0.heap.size,k,none⟩ (.int .i64 1)) w0.heap.size w0.heap.size n (part (cs.map one) (k+1))):=R
    have HB:Hid (Below w0.heap.size w0 (wr.setCell ⟨w0.heap.size,k,none⟩ (.int .i64 1))):=hbel.setCell (p:=⟨w0.heap.size,k,none⟩) nl (.int .i64 1)
    clear R HP1 HP0
    go_wp2
    go_roundw
    case rel=>exact ⟨k+1,by omega,by go_num,by rw [HS.out,HP.out],by simpa using HR.out,by simpa using HB.out⟩
    case measure=>simp [intOf];omega
   ·have HP:Hid (one x=0):=by simp [Hid,one,h5]
    have HR:Hid (OwI wr w0.heap.size w0.heap.size n (part (cs.map one) (k+1))):=by rw [←HP0.out h5];exact HO.out
    clear HP1 HP0
    go_wp2
    go_roundw
    case rel=>exact ⟨k+1,by omega,by go_num,by rw [HS.out,HP.out];simp,HR.out,hbel⟩
    case measure=>simp [intOf];omega
  ·have hkn:k=n:=by omega
   subst hkn
   have hall:=HO.out
   have el:(cs.map one).length=k:=by rw [List.length_map];exact HL.out
   rw [show part (cs.map one) k=cs.map one from by rw [←el];exact part_all _] at hall
   have HA:Hid (OwI wr w0.heap.size w0.heap.size k (shares cs 0)):=hall
   have e:cs.take k=cs:=List.take_of_length_le (by rw [HL.out];exact Nat.le_refl _)
   have hF:=sumF_bnd one 1 one_bnd cs
   rw [HL.out] at hF
   rw [e]
   clear hall HO el e
   generalize hS:sumF one cs=S at *
   have HS:Hid (sumF one cs=S):=hS
   clear hS
   by_cases hsm:1≤S∧S≤64
   ·have HFA:Hid (∀ j,Fair cs (shares cs j) j):=fun j=>fair_all (some1_of (by rw [HS.out];exact hsm.1)) j
    have HPI:Hid (∀ ns,0≤pick cs ns k∧(pick cs ns k).toNat<k):=fun ns=>by have:=pick_in (ns:=ns) (some1_of (cs:=cs) (by rw [HS.out];exact hsm.1));rw [HL.out] at this;exact ⟨this.1,this.2.1⟩
    have HPS:Hid (roomy cs):=by unfold Hid roomy;rw [HS.out];exact hsm
    have HR:Hid (rest cs=(64-S).toNat):=by unfold Hid rest;rw [HS.out]
    go_wp2
    go_loopw [5] (fun x wr=>∃ j:Nat,S+j≤64∧x=.int .i64 (S+j)∧OwI wr w0.heap.size w0.heap.size k (shares cs j)∧Below w0.heap.size w0 wr) (fun x _=>64-(intOf x).toNat)
    case atStart=>exact ⟨0,by omega,by simp,HA.out,hbel⟩
    case round=>
     obtain ⟨j,hj,rfl,hown,hbel2⟩:=hrel
     have HO:Hid (OwI wr w0.heap.size w0.heap.size k (shares cs j)):=hown
     clear hown
     by_cases hlt2:S+j<64
     ·go_wp2_with fail
      refine (HND.out _ _ (shares cs j) j wr (hb.below hbel2 nl) HO.out.byt (by omega) (HFA.out j)).mono ?_
      rintro e w3 ⟨rfl,m3,rfl⟩
      have hbel3:Below w0.heap.size w0 (wr.drewN m3):=below_drewNN hbel2 m3
      have HO3:Hid (OwI (wr.drewN m3) w0.heap.size w0.heap.size k (shares cs j)):=HO.out.drewN m3
      clear hbel2 HO
      generalize wr.drewN m3=w3 at *
      have hpi:=HPI.out (shares cs j)
      have hbn:=(HFA.out j).bnd (pick cs (shares cs j) k).toNat
      have hst:shares cs (j+1)=(shares cs j).set (pick cs (shares cs j) k).toNat ((shares cs j).getD (pick cs (shares cs j) k).toNat 0+1):=by
       show give cs (shares cs j)=_
       unfold give bump
       rw [HL.out]
      generalize pick cs (shares cs j) k=p at *
      obtain ⟨q,rfl⟩:∃ q:Nat,p=q:=⟨p.toNat,by omega⟩
      simp only [Int.toNat_natCast] at *
      have hdst:=HO3.out.cell q (by rw [(HFA.out j).1,HL.out];omega)
      have hfz:=HO3.out.frozen q
      have R:=HO3.out.store q ((shares cs j).getD q 0+1) (by omega)
      rw [←hst] at R
      clear hst
      generalize (shares cs j).getD q 0=v at *
      have HR2:Hid (OwI (w3.setCell ⟨w0.heap.size,q,none⟩ (.int .i64 (v+1))) w0.heap.size w0.heap.size k (shares cs (j+1))):=R
      have HB:Hid (Below w0.heap.size w0 (w3.setCell ⟨w0.heap.size,q,none⟩ (.int .i64 (v+1)))):=hbel3.setCell (p:=⟨w0.heap.size,q,none⟩) nl (.int .i64 (v+1))
      clear R
      go_wp2
      go_roundw
      case rel=>exact ⟨j+1,by omega,by go_num,by simpa using HR2.out,by simpa using HB.out⟩
      case measure=>simp [intOf];omega
     ·have hje:(64-S).toNat=j:=by omega
      have HF2:Hid (OwI wr w0.heap.size w0.heap.size k (shares cs (rest cs))):=by rw [HR.out,hje];exact HO.out
      go_wp2
      exact bodyPost_ret (v:=.tuple #[.slice (some ⟨w0.heap.size,0,none⟩) k k,.bool true]) (by simp [results,Tryz.results99,go_sem]) rfl ⟨hbel2,fun h=>absurd HPS.out h,fun _=>⟨rfl,HF2.out⟩⟩
   ·have HNS:Hid (¬roomy cs):=by unfold Hid roomy;rw [HS.out];exact hsm
    by_cases hs0:S<1
    ·go_wp2
     exact bodyPost_ret (v:=.tuple #[.slice none 0 0,.bool false]) (by simp [results,Tryz.results99,go_sem]) rfl ⟨hbel,fun _=>rfl,fun h=>absurd h HNS.out⟩
    ·have hs64:64<S:=by omega
     go_wp2
     exact bodyPost_ret (v:=.tuple #[.slice none 0 0,.bool false]) (by simp [results,Tryz.results99,go_sem]) rfl ⟨hbel,fun _=>rfl,fun h=>absurd h HNS.out⟩
def Mono (cs ns:List Int):Prop:=∀ i k,i<cs.length→k<cs.length→cs.getD k 0<cs.getD i 0→ns.getD k 0≤ns.getD i 0
theorem sum_setN (cs:List Int) (i:Nat) (v:Int) (h:i<cs.length):(cs.set i v).sum=cs.sum-cs.getD i 0+v:=by
 induction cs generalizing i with
 | nil=>simp at h
 | cons c cs ih=>
  cases i with
  | zero=>simp;omega
  | succ i=>
   have:=ih i (by simpa using h)
   simp only [List.set_cons_succ,List.sum_cons,this]
   simp
   omega
theorem shares_sum {cs:List Int} (hs:some1 cs) (j:Nat):(shares cs j).sum=sumF one cs+j:=by
 induction j with
 | zero=>simp [shares,sumF]
 | succ j ih=>
  obtain ⟨p1,p2,p3⟩:=pick_in (ns:=shares cs j) hs
  show (give cs (shares cs j)).sum=_
  unfold give bump
  rw [sum_setN _ _ _ (by rw [(fair_all hs j).1];exact p2),ih]
  omega
theorem shares_norm {cs:List Int} (hc:cntB cs=true) (hr:roomy cs):normB (shares cs (rest cs))=true:=by
 have hs:=some1_of hr.1
 have hf:=fair_all hs (rest cs)
 have hb:=cntB_bndN hc
 simp only [normB,decide_eq_true_eq]
 rw [hf.1]
 refine ⟨hb.1,hb.2,fun z hz=>?_,?_⟩
 ·have h1:=hf.rng z hz
  have h2:=hr.1
  unfold rest at h1
  omega
 ·rw [shares_sum hs]
  have h1:=hr.1
  have h2:=hr.2
  unfold rest
  omega
def rvp (c L:Nat):Nat→Nat
 | 0=>0
 | j+1=>rvp c L j+(c / 2 ^ (L-1-j) % 2)*2 ^ j
theorem rvp_lt (c L j:Nat):rvp c L j<2 ^ j:=by
 induction j with
 | zero=>simp [rvp]
 | succ j ih=>
  simp only [rvp]
  have h1:c / 2 ^ (L-1-j) % 2≤1:=by omega
  have h2:(c / 2 ^ (L-1-j) % 2)*2 ^ j≤1*2 ^ j:=Nat.mul_le_mul_right _ h1
  rw [Nat.pow_succ]
  omega
theorem rvp_congr {c d L M j:Nat} (h:∀ i,i<j→c / 2 ^ (L-1-i) % 2=d / 2 ^ (M-1-i) % 2):rvp c L j=rvp d M j:=by
 induction j with
 | zero=>rfl
 | succ j ih=>
  simp only [rvp]
  rw [ih (fun i hi=>h i (by omega)),h j (by omega)]
theorem rvp_split (x a b j:Nat) (hj:j≤b):rvp x (a+b) (a+j)=rvp x (a+b) a+2 ^ a*rvp x b j:=by
 induction j with
 | zero=>simp [rvp]
 | succ j ih=>
  rw [show a+(j+1)=(a+j)+1 from rfl]
  simp only [rvp]
  rw [ih (by omega),show a+b-1-(a+j)=b-1-j from by omega,Nat.pow_add,Nat.mul_add]
  have e:x / 2 ^ (b-1-j) % 2*(2 ^ a*2 ^ j)=2 ^ a*(x / 2 ^ (b-1-j) % 2*2 ^ j):=by rw [Nat.mul_left_comm]
  rw [e]
  omega
theorem rvp_shift (x L:Nat) (h:L≤16):rvp x 16 16 / 2 ^ (16-L)=rvp x L L:=by
 have h1:=rvp_split x (16-L) L L nl
 rw [show 16-L+L=16 from by omega] at h1
 rw [h1,Nat.add_mul_div_left _ _ (Nat.pow_pos (by omega)),Nat.div_eq_of_lt (rvp_lt _ _ _),Nat.zero_add]
theorem bit_mod (c k i:Nat) (h:i<k):c % 2 ^ k / 2 ^ i % 2=c / 2 ^ i % 2:=by
 have e:2 ^ k=2 ^ i*2 ^ (k-i):=by rw [←Nat.pow_add];congr 1;omega
 rw [e,Nat.mod_mul_right_div_self]
 have d:2 ∣ 2 ^ (k-i):=⟨2 ^ (k-i-1),by rw [←Nat.pow_succ'];congr 1;omega⟩
 exact Nat.mod_mod_of_dvd _ d
theorem rvp_mod (c L k:Nat) (h:L≤k):rvp (c % 2 ^ k) L L=rvp c L L:=rvp_congr (fun i hi=>bit_mod c k (L-1-i) (by omega))
theorem rvp_16 (x:Nat):rvp x 16 16=rvp (x / 256) 8 8+256*rvp (x % 256) 8 8:=by
 have h1:=rvp_split x 8 8 8 nl
 have h2:rvp x (8+8) 8=rvp (x / 256) 8 8:=rvp_congr (fun i hi=>by
  rw [show 8+8-1-i=8+(8-1-i) from by omega,Nat.pow_add,←Nat.div_div_eq_div_mul])
 have h3:=rvp_mod x 8 8 nl
 rw [show (8:Nat)+8=16 from rfl] at h1 h2
 rw [h1,h2,show 256=2 ^ 8 from rfl,h3]
theorem u16_and (a:Nat) (h:a<65536):bits .and .u16 (a:Int) 255=((a % 256:Nat):Int):=by
 have e:bits .and .u16 (a:Int) 255=IntKind.u16.wrap ((BitVec.ofInt 16 (a:Int) &&& BitVec.ofInt 16 255).toNat:Int):=rfl
 rw [e,BitVec.toNat_and]
 have e1:(BitVec.ofInt 16 (a:Int)).toNat=a:=by rw [BitVec.ofInt_natCast,BitVec.toNat_ofNat];exact Nat.mod_eq_of_lt (by omega)
 have e2:(BitVec.ofInt 16 255).toNat=2 ^ 8-1:=by decide
 rw [e1,e2,Nat.and_two_pow_sub_one_eq_mod]
 exact IntWalk.u16_in _ (by omega)
theorem u16_or (a b:Nat) (ha:a<256) (hb:b<256):bits .or .u16 (a:Int) ((b*256:Nat):Int)=((a+256*b:Nat):Int):=by
 have e:bits .or .u16 (a:Int) ((b*256:Nat):Int)=IntKind.u16.wrap ((BitVec.ofInt 16 (a:Int) ||| BitVec.ofInt 16 ((b*256:Nat):Int)).toNat:Int):=rfl
 rw [e,BitVec.toNat_or]
 have e1:(BitVec.ofInt 16 (a:Int)).toNat=a:=by rw [BitVec.ofInt_natCast,BitVec.toNat_ofNat];exact Nat.mod_eq_of_lt (by omega)
 have e2:(BitVec.ofInt 16 ((b*256:Nat):Int)).toNat=b*256:=by rw [BitVec.ofInt_natCast,BitVec.toNat_ofNat];exact Nat.mod_eq_of_lt (by omega)
 have e3:a ||| b*256=a+256*b:=by
  rw [Nat.or_comm,Nat.mul_comm,show 256=2 ^ 8 from rfl,←Nat.two_pow_add_eq_or_of_lt (by omega)]
  omega
 rw [e1,e2,e3]
 exact IntWalk.u16_in _ (by omega)
set_option maxRecDepth 100000 in
theorem rev16_any (y z:Nat) (w:World) (hy:y<256) (hz:z<256) :
  Calls Tryz.prog 147 #[.int .u16 ((y*256+z:Nat):Int)] w fun e w'=>e=.returned (.int .u16 ((rvp y 8 8+256*rvp z 8 8:Nat):Int))∧∃ m,w'=w.drewN m:=by
 have h1:bits .and .u16 ((y*256+z:Nat):Int) 255=((z:Nat):Int):=by
  rw [u16_and _ (by omega)]
  congr 1
  omega
 have h2:(((y*256+z:Nat):Int)) / 256=((y:Nat):Int):=by omega
 have hyI:(y:Int)<256:=by omega
 have hzI:(z:Int)<256:=by omega
 generalize ((y*256+z:Nat):Int)=x at *
 go_enter Tryz.func147,Tryz.ntmps147
 go_wp2
 go_quiet (fail)
 go_wp2
 go_ret
 refine ⟨ret_int ?_,_,rfl⟩
 have e:∀ (n:Nat) (S:ByteArray) (h:n<S.size),S[n]=S.data.toList.getD n 0:=by
  intro n S h
  have h':n<S.data.toList.length:=by simpa using h
  rw [List.getD_eq_getElem?_getD,List.getElem?_eq_getElem h']
  rfl
 rw [e y,e z]
 clear e h1 h2 hyI hzI
 have H:∀ (L:List UInt8),(∀ n:Nat,n<256→(L.getD n 0).toNat=rvp n 8 8)→bits .or .u16 (IntKind.u16.wrap ((L.getD y 0).toNat:Int)) (IntKind.u16.wrap (IntKind.u16.wrap ((L.getD z 0).toNat:Int)*256))=((rvp y 8 8+256*rvp z 8 8:Nat):Int):=by
  intro L hL
  rw [hL y hy,hL z hz]
  have r1:rvp y 8 8<256:=rvp_lt y 8 8
  have r2:rvp z 8 8<256:=rvp_lt z 8 8
  generalize rvp y 8 8=p at *
  generalize rvp z 8 8=q at *
  rw [IntWalk.u16_in (p:Int) (by omega),IntWalk.u16_in (q:Int) (by omega),IntWalk.u16_in ((q:Int)*256) (by omega),show ((q:Int)*256)=((q*256:Nat):Int) from by simp]
  exact u16_or p q r1 r2
 exact H _ (by decide +kernel)
theorem rev16_rvp (c:Nat) (w:World) (h:c<65536) :
  Calls Tryz.prog 147 #[.int .u16 (c:Int)] w fun e w'=>e=.returned (.int .u16 ((rvp c 16 16:Nat):Int))∧∃ m,w'=w.drewN m:=by
 have:=rev16_any (c / 256) (c % 256) w (by omega) (by omega)
 rw [show c / 256*256+c % 256=c from by omega,←rvp_16 c] at this
 exact this
end Go.Proofs.YtfeokafkhnbdiaaGreatDoor
