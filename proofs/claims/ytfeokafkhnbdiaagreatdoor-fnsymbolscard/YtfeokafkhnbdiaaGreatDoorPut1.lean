/- Lemmas on the way. -/
import Derived.Test.YtfeokafkhnbdiaaGreatDoorINorm3
import Derived.Test.YtfeokafkhnbdiaaGreatDoorPcB
import Derived.Laws.BitsAllLaws
import Derived.BigQuiet
import Derived.Deep.AppendLies
import Derived.Deep.RegionLaw
import Derived.BigRegion
import Derived.Deep.RegionHeld3
import Derived.WalkKit
set_option maxRecDepth 20000
set_option maxHeartbeats 16000000
namespace Go.Proofs.YtfeokafkhnbdiaaGreatDoor
open Go.RowKit
set_option linter.unusedVariables false
theorem cntB_getN {zs:List Int} (h:cntB zs=true) (k:Nat) (hk:k<zs.length):0≤zs.getD k 0∧zs.getD k 0≤1000000:=by
 simp only [cntB,decide_eq_true_eq] at h
 exact h.2.2 _ (getD_mem hk)
theorem cntB_bndN {zs:List Int} (h:cntB zs=true):1≤zs.length∧zs.length≤80:=by
 simp only [cntB,decide_eq_true_eq] at h
 exact ⟨h.1,h.2.1⟩
theorem below_drewNN {B:Nat} {a b:World} (h:Below B a b) (n:Nat):Below B a (b.drewN n):=⟨h.os,h.tape,h.output,h.size,h.block⟩
def roomy (cs:List Int):Prop:=1≤sumF one cs∧sumF one cs≤64
def rest (cs:List Int):Nat:=(64-sumF one cs).toNat
theorem implNorm_ok (a:Option Addr) (cap:Nat) (cs:List Int) (w:World) (hb:Ins w a cs) (hc:cntB cs=true) :
  Calls Tryz.prog 99 #[.slice a cs.length cap] w fun e w'=>Below w.heap.size w w' ∧
   (¬roomy cs→e=.returned (.tuple #[.slice none 0 0,.bool false])) ∧
   (roomy cs→e=.returned (.tuple #[.slice (some ⟨w.heap.size,0,none⟩) cs.length cs.length,.bool true])∧OwI w' w.heap.size w.heap.size cs.length (shares cs (rest cs))):=by
 obtain ⟨i0,hi,hz0,hz1,hz2⟩:=info_parts Tryz.infoI64
 obtain ⟨hn1,hn2⟩:=cntB_bndN hc
 have HG:Hid (∀ i,i<cs.length→0≤cs.getD i 0∧cs.getD i 0≤1000000):=fun i hi=>cntB_getN hc i hi
 have HT:=implCnt_any a cap cs w hb (by omega)
 rw [hc] at HT
 have HND:Hid (∀ (b:Option Addr) (cb:Nat) (ns:List Int) (j:Nat) (w:World),Ins w a cs→Ins w b ns→j≤64→Fair cs ns j→Calls Tryz.prog 128 #[.slice a cs.length cap,.slice b cs.length cb] w fun e w'=>e=.returned (.int .i64 (pick cs ns cs.length))∧∃ m,w'=w.drewN m):=fun b cb ns j w h1 h2 h3 h4=>needy_any a cap cs b cb ns j w h1 h2 hn2 HG.out h3 h4
 clear hc
 generalize hlen:cs.length=n at *
 have HL:Hid (cs.length=n):=hlen
 clear hlen
 go_enter Tryz.func99,Tryz.ntmps99
 go_wp2_with fail
 refine HT.mono ?_
 rintro e w0 ⟨rfl,rfl⟩
 clear HT
 go_wp2_with (at_make;refine wpList_make_full _ rfl _ _ 38 rfl w0.heap.size 3 i0 (.int .i64 0) 1 Tryz.underlying38 hi hz0 hz1 .i64 .i64 _ _ n rfl rfl rfl rfl (by rw [hz2];omega) (by unfold maxLen;omega) nl ?_;intro w1 hown hgrow)
 have h0:OwI w1 w0.heap.size w0.heap.size n (part (cs.map one) 0):=by
  rw [part_zero,List.length_map,HL.out]
  refine ⟨?_,by intro z hz;simp at hz;omega⟩
  rw [made_zeroI] at hown
  simpa using hown
 have hbw:Below w0.heap.size w0 w1:=(Below.refl _ _).grown hgrow nl (by intro k hk;cases hk)
 have H0:Hid (OwI w1 w0.heap.size w0.heap.size n (part (cs.map one) 0)):=h0
 clear h0 hown hgrow hi hz0 hz1 hz2
 go_loopw [5,16] (fun x i wr=>∃ k:Nat,k≤n∧i=.int .i64 k∧x=.int .i64 (sumF one (cs.take k))∧OwI wr w0.heap.size w0.heap.size n (part (cs.map one) k)∧Below w0.heap.size w0 wr) (fun _ i _=>n-(intOf i).toNat)
 case atStart=>exact ⟨0,Nat.zero_le _,rfl,by simp [sumF],H0.out,hbw⟩
 case round=>
  obtain ⟨k,hk,rfl,rfl,hown,hbel⟩:=hrel
  have HO:Hid (OwI wr w0.heap.size w0.heap.size n (part (cs.map one) k)):=hown
  clear hown hbw H0
  by_cases hlt:k<n
  ·obtain ⟨b,off,rfl,hbl,hcells⟩:=hb.len_pos k (by rw [HL.out];exact hlt)
   have hsrc:wr.cell? ⟨b,off+k,none⟩=some (.int .i64 (cs.getD k 0)):=(hbel.cell (p:=⟨b,off+k,none⟩) hbl).trans (hcells k (by rw [HL.out];exact hlt))
   have hx:=HG.out k hlt
   have hF:=sumF_bnd one 1 one_bnd (cs.take k)
   have hF2:(cs.take k).length≤80:=by rw [List.length_take,HL.out];omega
   have HS:Hid (sumF one (cs.take (k+1))=sumF one (cs.take k)+one (cs.getD k 0)):=sumF_succ one cs k (by rw [HL.out];exact hlt)
   have hdst:=HO.out.cell k (by rw [part_len _ _ (by rw [List.length_map,HL.out];omega),List.length_map,HL.out];exact hlt)
   have hfz:=HO.out.frozen k
   have HP1:Hid _:=one_part_set cs k (by rw [HL.out];exact hlt)
   have HP0:Hid _:=one_part_skip cs k (by rw [HL.out];exact hlt)
   generalize cs.getD k 0=x at *
   generalize hFF:sumF one (cs.take k)=F at *
   have hFb:0≤F∧F≤80:=by omega
   clear hF hF2 hFF hcells hb
   by_cases h5:0<x
   ·have HP:Hid (one x=1):=by simp [Hid,one,h5]
    have R:=HO.out.store k 1 (by omega)
    rw [HP1.out h5] at R
    have HR:Hid (OwI (wr.setCell ⟨w0.heap.size,k,none⟩ (.int .i64 1)) w0.heap.size w0.heap.size n (part (cs.map one) (k+1))):=R
    have HB:Hid (Below w0.heap.size w0 (wr.setCell ⟨w0.heap.size,k,none⟩ (.int .i64 1))):=hbel.setCell (p:=⟨w0.heap.size,k,none⟩) nl (.int .i64 1)
    clear R HP1 HP0
    go_wp2
    go_roundw
    case rel=>exact ⟨k+1,by omega,by go_num,by rw [HS.out,HP.out],by simpa using HR.out,by simpa using HB.out⟩
    case measure=>simp [intOf];omega
   ·have HP:Hid (one x=0):=by simp [Hid,one,h5]
    have HR:Hid (OwI wr w0.heap.size w0.heap.size n (part (cs.map one) (k+1))):=by rw [←HP0.out h5];exact HO.out
    clear HP1 HP0
    go_wp2
    go_roundw
    case rel=>exact ⟨k+1,by omega,by go_num,by rw [HS.out,HP.out];simp,HR.out,hbel⟩
    case measure=>simp [intOf];omega
  ·have hkn:k=n:=by omega
   subst hkn
   have hall:=HO.out
   have el:(cs.map one).length=k:=by rw [List.length_map];exact HL.out
   rw [show part (cs.map one) k=cs.map one from by rw [←el];exact part_all _] at hall
   have HA:Hid (OwI wr w0.heap.size w0.heap.size k (shares cs 0)):=hall
   have e:cs.take k=cs:=List.take_of_length_le (by rw [HL.out];exact Nat.le_refl _)
   have hF:=sumF_bnd one 1 one_bnd cs
   rw [HL.out] at hF
   rw [e]
   clear hall HO el e
   generalize hS:sumF one cs=S at *
   have HS:Hid (sumF one cs=S):=hS
   clear hS
   by_cases hsm:1≤S∧S≤64
   ·have HFA:Hid (∀ j,Fair cs (shares cs j) j):=fun j=>fair_all (some1_of (by rw [HS.out];exact hsm.1)) j
    have HPI:Hid (∀ ns,0≤pick cs ns k∧(pick cs ns k).toNat<k):=fun ns=>by have:=pick_in (ns:=ns) (some1_of (cs:=cs) (by rw [HS.out];exact hsm.1));rw [HL.out] at this;exact ⟨this.1,this.2.1⟩
    have HPS:Hid (roomy cs):=by unfold Hid roomy;rw [HS.out];exact hsm
    have HR:Hid (rest cs=(64-S).toNat):=by unfold Hid rest;rw [HS.out]
    go_wp2
    go_loopw [5] (fun x wr=>∃ j:Nat,S+j≤64∧x=.int .i64 (S+j)∧OwI wr w0.heap.size w0.heap.size k (shares cs j)∧Below w0.heap.size w0 wr) (fun x _=>64-(intOf x).toNat)
    case atStart=>exact ⟨0,by omega,by simp,HA.out,hbel⟩
    case round=>
     obtain ⟨j,hj,rfl,hown,hbel2⟩:=hrel
     have HO:Hid (OwI wr w0.heap.size w0.heap.size k (shares cs j)):=hown
     clear hown
     by_cases hlt2:S+j<64
     ·go_wp2_with fail
      refine (HND.out _ _ (shares cs j) j wr (hb.below hbel2 nl) HO.out.byt (by omega) (HFA.out j)).mono ?_
      rintro e w3 ⟨rfl,m3,rfl⟩
      have hbel3:Below w0.heap.size w0 (wr.drewN m3):=below_drewNN hbel2 m3
      have HO3:Hid (OwI (wr.drewN m3) w0.heap.size w0.heap.size k (shares cs j)):=HO.out.drewN m3
      clear hbel2 HO
      generalize wr.drewN m3=w3 at *
      have hpi:=HPI.out (shares cs j)
      have hbn:=(HFA.out j).bnd (pick cs (shares cs j) k).toNat
      have hst:shares cs (j+1)=(shares cs j).set (pick cs (shares cs j) k).toNat ((shares cs j).getD (pick cs (shares cs j) k).toNat 0+1):=by
       show give cs (shares cs j)=_
       unfold give bump
       rw [HL.out]
      generalize pick cs (shares cs j) k=p at *
      obtain ⟨q,rfl⟩:∃ q:Nat,p=q:=⟨p.toNat,by omega⟩
      simp only [Int.toNat_natCast] at *
      have hdst:=HO3.out.cell q (by rw [(HFA.out j).1,HL.out];omega)
      have hfz:=HO3.out.frozen q
      have R:=HO3.out.store q ((shares cs j).getD q 0+1) (by omega)
      rw [←hst] at R
      clear hst
      generalize (shares cs j).getD q 0=v at *
      have HR2:Hid (OwI (w3.setCell ⟨w0.heap.size,q,none⟩ (.int .i64 (v+1))) w0.heap.size w0.heap.size k (shares cs (j+1))):=R
      have HB:Hid (Below w0.heap.size w0 (w3.setCell ⟨w0.heap.size,q,none⟩ (.int .i64 (v+1)))):=hbel3.setCell (p:=⟨w0.heap.size,q,none⟩) nl (.int .i64 (v+1))
      clear R
      go_wp2
      go_roundw
      case rel=>exact ⟨j+1,by omega,by go_num,by simpa using HR2.out,by simpa using HB.out⟩
      case measure=>simp [intOf];omega
     ·have hje:(64-S).toNat=j:=by omega
      have HF2:Hid (OwI wr w0.heap.size w0.heap.size k (shares cs (rest cs))):=by rw [HR.out,hje];exact HO.out
      go_wp2
      exact bodyPost_ret (v:=.tuple #[.slice (some ⟨w0.heap.size,0,none⟩) k k,.bool true]) (by simp [results,Tryz.results99,go_sem]) rfl ⟨hbel2,fun h=>absurd HPS.out h,fun _=>⟨rfl,HF2.out⟩⟩
   ·have HNS:Hid (¬roomy cs):=by unfold Hid roomy;rw [HS.out];exact hsm
    by_cases hs0:S<1
    ·go_wp2
     exact bodyPost_ret (v:=.tuple #[.slice none 0 0,.bool false]) (by simp [results,Tryz.results99,go_sem]) rfl ⟨hbel,fun _=>rfl,fun h=>absurd h HNS.out⟩
    ·have hs64:64<S:=by omega
     go_wp2
     exact bodyPost_ret (v:=.tuple #[.slice none 0 0,.bool false]) (by simp [results,Tryz.results99,go_sem]) rfl ⟨hbel,fun _=>rfl,fun h=>absurd h HNS.out⟩
def Mono (cs ns:List Int):Prop:=∀ i k,i<cs.length→k<cs.length→cs.getD k 0<cs.getD i 0→ns.getD k 0≤ns.getD i 0
theorem sum_setN (cs:List Int) (i:Nat) (v:Int) (h:i<cs.length):(cs.set i v).sum=cs.sum-cs.getD i 0+v:=by
 induction cs generalizing i with
 | nil=>simp at h
 | cons c cs ih=>
  cases i with
  | zero=>simp;omega
  | succ i=>
   have:=ih i (by simpa using h)
   simp only [List.set_cons_succ,List.sum_cons,this]
   simp
   omega
theorem shares_sum {cs:List Int} (hs:some1 cs) (j:Nat):(shares cs j).sum=sumF one cs+j:=by
 induction j with
 | zero=>simp [shares,sumF]
 | succ j ih=>
  obtain ⟨p1,p2,p3⟩:=pick_in (ns:=shares cs j) hs
  show (give cs (shares cs j)).sum=_
  unfold give bump
  rw [sum_setN _ _ _ (by rw [(fair_all hs j).1];exact p2),ih]
  omega
theorem shares_norm {cs:List Int} (hc:cntB cs=true) (hr:roomy cs):normB (shares cs (rest cs))=true:=by
 have hs:=some1_of hr.1
 have hf:=fair_all hs (rest cs)
 have hb:=cntB_bndN hc
 simp only [normB,decide_eq_true_eq]
 rw [hf.1]
 refine ⟨hb.1,hb.2,fun z hz=>?_,?_⟩
 ·have h1:=hf.rng z hz
  have h2:=hr.1
  unfold rest at h1
  omega
 ·rw [shares_sum hs]
  have h1:=hr.1
  have h2:=hr.2
  unfold rest
  omega
def rvp (c L:Nat):Nat→Nat
 | 0=>0
 | j+1=>rvp c L j+(c / 2 ^ (L-1-j) % 2)*2 ^ j
theorem rvp_lt (c L j:Nat):rvp c L j<2 ^ j:=by
 induction j with
 | zero=>simp [rvp]
 | succ j ih=>
  simp only [rvp]
  have h1:c / 2 ^ (L-1-j) % 2≤1:=by omega
  have h2:(c / 2 ^ (L-1-j) % 2)*2 ^ j≤1*2 ^ j:=Nat.mul_le_mul_right _ h1
  rw [Nat.pow_succ]
  omega
theorem rvp_congr {c d L M j:Nat} (h:∀ i,i<j→c / 2 ^ (L-1-i) % 2=d / 2 ^ (M-1-i) % 2):rvp c L j=rvp d M j:=by
 induction j with
 | zero=>rfl
 | succ j ih=>
  simp only [rvp]
  rw [ih (fun i hi=>h i (by omega)),h j (by omega)]
theorem rvp_split (x a b j:Nat) (hj:j≤b):rvp x (a+b) (a+j)=rvp x (a+b) a+2 ^ a*rvp x b j:=by
 induction j with
 | zero=>simp [rvp]
 | succ j ih=>
  rw [show a+(j+1)=(a+j)+1 from rfl]
  simp only [rvp]
  rw [ih (by omega),show a+b-1-(a+j)=b-1-j from by omega,Nat.pow_add,Nat.mul_add]
  have e:x / 2 ^ (b-1-j) % 2*(2 ^ a*2 ^ j)=2 ^ a*(x / 2 ^ (b-1-j) % 2*2 ^ j):=by rw [Nat.mul_left_comm]
  rw [e]
  omega
theorem rvp_shift (x L:Nat) (h:L≤16):rvp x 16 16 / 2 ^ (16-L)=rvp x L L:=by
 have h1:=rvp_split x (16-L) L L nl
 rw [show 16-L+L=16 from by omega] at h1
 rw [h1,Nat.add_mul_div_left _ _ (Nat.pow_pos (by omega)),Nat.div_eq_of_lt (rvp_lt _ _ _),Nat.zero_add]
theorem bit_mod (c k i:Nat) (h:i<k):c % 2 ^ k / 2 ^ i % 2=c / 2 ^ i % 2:=by
 have e:2 ^ k=2 ^ i*2 ^ (k-i):=by rw [←Nat.pow_add];congr 1;omega
 rw [e,Nat.mod_mul_right_div_self]
 have d:2 ∣ 2 ^ (k-i):=⟨2 ^ (k-i-1),by rw [←Nat.pow_succ'];congr 1;omega⟩
 exact Nat.mod_mod_of_dvd _ d
theorem rvp_mod (c L k:Nat) (h:L≤k):rvp (c % 2 ^ k) L L=rvp c L L:=rvp_congr (fun i hi=>bit_mod c k (L-1-i) (by omega))
theorem rvp_16 (x:Nat):rvp x 16 16=rvp (x / 256) 8 8+256*rvp (x % 256) 8 8:=by
 have h1:=rvp_split x 8 8 8 nl
 have h2:rvp x (8+8) 8=rvp (x / 256) 8 8:=rvp_congr (fun i hi=>by
  rw [show 8+8-1-i=8+(8-1-i) from by omega,Nat.pow_add,←Nat.div_div_eq_div_mul])
 have h3:=rvp_mod x 8 8 nl
 rw [show (8:Nat)+8=16 from rfl] at h1 h2
 rw [h1,h2,show 256=2 ^ 8 from rfl,h3]
theorem u16_and (a:Nat) (h:a<65536):bits .and .u16 (a:Int) 255=((a % 256:Nat):Int):=by
 have e:bits .and .u16 (a:Int) 255=IntKind.u16.wrap ((BitVec.ofInt 16 (a:Int) &&& BitVec.ofInt 16 255).toNat:Int):=rfl
 rw [e,BitVec.toNat_and]
 have e1:(BitVec.ofInt 16 (a:Int)).toNat=a:=by rw [BitVec.ofInt_natCast,BitVec.toNat_ofNat];exact Nat.mod_eq_of_lt (by omega)
 have e2:(BitVec.ofInt 16 255).toNat=2 ^ 8-1:=by decide
 rw [e1,e2,Nat.and_two_pow_sub_one_eq_mod]
 exact IntWalk.u16_in _ (by omega)
theorem u16_or (a b:Nat) (ha:a<256) (hb:b<256):bits .or .u16 (a:Int) ((b*256:Nat):Int)=((a+256*b:Nat):Int):=by
 have e:bits .or .u16 (a:Int) ((b*256:Nat):Int)=IntKind.u16.wrap ((BitVec.ofInt 16 (a:Int) ||| BitVec.ofInt 16 ((b*256:Nat):Int)).toNat:Int):=rfl
 rw [e,BitVec.toNat_or]
 have e1:(BitVec.ofInt 16 (a:Int)).toNat=a:=by rw [BitVec.ofInt_natCast,BitVec.toNat_ofNat];exact Nat.mod_eq_of_lt (by omega)
 have e2:(BitVec.ofInt 16 ((b*256:Nat):Int)).toNat=b*256:=by rw [BitVec.ofInt_natCast,BitVec.toNat_ofNat];exact Nat.mod_eq_of_lt (by omega)
 have e3:a ||| b*256=a+256*b:=by
  rw [Nat.or_comm,Nat.mul_comm,show 256=2 ^ 8 from rfl,←Nat.two_pow_add_eq_or_of_lt (by omega)]
  omega
 rw [e1,e2,e3]
 exact IntWalk.u16_in _ (by omega)
set_option maxRecDepth 100000 in
theorem rev16_any (y z:Nat) (w:World) (hy:y<256) (hz:z<256) :
  Calls Tryz.prog 147 #[.int .u16 ((y*256+z:Nat):Int)] w fun e w'=>e=.returned (.int .u16 ((rvp y 8 8+256*rvp z 8 8:Nat):Int))∧∃ m,w'=w.drewN m:=by
 have h1:bits .and .u16 ((y*256+z:Nat):Int) 255=((z:Nat):Int):=by
  rw [u16_and _ (by omega)]
  congr 1
  omega
 have h2:(((y*256+z:Nat):Int)) / 256=((y:Nat):Int):=by omega
 have hyI:(y:Int)<256:=by omega
 have hzI:(z:Int)<256:=by omega
 generalize ((y*256+z:Nat):Int)=x at *
 go_enter Tryz.func147,Tryz.ntmps147
 go_wp2
 go_quiet (fail)
 go_wp2
 go_ret
 refine ⟨ret_int ?_,_,rfl⟩
 have e:∀ (n:Nat) (S:ByteArray) (h:n<S.size),S[n]=S.data.toList.getD n 0:=by
  intro n S h
  have h':n<S.data.toList.length:=by simpa using h
  rw [List.getD_eq_getElem?_getD,List.getElem?_eq_getElem h']
  rfl
 rw [e y,e z]
 clear e h1 h2 hyI hzI
 have H:∀ (L:List UInt8),(∀ n:Nat,n<256→(L.getD n 0).toNat=rvp n 8 8)→bits .or .u16 (IntKind.u16.wrap ((L.getD y 0).toNat:Int)) (IntKind.u16.wrap (IntKind.u16.wrap ((L.getD z 0).toNat:Int)*256))=((rvp y 8 8+256*rvp z 8 8:Nat):Int):=by
  intro L hL
  rw [hL y hy,hL z hz]
  have r1:rvp y 8 8<256:=rvp_lt y 8 8
  have r2:rvp z 8 8<256:=rvp_lt z 8 8
  generalize rvp y 8 8=p at *
  generalize rvp z 8 8=q at *
  rw [IntWalk.u16_in (p:Int) (by omega),IntWalk.u16_in (q:Int) (by omega),IntWalk.u16_in ((q:Int)*256) (by omega),show ((q:Int)*256)=((q*256:Nat):Int) from by simp]
  exact u16_or p q r1 r2
 exact H _ (by decide +kernel)
theorem rev16_rvp (c:Nat) (w:World) (h:c<65536) :
  Calls Tryz.prog 147 #[.int .u16 (c:Int)] w fun e w'=>e=.returned (.int .u16 ((rvp c 16 16:Nat):Int))∧∃ m,w'=w.drewN m:=by
 have:=rev16_any (c / 256) (c % 256) w (by omega) (by omega)
 rw [show c / 256*256+c % 256=c from by omega,←rvp_16 c] at this
 exact this
theorem addr_add (b off j:Nat):(⟨b,off,none⟩:Addr).add j=⟨b,off+j,none⟩:=by unfold Addr.add;split <;> simp_all
theorem news_of {w:World} {b off:Nat} {zs:List Int} (hc:∀ i,i<zs.length→w.cell? ⟨b,off+i,none⟩=some (.int .u8 (zs.getD i 0))) :
  ∀ j u,(zs.map (Value.int .u8))[j]?=some u→w.cell? ((⟨b,off,none⟩:Addr).add j)=some u:=by
 intro j u hu
 have hj:j<zs.length:=by
  rcases Nat.lt_or_ge j zs.length with h | h
  ·exact h
  ·rw [List.getElem?_eq_none (by simpa using h)] at hu;cases hu
 rw [addr_add,hc j hj]
 simp [hj] at hu
 simp [hj,←hu]
theorem oneCells (zs:List Int):∀ u ∈ zs.map (Value.int .u8),u.oneCell'=true:=by
 intro u hu
 simp only [List.mem_map] at hu
 obtain ⟨z,_,rfl⟩:=hu
 rfl
end Go.Proofs.YtfeokafkhnbdiaaGreatDoor
namespace Go.Proofs.YtfeokafkhnbdiaaGreatDoor
def val :List Int→Nat
 | []=>0
 | z :: r=>z.toNat+256*val r
def encL :Nat→Nat→List Int
 | 0,_=>[]
 | k+1,v=>((v % 256:Nat):Int) :: encL k (v / 256)
def enc (n v:Nat):List Int:=encL ((n+7) / 8) v
theorem encL_len (k v:Nat):(encL k v).length=k:=by
 induction k generalizing v with
 | zero=>rfl
 | succ k ih=>simp [encL,ih]
theorem enc_len (n v:Nat):(enc n v).length=(n+7) / 8:=encL_len _ _
theorem encL_rng (k v:Nat):∀ z ∈ encL k v,0≤z∧z≤255:=by
 induction k generalizing v with
 | zero=>intro z hz;cases hz
 | succ k ih=>
  intro z hz
  simp only [encL,List.mem_cons] at hz
  rcases hz with rfl | hz
  ·omega
  ·exact ih _ z hz
theorem encL_get (k v i:Nat) (h:i<k):(encL k v).getD i 0=((v / 256 ^ i % 256:Nat):Int):=by
 induction k generalizing v i with
 | zero=>omega
 | succ k ih=>
  cases i with
  | zero=>simp [encL]
  | succ i=>
   have:=ih (v / 256) i (by omega)
   simp only [encL,List.getD_cons_succ,this]
   rw [Nat.div_div_eq_div_mul,Nat.pow_succ,Nat.mul_comm]
theorem val_encL (k v:Nat):val (encL k v)=v % 256 ^ k:=by
 induction k generalizing v with
 | zero=>simp [encL,val,Nat.mod_one]
 | succ k ih=>
  simp only [encL,val,ih,Int.toNat_natCast]
  rw [Nat.pow_succ,Nat.mul_comm (256 ^ k) 256,Nat.mod_mul]
theorem encL_val (zs:List Int) (h:∀ z ∈ zs,0≤z∧z≤255):encL zs.length (val zs)=zs:=by
 induction zs with
 | nil=>rfl
 | cons z r ih=>
  have hz:=h z (by simp)
  have hr:=ih (fun y hy=>h y (by simp [hy]))
  simp only [List.length_cons,encL,val]
  rw [show (z.toNat+256*val r) % 256=z.toNat from by omega,show (z.toNat+256*val r) / 256=val r from by omega,hr]
  congr 1
  omega
theorem val_lt (zs:List Int) (h:∀ z ∈ zs,0≤z∧z≤255):val zs<256 ^ zs.length:=by
 induction zs with
 | nil=>simp [val]
 | cons z r ih=>
  have hz:=h z (by simp)
  have hr:=ih (fun y hy=>h y (by simp [hy]))
  simp only [List.length_cons,val,Nat.pow_succ]
  omega
theorem encL_mod (k v:Nat):encL k (v % 256 ^ k)=encL k v:=by
 have:=encL_val (encL k v) (encL_rng k v)
 rwa [encL_len,val_encL] at this
theorem encL_append (k v:Nat):encL (k+1) v=encL k v++[((v / 256 ^ k % 256:Nat):Int)]:=by
 induction k generalizing v with
 | zero=>simp [encL]
 | succ k ih=>
  rw [encL,ih (v / 256)]
  simp only [encL,List.cons_append]
  rw [Nat.div_div_eq_div_mul,Nat.pow_succ,Nat.mul_comm (256 ^ k) 256]
theorem pow256 (k:Nat):256 ^ k=2 ^ (8*k):=by
 rw [Nat.pow_mul]
theorem enc_bit (n v p:Nat) (hp:p<n):(((enc n v).getD (p / 8) 0).toNat / 2 ^ (p % 8)) % 2=v / 2 ^ p % 2:=by
 rw [enc,encL_get _ _ _ (by omega),Int.toNat_natCast,pow256]
 have h1:v / 2 ^ p=v / 2 ^ (8*(p / 8)) / 2 ^ (p % 8):=by
  rw [Nat.div_div_eq_div_mul,←Nat.pow_add]
  congr 2
  omega
 rw [h1]
 generalize v / 2 ^ (8*(p / 8))=u
 have hq:p % 8<8:=Nat.mod_lt _ (by omega)
 generalize p % 8=q at hq
 have h256:256=2 ^ q*2 ^ (8-q):=by rw [←Nat.pow_add,show q+(8-q)=8 from by omega]
 rw [h256,Nat.mod_mul_right_div_self]
 obtain ⟨r,hr⟩:∃ r,8-q=r+1:=⟨7-q,by omega⟩
 rw [hr,Nat.pow_succ,Nat.mul_comm (2 ^ r) 2,Nat.mod_mul_right_mod]
theorem enc_step (n v s c:Nat) (hv:v<2 ^ n) (hc:c<2 ^ s) (hs:0<s) (h8:n % 8+s≤8) :
  enc (n+s) (v+c*2 ^ n)=(if n % 8=0 then enc n v++[0] else enc n v).set (n / 8) (((v / 256 ^ (n / 8)+c*2 ^ (n % 8):Nat):Int)):=by
 have hk:(n+s+7) / 8=n / 8+1:=by omega
 have hpow:2 ^ n=256 ^ (n / 8)*2 ^ (n % 8):=by
  rw [pow256,←Nat.pow_add,show 8*(n / 8)+n % 8=n from by omega]
 have hlow:encL (n / 8) (v+c*2 ^ n)=encL (n / 8) v:=by
  rw [←encL_mod,hpow,Nat.mul_left_comm,Nat.add_mul_mod_self_left,encL_mod]
 have hdiv:(v+c*2 ^ n) / 256 ^ (n / 8)=v / 256 ^ (n / 8)+c*2 ^ (n % 8):=by
  rw [hpow,Nat.mul_left_comm,Nat.add_mul_div_left _ _ (Nat.pow_pos (by omega))]
 have hvd:v / 256 ^ (n / 8)<2 ^ (n % 8):=by
  rw [Nat.div_lt_iff_lt_mul (Nat.pow_pos (by omega)),Nat.mul_comm,←hpow];exact hv
 have hlt:v / 256 ^ (n / 8)+c*2 ^ (n % 8)<256:=by
  have h1:(c+1)*2 ^ (n % 8)≤2 ^ s*2 ^ (n % 8):=Nat.mul_le_mul_right _ hc
  have h2:2 ^ s*2 ^ (n % 8)≤256:=by
   rw [←Nat.pow_add]
   have h3:2 ^ (s+n % 8)≤2 ^ 8:=Nat.pow_le_pow_right (by omega) (by omega)
   omega
  rw [Nat.add_mul,Nat.one_mul] at h1
  omega
 unfold enc
 rw [hk,encL_append,hlow,hdiv,Nat.mod_eq_of_lt hlt]
 by_cases h0:n % 8=0
 ·rw [if_pos h0,show (n+7) / 8=n / 8 from by omega]
  rw [List.set_append_right _ _ (by rw [encL_len];exact Nat.le_refl _),encL_len]
  simp
 ·rw [if_neg h0,show (n+7) / 8=n / 8+1 from by omega,encL_append]
  rw [List.set_append_right _ _ (by rw [encL_len];exact Nat.le_refl _),encL_len]
  simp
theorem enc_last (n v:Nat) (hv:v<2 ^ n) (h:n % 8≠0):(enc n v).getD (n / 8) 0=((v / 256 ^ (n / 8):Nat):Int):=by
 have hpow:2 ^ n=256 ^ (n / 8)*2 ^ (n % 8):=by
  rw [pow256,←Nat.pow_add,show 8*(n / 8)+n % 8=n from by omega]
 have hvd:v / 256 ^ (n / 8)<2 ^ (n % 8):=by
  rw [Nat.div_lt_iff_lt_mul (Nat.pow_pos (by omega)),Nat.mul_comm,←hpow];exact hv
 have h256:2 ^ (n % 8)≤2 ^ 8:=Nat.pow_le_pow_right (by omega) (by omega)
 rw [enc,encL_get _ _ _ (by omega),Nat.mod_eq_of_lt (by omega)]
theorem enc_top (n v:Nat) (hv:v<2 ^ n):v / 256 ^ (n / 8)<2 ^ (n % 8):=by
 have hpow:2 ^ n=256 ^ (n / 8)*2 ^ (n % 8):=by
  rw [pow256,←Nat.pow_add,show 8*(n / 8)+n % 8=n from by omega]
 rw [Nat.div_lt_iff_lt_mul (Nat.pow_pos (by omega)),Nat.mul_comm,←hpow];exact hv
theorem val_bits (n:Nat) (zs:List Int) (h:∀ z ∈ zs,0≤z∧z≤255) (hl:zs.length=(n+7) / 8) (ht:n % 8=0∨(zs.getD (zs.length-1) 0).toNat<2 ^ (n % 8)) :
  val zs<2 ^ n∧zs=enc n (val zs):=by
 have he:=encL_val zs h
 have hv:=val_lt zs h
 refine ⟨?_,by rw [enc,←hl,he]⟩
 by_cases h0:n % 8=0
 ·rw [hl,pow256,show 8*((n+7) / 8)=n from by omega] at hv
  exact hv
 ·have ht':=ht.resolve_left h0
  have hk:zs.length=n / 8+1:=by omega
  have hlast:zs.getD (zs.length-1) 0=((val zs / 256 ^ (n / 8) % 256:Nat):Int):=by
   have:=encL_get zs.length (val zs) (n / 8) (by omega)
   rw [he] at this
   rw [show zs.length-1=n / 8 from by omega]
   exact this
  rw [hlast,Int.toNat_natCast] at ht'
  have h256:val zs / 256 ^ (n / 8)<256:=by
   rw [Nat.div_lt_iff_lt_mul (Nat.pow_pos (by omega)),←Nat.pow_succ',show (n / 8).succ=zs.length from hk.symm];exact hv
  rw [Nat.mod_eq_of_lt h256,Nat.div_lt_iff_lt_mul (Nat.pow_pos (by omega)),pow256,←Nat.pow_add] at ht'
  rw [show n % 8+8*(n / 8)=n from by omega] at ht'
  exact ht'
theorem put_lt (n v s c:Nat) (hv:v<2 ^ n) (hc:c<2 ^ s):v+c*2 ^ n<2 ^ (n+s):=by
 have h1:(c+1)*2 ^ n≤2 ^ s*2 ^ n:=Nat.mul_le_mul_right _ hc
 rw [Nat.add_mul,Nat.one_mul,←Nat.pow_add,Nat.add_comm s n] at h1
 omega
theorem put_part (n v x i s:Nat):v+(x % 2 ^ i)*2 ^ n+(x / 2 ^ i % 2 ^ s)*2 ^ (n+i)=v+(x % 2 ^ (i+s))*2 ^ n:=by
 have h:x % 2 ^ (i+s)=x % 2 ^ i+2 ^ i*(x / 2 ^ i % 2 ^ s):=by rw [Nat.pow_add,Nat.mod_mul]
 rw [h,Nat.add_mul,Nat.pow_add,Nat.add_assoc]
 congr 2
 rw [Nat.mul_comm (2 ^ i),Nat.mul_assoc,Nat.mul_comm (2 ^ i)]
theorem get_up (v at' i:Nat):v / 2 ^ at' % 2 ^ (i+1)=v / 2 ^ at' % 2 ^ i+(v / 2 ^ (at'+i) % 2)*2 ^ i:=by
 rw [Nat.pow_add 2 i 1,Nat.mod_mul,Nat.pow_one,Nat.div_div_eq_div_mul,←Nat.pow_add,Nat.mul_comm (2 ^ i)]
end Go.Proofs.YtfeokafkhnbdiaaGreatDoor
namespace Go.Proofs.YtfeokafkhnbdiaaGreatDoor
open Go.RowKit
theorem ofInt_i64 (a:Nat) (ha:a<9223372036854775808):(BitVec.ofInt 64 (a:Int)).toNat=a:=by
 rw [BitVec.ofInt_natCast,BitVec.toNat_ofNat];exact Nat.mod_eq_of_lt (by omega)
theorem i64_and_nat (a b:Nat) (ha:a<9223372036854775808) (hb:b<9223372036854775808):bits .and .i64 (a:Int) (b:Int)=((a &&& b:Nat):Int):=by
 have hx:a &&& b<2 ^ 63:=Nat.and_lt_two_pow _ (by omega)
 show IntKind.i64.wrap ((BitVec.ofInt 64 (a:Int) &&& BitVec.ofInt 64 (b:Int)).toNat:Int)=_
 rw [BitVec.toNat_and,ofInt_i64 a ha,ofInt_i64 b hb,IntKind.wrap_i64]
 omega
theorem i64_or_nat (a b:Nat) (ha:a<9223372036854775808) (hb:b<9223372036854775808):bits .or .i64 (a:Int) (b:Int)=((a ||| b:Nat):Int):=by
 have hx:a ||| b<2 ^ 63:=Nat.or_lt_two_pow (by omega) (by omega)
 show IntKind.i64.wrap ((BitVec.ofInt 64 (a:Int) ||| BitVec.ofInt 64 (b:Int)).toNat:Int)=_
 rw [BitVec.toNat_or,ofInt_i64 a ha,ofInt_i64 b hb,IntKind.wrap_i64]
 omega
theorem bit64 (z:Int) (k:Nat) (h:0≤z∧z≤255):bits .and .i64 (wrap64 (z / 2 ^ k)) 1=((z.toNat / 2 ^ k % 2:Nat):Int):=by
 obtain ⟨n,rfl⟩:=Int.eq_ofNat_of_zero_le h.1
 have e:((n:Int) / 2 ^ k)=((n / 2 ^ k:Nat):Int):=by simp
 have hle:n / 2 ^ k≤n:=Nat.div_le_self _ _
 rw [e,Int.toNat_natCast]
 generalize n / 2 ^ k=m at *
 rw [IntWalk.wrap64_in _ (by omega)]
 have:=i64_and_nat m 1 (by omega) (by omega)
 rw [show ((1:Nat):Int)=1 from rfl] at this
 rw [this,nat_mask1]
theorem or_bit64 (n b i:Nat) (hn:n<2 ^ i) (hb:b≤1) (hi:i≤31):bits .or .i64 (n:Int) ((b*2 ^ i:Nat):Int)=((n+b*2 ^ i:Nat):Int):=by
 have h1:2 ^ i≤2 ^ 31:=Nat.pow_le_pow_right (by omega) hi
 have h2:b*2 ^ i≤1*2 ^ i:=Nat.mul_le_mul_right _ hb
 rw [i64_or_nat n (b*2 ^ i) (by omega) (by omega)]
 congr 1
 rw [Nat.or_comm,nat_join i _ _ (by simp) hn,Nat.add_comm]
theorem or_step64 (X j k:Nat) (z:Int) (hz:0≤z∧z≤255) (hx:X<2 ^ j) (hj:j≤31) :
  bits .or .i64 (X:Int) (wrap64 (bits .and .i64 (wrap64 (z / 2 ^ k)) 1*2 ^ j))=((X+z.toNat / 2 ^ k % 2*2 ^ j:Nat):Int):=by
 rw [bit64 z k hz]
 have hb:z.toNat / 2 ^ k % 2≤1:=by omega
 generalize z.toNat / 2 ^ k % 2=bt at *
 have e:((bt:Nat):Int)*2 ^ j=((bt*2 ^ j:Nat):Int):=by simp
 have h1:2 ^ j≤2 ^ 31:=Nat.pow_le_pow_right (by omega) hj
 have h2:bt*2 ^ j≤1*2 ^ j:=Nat.mul_le_mul_right _ hb
 have h3:=or_bit64 X bt j hx hb hj
 rw [e]
 generalize bt*2 ^ j=y at *
 rw [IntWalk.wrap64_in _ (by omega)]
 exact h3
theorem or_u8 (old x u:Nat) (ho:old<2 ^ u) (hx:x % 2 ^ u=0) (h8:x<256) (h9:old<256):bits .or .u8 (old:Int) (x:Int)=((old+x:Nat):Int):=by
 rw [u8_or_nat old x h9 h8]
 congr 1
 rw [Nat.or_comm,nat_join u _ _ hx ho,Nat.add_comm]
set_option linter.unusedVariables false
def OwnV (w:World) (B:Nat) (v:Value) (zs:List Int):Prop:=w.ownsRow B 5 1 v zs.length (zs.map (Value.int .u8))∧∀ z ∈ zs,0≤z∧z≤255
theorem OwnV.form {w:World} {B:Nat} {v:Value} {zs:List Int} (h:OwnV w B v zs) (hp:0<zs.length):∃ g cap,v=.slice (some ⟨g,0,none⟩) zs.length cap∧Own w B g cap zs:=by
 obtain ⟨g,cap,rfl,_,_⟩:=h.1.form hp
 exact ⟨g,cap,rfl,h⟩
theorem Own.v {w:World} {B g cap:Nat} {zs:List Int} (h:Own w B g cap zs):OwnV w B (.slice (some ⟨g,0,none⟩) zs.length cap) zs:=h
theorem Own.ne {w:World} {B g cap R:Nat} {zs:List Int} {cur:Array Value} {T:TypeId} (h:Own w B g cap zs) (hR:w.heap[R]?=some (.cells cur T (0,0))) (hT:T≠5):g≠R:=by
 rintro rfl
 rcases h.1.2 with ⟨h',_⟩ | ⟨g',cap',cur',h',hg,hh,r⟩
 ·simp at h'
 ·have e:g'=g:=by simp at h';exact h'.1.symm
  subst e
  rw [hR] at hh
  simp at hh
  exact hT hh.2
theorem cellR {w:World} {R j:Nat} {cur:Array Value} {T:TypeId} {v:Value} (hR:w.heap[R]?=some (.cells cur T (0,0))) (hv:cur[j]?=some v):w.cell? ⟨R,j,none⟩=some v:=by
 rw [cell_of_row w R j cur T (0,0) hR];exact hv
theorem frozenR {w:World} {R j:Nat} {cur:Array Value} {T:TypeId} (hR:w.heap[R]?=some (.cells cur T (0,0))):w.frozen? ⟨R,j,none⟩=false:=frozen_of_row w R j cur T hR
theorem put_bit (old X k u:Nat) (hu:u<8) (ho:old<2 ^ u) (hX:X≤1073741824) :
  bits .or .u8 (old:Int) (bits .and .i64 ((X:Int) / 2 ^ k) 1 % 256*2 ^ u % 256)=((old+X / 2 ^ k % 2*2 ^ u:Nat):Int):=by
 have e:((X:Int) / 2 ^ k)=((X / 2 ^ k:Nat):Int):=by simp
 have hle:X / 2 ^ k≤X:=Nat.div_le_self _ _
 have h1:=i64_and_nat (X / 2 ^ k) 1 (by omega) (by omega)
 rw [show ((1:Nat):Int)=1 from rfl,nat_mask1] at h1
 rw [e,h1]
 have hb:X / 2 ^ k % 2≤1:=by omega
 generalize X / 2 ^ k % 2=bt at *
 have h2:2 ^ u≤2 ^ 7:=Nat.pow_le_pow_right (by omega) (by omega)
 have h3:bt*2 ^ u≤1*2 ^ u:=Nat.mul_le_mul_right _ hb
 have e2:(((bt:Nat):Int) % 256*2 ^ u % 256)=((bt*2 ^ u:Nat):Int):=by
  have:((bt:Nat):Int) % 256=(bt:Int):=by omega
  rw [this,show ((bt:Int)*2 ^ u)=((bt*2 ^ u:Nat):Int) from by simp]
  omega
 rw [e2]
 exact or_u8 old (bt*2 ^ u) u ho (by simp) (by omega) (by omega)
theorem put_close {w W:World} {B g cap R q L:Nat} {v:Value} {Z Z':List Int} {b:Int} (hR:W.heap[R]?=some (.cells #[.slice (some ⟨g,0,none⟩) L cap,.int .i64 (q:Nat)] 40 (0,0)))
  (hZ:Z.length=L) (hown:Own W B g cap Z) (hnext:Z'=Z.set (q / 8) b) (hb:0≤b∧b≤255) (honly:Only (fun k=>k=R∨v.ownBlock=some k) w W)
  (hrow:v.ownBlock=some g∨w.heap.size≤g) :
  ((W.setCell ⟨g,q / 8,none⟩ (.int .u8 b)).setCell ⟨R,1,none⟩ (.int .i64 ((q:Int)+1))).heap[R]?=some (.cells #[.slice (some ⟨g,0,none⟩) L cap,.int .i64 ((q+1:Nat):Int)] 40 (0,0)) ∧
  OwnV ((W.setCell ⟨g,q / 8,none⟩ (.int .u8 b)).setCell ⟨R,1,none⟩ (.int .i64 ((q:Int)+1))) B (.slice (some ⟨g,0,none⟩) L cap) Z' ∧
  Only (fun k=>k=R∨v.ownBlock=some k) w ((W.setCell ⟨g,q / 8,none⟩ (.int .u8 b)).setCell ⟨R,1,none⟩ (.int .i64 ((q:Int)+1)))∧(Value.slice (some ⟨g,0,none⟩) L cap).ownBlock=some g:=by
 have hne:=hown.ne hR (by decide)
 have h1:(W.setCell ⟨g,q / 8,none⟩ (.int .u8 b)).heap[R]?=some (.cells #[.slice (some ⟨g,0,none⟩) L cap,.int .i64 (q:Nat)] 40 (0,0)):=by
  rw [Below.heap_setCell _ _ _ _ (by simpa using hne.symm)];exact hR
 have h2:=hown.store (q / 8) b hb
 have h3:=Own.setCell_other h2 (p:=⟨R,1,none⟩) (by simpa using hne.symm) (.int .i64 ((q:Int)+1))
 refine ⟨?_,?_,?_,rfl⟩
 ·rw [heap_setCell_same _ R 1 _ _ _ h1];simp
 ·rw [hnext]
  have hl:(Z.set (q / 8) b).length=L:=by rw [List.length_set];exact hZ
  have h4:=h3.v
  rw [hl] at h4
  exact h4
 ·refine Only.setCell (Only.setCell honly ?_ _) (.inl (.inl rfl)) _
  rcases hrow with h | h
  ·exact .inl (.inr h)
  ·exact .inr h
theorem app_keep {wr w1:World} {o b:Obj} {row:Option Nat} {R:Nat} (hg:(wr.alloc o).grownBy w1 row) (hR:wr.heap[R]?=some b) (hne:some R≠row):w1.heap[R]?=some b:=by
 have hlt:R<wr.heap.size:=(Array.getElem?_eq_some_iff.1 hR).1
 rw [hg.block R (by simp;omega) hne,Below.heap_alloc wr o R hlt]
 exact hR
theorem put_grown {w wr w1:World} {o:Obj} {B R q g cap:Nat} {au:Option Addr} {cu:Nat} {v:Value} {Z:List Int} (hR:wr.heap[R]?=some (.cells #[.slice au (q / 8) cu,.int .i64 (q:Nat)] 40 (0,0)))
  (hne:some R≠(Value.slice au (q / 8) cu).ownBlock) (hZ:∀ z ∈ Z,0≤z∧z≤255) (hl:Z.length=q / 8)
  (hg:(wr.alloc o).grownBy w1 (Value.slice au (q / 8) cu).ownBlock) (hown:w1.ownsRow B 5 1 (.slice (some ⟨g,0,none⟩) (q / 8+1) cap) (q / 8+1) (Z.map (Value.int .u8)++[.int .u8 0]))
  (hat:(Value.slice au (q / 8) cu).ownBlock=some g∨g=(wr.alloc o).heap.size) (honly:Only (fun k=>k=R∨v.ownBlock=some k) w wr) (hRl:R<w.heap.size)
  (hrow:(Value.slice au (q / 8) cu).ownBlock=v.ownBlock∨∃ k,(Value.slice au (q / 8) cu).ownBlock=some k∧w.heap.size≤k) :
  (w1.setCell ⟨R,0,none⟩ (.slice (some ⟨g,0,none⟩) (q / 8+1) cap)).heap[R]?=some (.cells #[.slice (some ⟨g,0,none⟩) (q / 8+1) cap,.int .i64 (q:Nat)] 40 (0,0)) ∧
  Own (w1.setCell ⟨R,0,none⟩ (.slice (some ⟨g,0,none⟩) (q / 8+1) cap)) B g cap (Z++[0]) ∧
  Only (fun k=>k=R∨v.ownBlock=some k) w (w1.setCell ⟨R,0,none⟩ (.slice (some ⟨g,0,none⟩) (q / 8+1) cap))∧(v.ownBlock=some g∨w.heap.size≤g):=by
 have hR1:=app_keep hg hR hne
 have ho:Own w1 B g cap (Z++[0]):=by
  refine ⟨?_,?_⟩
  ·have e:(Z++[0]).length=q / 8+1:=by simp [hl]
   rw [e]
   simpa using hown
  ·intro z hz
   simp only [List.mem_append,List.mem_singleton] at hz
   rcases hz with hz | rfl
   ·exact hZ z hz
   ·omega
 have hgR:=ho.ne hR1 (by decide)
 have hsz:=honly.size
 refine ⟨?_,ho.setCell_other (by simpa using hgR.symm) _,?_,?_⟩
 ·rw [heap_setCell_same _ R 0 _ _ _ hR1];simp
 ·refine Only.setCell (Only.grown (honly.alloc o) hg ?_) (.inl (.inl rfl)) _
  intro k hk
  rcases hrow with h | ⟨k',h,h'⟩
  ·exact .inl (.inr (h.symm.trans hk))
  ·right
   rw [h] at hk
   simp at hk
   omega
 ·rcases hat with h | h
  ·rcases hrow with h' | ⟨k',h',h''⟩
   ·exact .inl (h'.symm.trans h)
   ·right
    rw [h'] at h
    simp at h
    omega
  ·right
   rw [h]
   simp
   omega
theorem l1put_any (R B:Nat) (v:Value) (n V:Nat) (x width:Int) (w:World) (hR:w.heap[R]?=some (.cells #[v,.int .i64 n] 40 (0,0))) (hv:OwnV w B v (enc n V)) (hV:V<2 ^ n) (hB:B≤w.heap.size)
  (hx:0≤x) (hxb:x≤1073741824) (h1:0≤width) (h2:width≤30) (h3:n≤4104) :
  Calls Tryz.prog 52 #[.pointer (some ⟨R,0,none⟩),.int .i64 x,.int .i64 width] w fun e w'=>e=.returned (.tuple #[]) ∧
   ∃ v',w'.heap[R]?=some (.cells #[v',.int .i64 ((n+width.toNat:Nat):Int)] 40 (0,0))∧OwnV w' B v' (enc (n+width.toNat) (V+(x.toNat % 2 ^ width.toNat)*2 ^ n)) ∧
    Only (fun k=>k=R∨v.ownBlock=some k) w w'∧(v'.ownBlock=v.ownBlock∨∃ k,v'.ownBlock=some k∧w.heap.size≤k):=by
 obtain ⟨X,rfl⟩:=Int.eq_ofNat_of_zero_le hx
 obtain ⟨m,rfl⟩:=Int.eq_ofNat_of_zero_le h1
 simp only [Int.toNat_natCast] at *
 have hRlt:R<w.heap.size:=(Array.getElem?_eq_some_iff.1 hR).1
 have HR:Hid (w.heap[R]?=some (.cells #[v,.int .i64 n] 40 (0,0))):=hR
 have HV:Hid (OwnV w B v (enc n V)):=hv
 clear hR hv
 obtain ⟨i0,hi,hz0,hz1,hz2⟩:=info_parts Tryz.infoU8
 go_enter Tryz.func52,Tryz.ntmps52
 go_wp2
 go_loopw [6] (fun i wr=>∃ (k:Nat) (u:Value),k≤m∧i=.int .i64 k∧wr.heap[R]?=some (.cells #[u,.int .i64 ((n+k:Nat):Int)] 40 (0,0))∧OwnV wr B u (enc (n+k) (V+(X % 2 ^ k)*2 ^ n)) ∧
   Only (fun k=>k=R∨v.ownBlock=some k) w wr∧(u.ownBlock=v.ownBlock∨∃ k,u.ownBlock=some k∧w.heap.size≤k)) (fun i _=>m-(intOf i).toNat)
 case atStart=>exact ⟨0,v,Nat.zero_le _,rfl,HR.out,by simpa [Nat.mod_one] using HV.out,Only.refl _ _,.inl rfl⟩
 case round=>
  obtain ⟨k,u,hk,rfl,hRr,hur,honly,hrow⟩:=hrel
  by_cases hlt:k<m
  ·have hVk:V+X % 2 ^ k*2 ^ n<2 ^ (n+k):=put_lt n V k _ hV (Nat.mod_lt _ (Nat.pow_pos (by omega)))
   have hnext:=enc_step (n+k) (V+X % 2 ^ k*2 ^ n) 1 (X / 2 ^ k % 2) hVk (by omega) (by omega) (by omega)
   have hpart:=put_part n V X k 1
   rw [Nat.pow_one] at hpart
   rw [hpart] at hnext
   have htop:=enc_top (n+k) _ hVk
   have hlast:=enc_last (n+k) _ hVk
   have hlen:=enc_len (n+k) (V+X % 2 ^ k*2 ^ n)
   generalize hZp:enc (n+k+1) (V+X % 2 ^ (k+1)*2 ^ n)=Z' at *
   have HPART:Hid (enc (n+k+1) (V+X % 2 ^ (k+1)*2 ^ n)=Z'):=hZp
   clear hZp
   generalize (V+X % 2 ^ k*2 ^ n) / 256 ^ ((n+k) / 8)=old at *
   generalize enc (n+k) (V+X % 2 ^ k*2 ^ n)=Z at *
   have hq4:n+k≤4134:=by omega
   generalize hq:n+k=q at *
   have HQ:Hid (n+k=q):=hq
   clear hq hVk hpart hV
   have h256:2 ^ (q % 8)≤2 ^ 7:=Nat.pow_le_pow_right (by omega) (by omega)
   have hbt:X / 2 ^ k % 2*2 ^ (q % 8)≤1*2 ^ (q % 8):=Nat.mul_le_mul_right _ (by omega)
   have hbyte:=put_bit old X k (q % 8) (by omega) htop (by omega)
   have hrng:(0:Int)≤((old+X / 2 ^ k % 2*2 ^ (q % 8):Nat):Int)∧((old+X / 2 ^ k % 2*2 ^ (q % 8):Nat):Int)≤255:=by omega
   rw [←hbyte] at hrng
   rw [←hbyte] at hnext
   have HRNG:Hid (0≤bits .or .u8 (old:Int) (bits .and .i64 ((X:Int) / 2 ^ k) 1 % 256*2 ^ (q % 8) % 256)∧bits .or .u8 (old:Int) (bits .and .i64 ((X:Int) / 2 ^ k) 1 % 256*2 ^ (q % 8) % 256)≤255):=hrng
   clear hrng hbyte hbt h256
   by_cases h8:q % 8=0
   ·rw [if_pos h8] at hnext
    have hlen':Z.length=q / 8:=by omega
    have HNEXT:Hid (Z'=(Z++[0]).set (q / 8) (bits .or .u8 (old:Int) (bits .and .i64 ((X:Int) / 2 ^ k) 1 % 256*2 ^ (q % 8) % 256))):=hnext
    have hold:old=0:=by rw [h8] at htop;simp at htop;exact htop
    have hRl:R<wr.heap.size:=(Array.getElem?_eq_some_iff.1 hRr).1
    have hBw:B≤wr.heap.size:=Nat.le_trans hB honly.size
    have c0:wr.cell? ⟨R,0,none⟩=some u:=cellR (j:=0) hRr rfl
    have c1:wr.cell? ⟨R,1,none⟩=some (.int .i64 (q:Nat)):=cellR (j:=1) hRr rfl
    have h8':((q:Int) % 8 == 0)=true:=by simp;omega
    have hu:=hur.1
    rw [hlen'] at hu
    obtain ⟨au,cu,rfl⟩:∃ (x:Option Addr) (c:Nat),u=.slice x (q / 8) c:=by
     rcases hu.2 with ⟨rfl,h0⟩ | ⟨g',cap',cur',rfl,_⟩
     ·exact ⟨none,0,by rw [h0]⟩
     ·exact ⟨_,_,rfl⟩
    have HRR:Hid (wr.heap[R]?=some (.cells #[.slice au (q / 8) cu,.int .i64 ((q:Nat):Int)] 40 (0,0))):=hRr
    have HZR:Hid (∀ z ∈ Z,0≤z∧z≤255):=hur.2
    have HONLY:Hid (Only (fun k=>k=R∨v.ownBlock=some k) w wr):=honly
    have HROW:Hid ((Value.slice au (q / 8) cu).ownBlock=v.ownBlock∨∃ k,(Value.slice au (q / 8) cu).ownBlock=some k∧w.heap.size≤k):=hrow
    have HZL:Hid (Z.length=q / 8):=hlen'
    have huR:Hid (some R≠(Value.slice au (q / 8) cu).ownBlock):=by
     intro he
     rcases hu.2 with ⟨h',_⟩ | ⟨g',cap',cur',h',hg',hh,r⟩
     ·simp at h'
      rw [h'.1] at he
      simp [Value.ownBlock] at he
     ·simp at h'
      rw [h'.1] at he
      simp [Value.ownBlock] at he
      subst he
      rw [hRr] at hh
      simp at hh
    clear hnext hlast honly hrow hRr hlen hlen' hur
    go_wp2_with (at_builtin;(refine wpList_append_lies _ rfl (.tmp 22) (.tmp 23) 22 rfl B 5 i0 (.int .u8 0) 1 1 Tryz.underlying22 hi hz0 hz1 hz2 rfl (by decide) (.slice au (q / 8) cu) (q / 8) (Z.map (Value.int .u8)) rfl (hu.alloc _) ⟨wr.heap.size,0,none⟩ 1 1 [.int .u8 0] rfl rfl (by intro j y hj;match j,hj with | 0,hj=>(simp at hj;subst hj;simp [Addr.add])) (by intro y hy;simp at hy;subst hy;rfl) (by omega) (by unfold maxLen;omega) (by omega) (by simp;omega) _ rfl ?_);intro g cap w1 hown hgrow hat hlt1;have hR1:=app_keep hgrow HRR.out huR.out;have d0:=cellR (j:=0) hR1 rfl;have d1:=cellR (j:=1) hR1 rfl;have e0:=frozenR (j:=0) hR1)
    have G:=put_grown (v:=v) HRR.out huR.out HZR.out HZL.out hgrow hown hat HONLY.out hRlt HROW.out
    clear hown hgrow hat hR1 d0 d1 e0 c0 c1 hu hlt1
    generalize w1.setCell ⟨R,0,none⟩ (.slice (some ⟨g,0,none⟩) (q / 8+1) cap)=W at *
    obtain ⟨hRr,hown,honly,hrow'⟩:=G
    have hlen':(Z++[0]).length=q / 8+1:=by rw [List.length_append,HZL.out];rfl
    have CL:Hid _:=put_close (v:=v) hRr hlen' hown HNEXT.out HRNG.out honly hrow'
    have HROW2:Hid (v.ownBlock=some g∨w.heap.size≤g):=hrow'
    have hne:=hown.ne hRr (by decide)
    have c0:W.cell? ⟨R,0,none⟩=some (.slice (some ⟨g,0,none⟩) (q / 8+1) cap):=cellR (j:=0) hRr rfl
    have c1:W.cell? ⟨R,1,none⟩=some (.int .i64 (q:Nat)):=cellR (j:=1) hRr rfl
    have f1:=frozenR (j:=1) hRr
    have cg:W.cell? ⟨g,q / 8,none⟩=some (.int .u8 (old:Nat)):=by
     rw [hown.cell (q / 8) (by omega),hold]
     simp [←HZL.out]
    have fg:=hown.frozen (q / 8)
    clear hown honly hrow' hRr hlen' HNEXT HRNG h8 hold HRR HZR HONLY HROW HZL huR
    go_region
    go_wp2
    go_roundw
    case rel=>
     have C:=CL.out
     refine ⟨k+1,.slice (some ⟨g,0,none⟩) (q / 8+1) cap,by omega,by go_num,?_,?_,?_,?_⟩
     ·rw [show n+(k+1)=q+1 from by have:=HQ.out;omega];exact C.1
     ·rw [show n+(k+1)=q+1 from by have:=HQ.out;omega,HPART.out];exact C.2.1
     ·exact C.2.2.1.drew
     ·rcases HROW2.out with h | h
      ·exact .inl h.symm
      ·exact .inr ⟨g,rfl,h⟩
    case measure=>simp [intOf];omega
   ·rw [if_neg h8] at hnext
    have hlen':Z.length=q / 8+1:=by omega
    obtain ⟨g,cap,rfl,hown⟩:=hur.form (by omega)
    rw [hlen'] at hRr hrow
    have HNEXT:Hid (Z'=Z.set (q / 8) (bits .or .u8 (old:Int) (bits .and .i64 ((X:Int) / 2 ^ k) 1 % 256*2 ^ (q % 8) % 256))):=hnext
    have hrow':v.ownBlock=some g∨w.heap.size≤g:=by
     rcases hrow with h | ⟨kk,h,h'⟩
     ·exact .inl (h.symm.trans rfl)
     ·right
      simp [Value.ownBlock] at h
      omega
    have CL:Hid _:=put_close (v:=v) hRr hlen' hown HNEXT.out HRNG.out honly hrow'
    have HROW:Hid (v.ownBlock=some g∨w.heap.size≤g):=hrow'
    have hne:=hown.ne hRr (by decide)
    have c0:wr.cell? ⟨R,0,none⟩=some (.slice (some ⟨g,0,none⟩) (q / 8+1) cap):=cellR (j:=0) hRr rfl
    have c1:wr.cell? ⟨R,1,none⟩=some (.int .i64 (q:Nat)):=cellR (j:=1) hRr rfl
    have f1:=frozenR (j:=1) hRr
    have cg:=hown.cell (q / 8) (by omega)
    have fg:=hown.frozen (q / 8)
    rw [hlast h8] at cg
    have h8':((q:Int) % 8 == 0)=false:=by simp;omega
    clear hnext hlast hown honly hrow hrow' hRr hlen hlen' hur HNEXT HRNG h8
    go_wp2
    go_region
    go_wp2
    go_roundw
    case rel=>
     have C:=CL.out
     refine ⟨k+1,.slice (some ⟨g,0,none⟩) (q / 8+1) cap,by omega,by go_num,?_,?_,?_,?_⟩
     ·rw [show n+(k+1)=q+1 from by have:=HQ.out;omega];exact C.1
     ·rw [show n+(k+1)=q+1 from by have:=HQ.out;omega,HPART.out];exact C.2.1
     ·exact C.2.2.1.drew
     ·rcases HROW.out with h | h
      ·exact .inl h.symm
      ·exact .inr ⟨g,rfl,h⟩
    case measure=>simp [intOf];omega
  ·have hkm:k=m:=by omega
   subst hkm
   have HF:Hid _:=(⟨hRr,hur,honly,hrow⟩:_∧_∧_∧_)
   clear hRr hur honly hrow
   go_wp2
   go_end0
   have F:=HF.out
   exact ⟨rfl,u,F.1,F.2.1,F.2.2.1,F.2.2.2⟩
end Go.Proofs.YtfeokafkhnbdiaaGreatDoor
