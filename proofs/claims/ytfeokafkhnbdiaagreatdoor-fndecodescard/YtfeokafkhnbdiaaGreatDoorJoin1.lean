/- Lemmas on the way. -/
import Derived.Test.YtfeokafkhnbdiaaGreatDoorLPut
import Derived.Test.YtfeokafkhnbdiaaGreatDoorIs1
import Derived.Test.YtfeokafkhnbdiaaGreatDoorRev2
import Derived.Test.YtfeokafkhnbdiaaGreatDoorWidth
import Derived.Test.YtfeokafkhnbdiaaGreatDoorOwn1
set_option maxRecDepth 20000
set_option maxHeartbeats 16000000
namespace Go.Proofs.YtfeokafkhnbdiaaGreatDoor
open Go.RowKit
set_option linter.unusedVariables false
theorem wpow (k:Nat) (h:k≤12):wrap64 (2 ^ k)=((2 ^ k:Nat):Int):=by
 have h2:2 ^ k≤2 ^ 12:=Nat.pow_le_pow_right (by omega) h
 have e:((2:Int) ^ k)=((2 ^ k:Nat):Int):=by simp
 rw [e]
 generalize 2 ^ k=P at *
 exact IntWalk.wrap64_in _ (by omega)
theorem l3putNorm_t (g cap:Nat) (zs:List Int) (R B n0 V0:Nat) (w0:World) (hb:RowT w0 g zs) (hgR:g≠R) (hw:SI w0 B R n0 V0) (hn0:n0≤2000) (hn:normB zs=true) :
  Calls Tryz.prog 113 #[.pointer (some ⟨R,0,none⟩),.slice (some ⟨g,0,none⟩) zs.length cap] w0 fun e w'=>e=.returned (.tuple #[])∧SI w' B R (nbG zs n0 zs.length) (vbG zs n0 V0 zs.length)∧Below B w0 w'∧Kp R w0 w':=by
 obtain ⟨hn1,hn2⟩:=normB_bnd hn
 have HE:Hid _:=fun k=>lft_eq hn k
 have HU:Hid _:=fun k hk=>lft_succ hn k hk
 have HNB:Hid _:=fun k=>nbG_le hn n0 k
 have HREST:Hid _:=fun k h1 h2=>restG hn n0 V0 k h1 h2
 have HEND:Hid (lft zs zs.length=0):=lft_end hn
 have HW:Hid (SI w0 B R (nbG zs n0 0) (vbG zs n0 V0 0)):=by unfold Hid;simpa [nbG,vbG,nb,vb] using hw
 clear hn hw
 generalize hlen:zs.length=n at *
 have HL:Hid (zs.length=n):=hlen
 clear hlen
 go_enter Tryz.func113,Tryz.ntmps113
 go_wp2
 go_loopw [4,5] (fun l i wr=>∃ k:Nat,k≤n∧i=.int .i64 k∧l=.int .i64 (lft zs k:Nat)∧SI wr B R (nbG zs n0 k) (vbG zs n0 V0 k)∧Below B w0 wr∧Kp R w0 wr) (fun _ i _=>n-(intOf i).toNat)
 case atStart=>exact ⟨0,Nat.zero_le _,rfl,by simp [lft],HW.out,Below.refl _ _,Kp.refl _ _⟩
 case round=>
  clear HW
  obtain ⟨k,hk,rfl,rfl,hwi,hbel,hkp⟩:=hrel
  have HWI:Hid (SI wr B R (nbG zs n0 k) (vbG zs n0 V0 k)):=hwi
  clear hwi
  by_cases hl0:lft zs k=0
  ·have hr:=HREST.out k hk hl0
   have HF:Hid (SI wr B R (nbG zs n0 n) (vbG zs n0 V0 n)):=by rw [hr.1,hr.2];exact HWI.out
   rw [hl0]
   clear hr hl0
   by_cases hlt:k<n
   ·go_wp2
    go_end0
    exact ⟨rfl,HF.out,hbel,hkp⟩
   ·go_wp2
    go_end0
    exact ⟨rfl,HF.out,hbel,hkp⟩
  ·have hlt:k<n:=by
    have:k≠n:=fun h=>hl0 (by rw [h];exact HEND.out)
    omega
   have hglt:g<wr.heap.size:=(hb.kp hkp hgR).lt
   have hs1:=(hb.kp hkp hgR).cell k (by rw [HL.out];exact hlt)
   have hl:=(HE.out k).2
   have hu:=HU.out k hlt
   have hnb:=HNB.out k
   have HSN:Hid (nbG zs n0 (k+1)=nbG zs n0 k+bl (lft zs k)):=nbG_step zs n0 k
   have HSV:Hid (vbG zs n0 V0 (k+1)=vbG zs n0 V0 k+(zs.getD k 0).toNat*2 ^ nbG zs n0 k):=vbG_step zs n0 V0 k
   have hb7:=bl_le7 (lft zs k) hl
   have hb8:=bl_lt (lft zs k) (by omega)
   have HGE:Hid _:=fun j hj=>bl_ge (lft zs k) j (by omega) hj
   generalize hxx:zs.getD k 0=x at *
   generalize lft zs k=l at *
   generalize nbG zs n0 k=N at *
   generalize vbG zs n0 V0 k=V at *
   have hxl:x<2 ^ bl l:=by
    have e:((2:Int) ^ bl l)=((2 ^ bl l:Nat):Int):=by simp
    rw [e];omega
   have HXL:Hid (x<2 ^ ((bl l:Nat):Int).toNat):=by simpa [Hid] using hxl
   have HB8:Hid (l<2 ^ bl l):=hb8
   clear hxl hb8
   generalize bl l=m at *
   go_wp2
   go_loopw [6] (fun i wi=>∃ j:Nat,j≤m∧i=.int .i64 j∧wi=wr) (fun i _=>m-(intOf i).toNat)
   case atStart=>exact ⟨0,Nat.zero_le _,rfl,rfl⟩
   case round=>
    obtain ⟨j,hj,rfl,rfl⟩:=hrel
    by_cases hjl:j<m
    ·have hp:wrap64 (2 ^ j)≤(l:Int):=by rw [wpow j (by omega)];have:=HGE.out j hjl;omega
     go_wp2
     go_roundw
     case rel=>exact ⟨j+1,by omega,by go_num,by simp⟩
     case measure=>simp [intOf];omega
    ·have hjm:j=m:=by omega
     subst hjm
     have hp:(l:Int)<wrap64 (2 ^ j):=by rw [wpow _ (by omega)];have:=HB8.out;omega
     have hp2:decide (wrap64 (2 ^ j)≤(l:Int))=false:=by simpa using hp
     have HP:Hid ((l:Int)<wrap64 (2 ^ j)):=hp
     clear hj hjl HGE HB8 hp
     go_wp2_with fail
     refine (HWI.out.putP x (j:Nat) hu.2.1 (by omega) (by omega) HXL.out (by omega)).mono ?_
     rintro e w2 ⟨rfl,hwi2,hb2,hk2⟩
     have HWI2:Hid (SI w2 B R (nbG zs n0 (k+1)) (vbG zs n0 V0 (k+1))):=by rw [HSN.out,HSV.out];simpa [Hid] using hwi2
     have HB2:Hid (Below B w0 w2∧Kp R w0 w2):=⟨hbel.trans hb2,hkp.trans hk2⟩
     have hglt2:g<w2.heap.size:=(hb.kp HB2.out.2 hgR).lt
     have hc3:=(hb.kp HB2.out.2 hgR).cell
     have hs3:=hc3 k (by rw [HL.out];exact hlt)
     rw [hxx] at hs3
     clear hwi2 hb2 hbel hkp HWI hc3 hs1 hk2
     have E1:Hid ((l:Int)-x=((lft zs (k+1):Nat):Int)):=by unfold Hid;omega
     have hx2:0≤x∧x≤l:=hu.2
     clear HSN HSV HXL hu hp2 HP
     go_wp2
     go_roundw
     case rel=>exact ⟨k+1,by omega,by go_num,by rw [E1.out],HWI2.out,HB2.out⟩
     case measure=>simp [intOf];omega
theorem csum_bnd {cs:List Int} (hc:∀ i,i<cs.length→0≤cs.getD i 0∧cs.getD i 0≤1000000) (k:Nat) (hk:k≤cs.length):0≤(cs.take k).sum∧(cs.take k).sum≤1000000*k:=by
 induction k with
 | zero=>simp
 | succ k ih=>
  have h1:=ih (by omega)
  have h2:=hc k (by omega)
  rw [sum_succ cs k (by omega)]
  omega
theorem l3norm_any (a:Option Addr) (cap:Nat) (cs:List Int) (w:World) (hb:Ins w a cs) (hc:cntB cs=true) (hr:roomy cs) :
  Calls Tryz.prog 112 #[.slice a cs.length cap] w fun e w'=>e=.returned (.slice (some ⟨w.heap.size,0,none⟩) cs.length cs.length)∧OwI w' w.heap.size w.heap.size cs.length (shares cs (rest cs))∧Below w.heap.size w w':=by
 obtain ⟨i0,hi,hz0,hz1,hz2⟩:=info_parts Tryz.infoI64
 obtain ⟨hn1,hn2⟩:=cntB_bndN hc
 have HG:Hid (∀ i,i<cs.length→0≤cs.getD i 0∧cs.getD i 0≤1000000):=fun i hi=>cntB_getN hc i hi
 have HSB:Hid _:=fun k hk=>csum_bnd HG.out k hk
 clear hc
 generalize hlen:cs.length=n at *
 have HL:Hid (cs.length=n):=hlen
 clear hlen
 have HRO:Hid (roomy cs):=hr
 clear hr
 go_enter Tryz.func112,Tryz.ntmps112
 go_wp2_with (at_make;refine wpList_make_full _ rfl _ _ 38 rfl w.heap.size 3 i0 (.int .i64 0) 1 Tryz.underlying38 hi hz0 hz1 .i64 .i64 _ _ n rfl rfl rfl rfl (by rw [hz2];omega) (by unfold maxLen;omega) nl ?_;intro w1 hown hgrow)
 have h0:OwI w1 w.heap.size w.heap.size n (part (cs.map one) 0):=by
  rw [part_zero,List.length_map,HL.out]
  refine ⟨?_,by intro z hz;simp at hz;omega⟩
  rw [made_zeroI] at hown
  simpa using hown
 have hbw:Below w.heap.size w w1:=(Below.refl _ _).grown hgrow nl (by intro k hk;cases hk)
 have H0:Hid (OwI w1 w.heap.size w.heap.size n (part (cs.map one) 0)):=h0
 clear h0 hown hgrow hi hz0 hz1 hz2
 go_loopw [4,5,6] (fun t x i wr=>∃ k:Nat,k≤n∧i=.int .i64 k∧t=.int .i64 (cs.take k).sum∧x=.int .i64 (64-sumF one (cs.take k))∧OwI wr w.heap.size w.heap.size n (part (cs.map one) k)∧Below w.heap.size w wr) (fun _ _ i _=>n-(intOf i).toNat)
 case atStart=>exact ⟨0,Nat.zero_le _,rfl,by simp,by simp [sumF],H0.out,hbw⟩
 case round=>
  obtain ⟨k,hk,rfl,rfl,rfl,hown,hbel⟩:=hrel
  have HO:Hid (OwI wr w.heap.size w.heap.size n (part (cs.map one) k)):=hown
  have hT:=HSB.out k hk
  clear hown hbw H0
  by_cases hlt:k<n
  ·obtain ⟨b,off,rfl,hbl,hcells⟩:=hb.len_pos k (by rw [HL.out];exact hlt)
   have hsrc:wr.cell? ⟨b,off+k,none⟩=some (.int .i64 (cs.getD k 0)):=(hbel.cell (p:=⟨b,off+k,none⟩) hbl).trans (hcells k (by rw [HL.out];exact hlt))
   have hx:=HG.out k hlt
   have hF:=sumF_bnd one 1 one_bnd (cs.take k)
   have hF2:(cs.take k).length≤80:=by rw [List.length_take,HL.out];omega
   have HS:Hid (sumF one (cs.take (k+1))=sumF one (cs.take k)+one (cs.getD k 0)):=sumF_succ one cs k (by rw [HL.out];exact hlt)
   have HU:Hid ((cs.take (k+1)).sum=(cs.take k).sum+cs.getD k 0):=sum_succ cs k (by rw [HL.out];exact hlt)
   have hdst:=HO.out.cell k (by rw [part_len _ _ (by rw [List.length_map,HL.out];omega),List.length_map,HL.out];exact hlt)
   have hfz:=HO.out.frozen k
   have HP1:Hid _:=one_part_set cs k (by rw [HL.out];exact hlt)
   have HP0:Hid _:=one_part_skip cs k (by rw [HL.out];exact hlt)
   generalize cs.getD k 0=x at *
   generalize hFF:sumF one (cs.take k)=F at *
   generalize hTT:(cs.take k).sum=T at *
   have hFb:0≤F∧F≤80:=by omega
   clear hF hF2 hFF hTT hcells hb
   by_cases h5:0<x
   ·have HP:Hid (one x=1):=by simp [Hid,one,h5]
    have R:=HO.out.store k 1 (by omega)
    rw [HP1.out h5] at R
    have HR:Hid (OwI (wr.setCell ⟨w.heap.size,k,none⟩ (.int .i64 1)) w.heap.size w.heap.size n (part (cs.map one) (k+1))):=R
    have HB:Hid (Below w.heap.size w (wr.setCell ⟨w.heap.size,k,none⟩ (.int .i64 1))):=hbel.setCell (p:=⟨w.heap.size,k,none⟩) nl (.int .i64 1)
    clear R HP1 HP0
    go_wp2
    go_roundw
    case rel=>exact ⟨k+1,by omega,by go_num,by rw [HU.out],by rw [HS.out,HP.out];go_num,by simpa using HR.out,by simpa using HB.out⟩
    case measure=>simp [intOf];omega
   ·have HP:Hid (one x=0):=by simp [Hid,one,h5]
    have HR:Hid (OwI wr w.heap.size w.heap.size n (part (cs.map one) (k+1))):=by rw [←HP0.out h5];exact HO.out
    clear HP1 HP0
    go_wp2
    go_roundw
    case rel=>exact ⟨k+1,by omega,by go_num,by rw [HU.out],by rw [HS.out,HP.out];simp,HR.out,hbel⟩
    case measure=>simp [intOf];omega
  ·have hkn:k=n:=by omega
   subst hkn
   have hall:=HO.out
   have el:(cs.map one).length=k:=by rw [List.length_map];exact HL.out
   rw [show part (cs.map one) k=cs.map one from by rw [←el];exact part_all _] at hall
   have HA:Hid (OwI wr w.heap.size w.heap.size k (shares cs 0)):=hall
   have e:cs.take k=cs:=List.take_of_length_le (by rw [HL.out];exact Nat.le_refl _)
   rw [e] at hT ⊢
   clear hall HO el e
   have hsm:1≤sumF one cs∧sumF one cs≤64:=HRO.out
   generalize hS:sumF one cs=S at *
   have HS:Hid (sumF one cs=S):=hS
   clear hS
   generalize cs.sum=T at *
   have HFA:Hid (∀ j,Fair cs (shares cs j) j):=fun j=>fair_all (some1_of (by rw [HS.out];exact hsm.1)) j
   have HPI:Hid (∀ ns,0≤pick cs ns k∧(pick cs ns k).toNat<k):=fun ns=>by have:=pick_in (ns:=ns) (some1_of (cs:=cs) (by rw [HS.out];exact hsm.1));rw [HL.out] at this;exact ⟨this.1,this.2.1⟩
   have HR:Hid (rest cs=(64-S).toNat):=by unfold Hid rest;rw [HS.out]
   go_wp2
   go_loopw [5] (fun x wr=>∃ j:Nat,S+j≤64∧x=.int .i64 (64-S-j)∧OwI wr w.heap.size w.heap.size k (shares cs j)∧Below w.heap.size w wr) (fun x _=>(intOf x).toNat)
   case atStart=>exact ⟨0,by omega,by simp,HA.out,hbel⟩
   case round=>
    clear HA hbel
    obtain ⟨j,hj,rfl,hown,hbel⟩:=hrel
    have HO:Hid (OwI wr w.heap.size w.heap.size k (shares cs j)):=hown
    clear hown
    by_cases hlt2:S+j<64
    ·have hf:Fair cs (shares cs j) j:=HFA.out j
     have HF:Hid (Fair cs (shares cs j) j):=hf
     have HQ:Hid ((shares cs j).length=k):=by have:=hf.1;rw [HL.out] at this;exact this
     have hia:Ins wr a cs:=hb.below hbel nl
     have hin:Ins wr (some ⟨w.heap.size,0,none⟩) (shares cs j):=HO.out.byt
     have HPS:Hid (pick cs (shares cs j) k=pick cs (shares cs j) k):=rfl
     have HGV:Hid (give cs (shares cs j)=shares cs (j+1)):=rfl
     have HSO:Hid (∀ q,(shares cs j).getD q 0=(shares cs j).getD q 0):=fun _=>rfl
     clear hf
     generalize hns:shares cs j=ns at *
     go_wp2
     go_loopw [7,8] (fun x i wi=>∃ k' m:Nat,k'≤k∧i=.int .i64 k'∧x=.int .i64 (pick cs ns k')∧wi=wr.drewN m) (fun _ i _=>k-(intOf i).toNat)
     case atStart=>exact ⟨0,0,Nat.zero_le _,rfl,rfl,rfl⟩
     case round=>
      obtain ⟨k',m,hk',rfl,rfl,rfl⟩:=hrel
      by_cases hlt:k'<k
      ·obtain ⟨b1,o1,rfl,hb1,hc1⟩:=hia.len_pos k' (by rw [HL.out];exact hlt)
       have hs1:=hc1 k' (by rw [HL.out];exact hlt)
       have hs2:=HO.out.cell k' (by rw [HQ.out];exact hlt)
       have hx:=HG.out k' hlt
       have hy:=HF.out.bnd k'
       have hp:=pick_rng cs ns k'
       by_cases hpos:0<cs.getD k' 0
       ·by_cases hpn:pick cs ns k'<0
        ·have HP:Hid (pick cs ns (k'+1)=k'):=pick_yes ⟨hpos,.inl hpn⟩
         clear hc1
         generalize pick cs ns k'=p at *
         generalize cs.getD k' 0=x at *
         generalize ns.getD k' 0=y at *
         go_wp2
         go_quiet (fail)
         go_wp2
         go_roundw
         case rel=>exact ⟨k'+1,_,by omega,by go_num,by rw [HP.out],rfl⟩
         case measure=>simp [intOf];omega
        ·have HPY:Hid _:=@pick_yes cs ns k'
         have HPN:Hid _:=@pick_no cs ns k'
         have HPP:Hid (ahead cs ns (pick cs ns k') k'↔cs.getD (pick cs ns k').toNat 0*ns.getD k' 0<cs.getD k' 0*ns.getD (pick cs ns k').toNat 0):=by
          unfold Hid ahead
          constructor
          ·rintro ⟨_,h | h⟩
           ·exact absurd h hpn
           ·exact h
          ·exact fun h=>⟨hpos,.inr h⟩
         generalize pick cs ns k'=p at *
         obtain ⟨q,rfl⟩:∃ q:Nat,p=q:=⟨p.toNat,by omega⟩
         simp only [Int.toNat_natCast] at HPP
         have hs3:=hc1 q (by rw [HL.out];omega)
         have hs4:=HO.out.cell q (by rw [HQ.out];omega)
         have hu:=HG.out q (by omega)
         have hqn:q<k:=by omega
         have hv:=HF.out.bnd q
         clear hc1 hp hpn
         generalize cs.getD k' 0=x at *
         generalize ns.getD k' 0=y at *
         generalize cs.getD q 0=u at *
         generalize ns.getD q 0=v at *
         have m1:=mulb hx (show 0≤v∧v≤65 by omega)
         have m2:=mulb hu (show 0≤y∧y≤65 by omega)
         have hw1:IntKind.i64.wrap (x*v)=x*v:=IntWalk.i64_in _ (by omega)
         have hw2:IntKind.i64.wrap (u*y)=u*y:=IntWalk.i64_in _ (by omega)
         by_cases hcmp:u*y<x*v
         ·have HP:Hid (pick cs ns (k'+1)=k'):=HPY.out (HPP.out.2 hcmp)
          clear HPY HPN HPP
          go_wp2
          go_quiet (fail)
          go_wp2
          go_roundw
          case rel=>exact ⟨k'+1,_,by omega,by go_num,by rw [HP.out],rfl⟩
          case measure=>simp [intOf];omega
         ·have HP:Hid (pick cs ns (k'+1)=q):=HPN.out (fun h=>hcmp (HPP.out.1 h))
          clear HPY HPN HPP
          go_wp2
          go_quiet (fail)
          go_wp2
          go_roundw
          case rel=>exact ⟨k'+1,_,by omega,by go_num,by rw [HP.out],rfl⟩
          case measure=>simp [intOf];omega
       ·have HP:Hid (pick cs ns (k'+1)=pick cs ns k'):=pick_no (fun h=>hpos h.1)
        clear hc1
        generalize pick cs ns k'=p at *
        generalize cs.getD k' 0=x at *
        obtain rfl:x=0:=by omega
        clear hpos hx
        generalize ns.getD k' 0=y at *
        go_wp2
        go_quiet (fail)
        go_wp2
        go_roundw
        case rel=>exact ⟨k'+1,_,by omega,by go_num,by rw [HP.out],rfl⟩
        case measure=>simp [intOf];omega
      ·have hkk:k'=k:=by omega
       subst hkk
       have hbel3:Below w.heap.size w (wr.drewN m):=below_drewNN hbel m
       have HO3:Hid (OwI (wr.drewN m) w.heap.size w.heap.size k' ns):=HO.out.drewN m
       have hpi:=HPI.out ns
       have hbn:=HF.out.bnd (pick cs ns k').toNat
       have hst:shares cs (j+1)=ns.set (pick cs ns k').toNat (ns.getD (pick cs ns k').toNat 0+1):=by
        rw [←HGV.out]
        unfold give bump
        rw [HL.out]
       clear hbel HO hia hin hns
       generalize wr.drewN m=w3 at *
       generalize pick cs ns k'=p at *
       obtain ⟨q,rfl⟩:∃ q:Nat,p=q:=⟨p.toNat,by omega⟩
       simp only [Int.toNat_natCast] at hpi hbn hst
       have hdst:=HO3.out.cell q (by rw [HQ.out];omega)
       have hfz:=HO3.out.frozen q
       have R:=HO3.out.store q (ns.getD q 0+1) (by omega)
       rw [←hst] at R
       clear hst
       generalize ns.getD q 0=v at *
       have HR2:Hid (OwI (w3.setCell ⟨w.heap.size,q,none⟩ (.int .i64 (v+1))) w.heap.size w.heap.size k' (shares cs (j+1))):=R
       have HB:Hid (Below w.heap.size w (w3.setCell ⟨w.heap.size,q,none⟩ (.int .i64 (v+1)))):=hbel3.setCell (p:=⟨w.heap.size,q,none⟩) nl (.int .i64 (v+1))
       clear R
       go_wp2
       go_roundw
       case rel=>exact ⟨j+1,by omega,by go_num,by simpa using HR2.out,by simpa using HB.out⟩
       case measure=>simp [intOf];omega
    ·have hje:(64-S).toNat=j:=by omega
     have HF2:Hid (OwI wr w.heap.size w.heap.size k (shares cs (rest cs))):=by rw [HR.out,hje];exact HO.out
     go_wp2
     go_ret
     exact ⟨rfl,HF2.out,hbel⟩
def bitAt (zs:List Int) (p:Nat):Nat:=(zs.getD (p / 8) 0).toNat / 2 ^ (p % 8) % 2
theorem l1bit_any (a:Option Addr) (cap:Nat) (zs:List Int) (N p:Int) (w:World) (hb:Byt w a zs) (h0:0≤p) (h1:p.toNat / 8<zs.length) (hp:p≤8388608) :
  Calls Tryz.prog 140 #[.agg #[.slice a zs.length cap,.int .i64 N],.int .i64 p] w fun e w'=>e=.returned (.int .i64 (bitAt zs p.toNat:Nat))∧Below w.heap.size w w':=by
 have hw:Below w.heap.size w (w.alloc (Obj.cells #[.slice a zs.length cap,.int .i64 N] 40)):=bAw
 obtain ⟨q,rfl⟩:=Int.eq_ofNat_of_zero_le h0
 simp only [Int.toNat_natCast] at *
 obtain ⟨b,off,rfl,hbl,hc⟩:=hb.len_pos (q / 8) h1
 have hs:=hc (q / 8) h1
 have hr:=getD_rng hb.1 (q / 8)
 have hlen:(q / 8:Nat)<zs.length:=h1
 generalize hz:zs.getD (q / 8) 0=z at *
 have HZ:Hid (zs.getD (q / 8) 0=z):=hz
 clear hz hc
 go_enter Tryz.func140,Tryz.ntmps140
 go_wp2
 go_ret
 exact ⟨ret_int (by unfold bitAt;rw [HZ.out];exact bit64 z _ hr),hw⟩
structure Stay (w wr:World) (a:Option Addr) (K ca:Nat) (N:Int) (b:Option Addr) (L cb:Nat) (m:Int) (B:Nat):Prop where
 bel:Below w.heap.size w wr
 a0:wr.cell? ⟨w.heap.size,0,none⟩=some (.slice a K ca)
 a1:wr.cell? ⟨w.heap.size,1,none⟩=some (.int .i64 N)
 b0:wr.cell? ⟨w.heap.size+1,0,none⟩=some (.slice b L cb)
 b1:wr.cell? ⟨w.heap.size+1,1,none⟩=some (.int .i64 m)
 r0:wr.cell? ⟨w.heap.size+1+1,0,none⟩=some (.slice none 0 0)
 r1:wr.cell? ⟨w.heap.size+1+1,1,none⟩=some (.int .i64 0)
 f0:wr.frozen? ⟨w.heap.size+1+1,0,none⟩=false
 f1:wr.frozen? ⟨w.heap.size+1+1,1,none⟩=false
 hB:B=w.heap.size+1+1+1
 sz:B≤wr.heap.size
theorem Stay.only {S:Nat→Prop} {w wr w':World} {a:Option Addr} {K ca:Nat} {N:Int} {b:Option Addr} {L cb:Nat} {m:Int} {B:Nat} (h:Stay w wr a K ca N b L cb m B) (ho:Only S wr w') (hs:∀ k,S k→B≤k):Stay w w' a K ca N b L cb m B:=by
 have hB:=h.hB;have hz:=h.sz;have hs':=ho.size
 have n:∀ k,k<B→¬S k:=fun k hk hS=>by have:=hs k hS;omega
 exact ⟨h.bel.trans (ho.below (by omega) (fun k hk=>by have:=hs k hk;omega)),ho.cell (by omega) (n _ (by omega)) h.a0,ho.cell (by omega) (n _ (by omega)) h.a1,ho.cell (by omega) (n _ (by omega)) h.b0,ho.cell (by omega) (n _ (by omega)) h.b1,ho.cell (by omega) (n _ (by omega)) h.r0,ho.cell (by omega) (n _ (by omega)) h.r1,
  (World.frozen?_of_block (ho.block (w.heap.size+1+1) (by omega) (n _ (by omega)))).trans h.f0,(World.frozen?_of_block (ho.block (w.heap.size+1+1) (by omega) (n _ (by omega)))).trans h.f1,h.hB,by omega⟩
theorem Stay.step {w wr w':World} {a:Option Addr} {K ca:Nat} {N:Int} {b:Option Addr} {L cb:Nat} {m:Int} {B:Nat} (h:Stay w wr a K ca N b L cb m B) (hb:Below wr.heap.size wr w'):Stay w w' a K ca N b L cb m B:=
 h.only (Only.ofBelow (S:=fun _=>False) hb nl) (by simp)
theorem Stay.start (w:World) (a:Option Addr) (K ca:Nat) (N:Int) (b:Option Addr) (L cb:Nat) (m:Int):Stay w (((w.alloc (Obj.cells #[.slice a K ca,.int .i64 N] 40)).alloc (Obj.cells #[.slice b L cb,.int .i64 m] 40)).alloc (Obj.cells #[.slice none 0 0,.int .i64 0] 40)) a K ca N b L cb m (w.heap.size+1+1+1):=by
 have hn:=heap_alloc_new ((w.alloc (Obj.cells #[.slice a K ca,.int .i64 N] 40)).alloc (Obj.cells #[.slice b L cb,.int .i64 m] 40)) (Obj.cells #[.slice none 0 0,.int .i64 0] 40)
 simp only [World.size_alloc] at hn
 refine ⟨(((Below.refl _ _).alloc nl _).alloc (by simp) _).alloc (by simp;omega) _,keepA _ (by simp;omega) (keepA _ (by simp) (by simp)),keepA _ (by simp;omega) (keepA _ (by simp) (by simp)),keepA _ (by simp) (by simp),keepA _ (by simp) (by simp),cellR (j:=0) hn rfl,cellR (j:=1) hn rfl,frozenR hn,frozenR hn,rfl,by simp⟩
theorem OwnV.ge {w:World} {B k:Nat} {v:Value} {zs:List Int} (h:OwnV w B v zs) (hk:v.ownBlock=some k):B≤k∧k<w.heap.size:=h.1.lt k hk
theorem OwnV.below {w w':World} {B:Nat} {v:Value} {zs:List Int} (h:OwnV w B v zs) (hb:Below w.heap.size w w'):OwnV w' B v zs:=by
 rcases h.1.2 with ⟨h1,h2⟩ | ⟨g,cap,cur,rfl,r⟩
 ·exact ⟨⟨h.1.1,.inl ⟨h1,h2⟩⟩,h.2⟩
 ·exact Own.below (g:=g) (cap:=cap) h hb nl
theorem l1join_any (a:Option Addr) (cap:Nat) (zs:List Int) (b:Option Addr) (cb:Nat) (ys:List Int) (n V m U:Nat) (w:World) (ha:Byt w a zs) (hb:Byt w b ys) (hz:zs=enc n V) (hy:ys=enc m U) (hV:V<2 ^ n) (hU:U<2 ^ m) (hn:n+m≤4096) :
  Calls Tryz.prog 111 #[.agg #[.slice a zs.length cap,.int .i64 n],.agg #[.slice b ys.length cb,.int .i64 m]] w fun e w'=>
   ∃ a' cp,e=.returned (.agg #[.slice a' (enc (n+m) (V+U*2 ^ n)).length cp,.int .i64 ((n+m:Nat):Int)])∧Mine w' w.heap.size w'.heap.size a' cp (enc (n+m) (V+U*2 ^ n))∧Below w.heap.size w w':=by
 have hw:Below w.heap.size w ((w.alloc (Obj.cells #[.slice a zs.length cap,.int .i64 n] 40)).alloc (Obj.cells #[.slice b ys.length cb,.int .i64 m] 40)):=((Below.refl _ _).alloc nl _).alloc (by simp) _
 have hl:zs.length≤1048576:=by rw [hz,enc_len];omega
 have HZ:Hid (zs=enc n V):=hz
 have HY:Hid (ys=enc m U):=hy
 have hyl:ys.length=(m+7) / 8:=by rw [hy,enc_len]
 have HYL:Hid (ys.length=(m+7) / 8):=hyl
 have HV:Hid (V<2 ^ n):=hV
 have HU:Hid (U<2 ^ m):=hU
 clear hz hy hV hU hyl
 have hst:=Stay.start w a zs.length cap (n:Int) b ys.length cb (m:Int)
 go_enter Tryz.func111,Tryz.ntmps111
 go_wp2_with fail
 refine (l1own_any a cap zs (n:Int) _ (ha.below hst.bel nl) hl).mono ?_
 rintro e w2 ⟨g2,cp2,rfl,ho2,hb2⟩
 have hst2:=hst.step hb2
 simp only [World.size_alloc] at ho2
 clear hb2 hst hw
 obtain ⟨B,hB⟩:∃ B,B=w.heap.size+1+1+1:=⟨_,rfl⟩
 rw [←hB] at ho2 hst2
 have hst3:=hst2.step ((Below.refl w2.heap.size w2).alloc nl (Obj.cells #[.slice (some ⟨g2,0,none⟩) zs.length cp2,.int .i64 (n:Int)] 40))
 have HE2:Hid (OwnV (w2.alloc (Obj.cells #[.slice (some ⟨g2,0,none⟩) zs.length cp2,.int .i64 (n:Int)] 40)) B (.slice (some ⟨g2,0,none⟩) zs.length cp2) (enc n V)):=by
  have:=(ho2.alloc (Obj.cells #[.slice (some ⟨g2,0,none⟩) zs.length cp2,.int .i64 (n:Int)] 40)).v
  rw [←HZ.out]
  exact this
 have hRB:B≤w2.heap.size:=hst2.sz
 have HST:Hid _:=hst3
 clear hst2 ho2 hst3
 go_wp2
 go_loopw [6] (fun i wr=>∃ (k:Nat) (u:Value),k≤m∧i=.int .i64 k∧wr.heap[w2.heap.size]?=some (.cells #[u,.int .i64 ((n+k:Nat):Int)] 40 (0,0))∧OwnV wr B u (enc (n+k) (V+(U % 2 ^ k)*2 ^ n))∧Stay w wr a zs.length cap (n:Int) b ys.length cb (m:Int) B) (fun i _=>m-(intOf i).toNat)
 case atStart=>exact ⟨0,_,Nat.zero_le _,rfl,heap_alloc_new w2 _,by simpa [Nat.mod_one] using HE2.out,HST.out⟩
 case round=>
  obtain ⟨k,u,hk,rfl,hRr,hur,hst⟩:=hrel
  have p0:=hst.b0
  have p1:=hst.b1
  have hRl:w2.heap.size<wr.heap.size:=(Array.getElem?_eq_some_iff.1 hRr).1
  by_cases hlt:k<m
  ·have HB:Hid (bitAt ys ((k:Int)).toNat=U / 2 ^ k % 2):=by
    have:=enc_bit m U k hlt
    rw [←HY.out] at this
    rw [show ((k:Int)).toNat=k from by omega]
    exact this
   have hbit:U / 2 ^ k % 2<2:=Nat.mod_lt _ (by omega)
   have HP:Hid (V+(U % 2 ^ k)*2 ^ n+(U / 2 ^ k % 2)*2 ^ (n+k)=V+(U % 2 ^ (k+1))*2 ^ n):=by
    have:=put_part n V U k 1
    simp only [Nat.pow_one] at this
    exact this
   have hVk:V+(U % 2 ^ k)*2 ^ n<2 ^ (n+k):=put_lt n V k (U % 2 ^ k) HV.out (Nat.mod_lt _ (Nat.pow_pos (by omega)))
   generalize U / 2 ^ k % 2=bt at *
   have HVK:Hid _:=hVk
   have HUR:Hid (OwnV wr B u (enc (n+k) (V+(U % 2 ^ k)*2 ^ n))):=hur
   have HRR:Hid _:=hRr
   clear hVk hur hRr
   go_wp2_with fail
   refine (l1bit_any b cb ys (m:Int) _ _ (hb.below hst.bel nl) (by omega) (by have:=HYL.out;omega) (by omega)).mono ?_
   rintro e w3 ⟨rfl,hb3⟩
   rw [HB.out]
   have hst3:=hst.step hb3
   have hur3:OwnV w3 B u (enc (n+k) (V+(U % 2 ^ k)*2 ^ n)):=OwnV.below HUR.out hb3
   have hR3:w3.heap[w2.heap.size]?=some (Obj.cells #[u,.int .i64 ((n+k:Nat):Int)] 40):=(hb3.block _ hRl).trans HRR.out
   have z3:=hb3.size
   clear hb3 hst p0 p1
   go_wp2_with fail
   refine (l1put_any w2.heap.size B u (n+k) (V+(U % 2 ^ k)*2 ^ n) (bt:Int) 1 _ hR3 hur3 HVK.out (by omega) (by omega) (by omega) (by omega) (by omega) (by omega)).mono ?_
   rintro e w4 ⟨rfl,v',hR4,hv4,honly4,hrow4⟩
   have hst4:=hst3.only honly4 (fun j hj=>by
    rcases hj with hj | hj
    ·omega
    ·exact (OwnV.ge hur3 hj).1)
   have hbt:(bt:Int).toNat % 2 ^ (1:Int).toNat=bt:=by
    simp
    omega
   rw [hbt,HP.out] at hv4
   have HF:Hid _:=(⟨hR4,hv4,hst4⟩:_∧_∧_)
   clear hR4 hv4 hst4 honly4 hrow4 hur3 hR3 hst3
   go_wp2
   go_roundw
   case rel=>exact ⟨k+1,v',by omega,by go_num,HF.out.1,HF.out.2.1,HF.out.2.2⟩
   case measure=>simp [intOf];omega
  ·have hkm:k=m:=by omega
   subst hkm
   rw [Nat.mod_eq_of_lt HU.out] at hur
   obtain ⟨a',cp,rfl,hmine⟩:=hur.mine
   generalize hYS:enc (n+k) (V+U*2 ^ n)=xs at *
   have HYS:Hid (enc (n+k) (V+U*2 ^ n)=xs):=hYS
   clear hYS
   have d0:wr.cell? ⟨w2.heap.size,0,none⟩=some (.slice a' xs.length cp):=cellR (j:=0) hRr rfl
   have d1:wr.cell? ⟨w2.heap.size,1,none⟩=some (.int .i64 ((n+k:Nat):Int)):=cellR (j:=1) hRr rfl
   have HM:Hid (Mine wr B wr.heap.size a' cp xs):=hmine
   have x0:=hst.r0
   have x1:=hst.r1
   have y0:=hst.f0
   have y1:=hst.f1
   have HS:Hid _:=hst
   clear hst hmine hur hRr
   go_wp2
   refine bodyPost_ret (v:=.agg #[.slice a' xs.length cp,.int .i64 ((n+k:Nat):Int)]) (by simp [results,Tryz.results111,go_sem,x0,x1]) rfl ⟨a',cp,by rw [HYS.out],?_,?_⟩
   ·rw [HYS.out]
    have hO3:Only (fun b=>b=w.heap.size+1+1) wr ((wr.setCell ⟨w.heap.size+1+1,0,none⟩ (.slice a' xs.length cp)).setCell ⟨w.heap.size+1+1,1,none⟩ (.int .i64 ((n+k:Nat):Int))):=
     Only.setCell (Only.setCell (Only.refl (fun b=>b=w.heap.size+1+1) wr) (p:=⟨w.heap.size+1+1,0,none⟩) (.inl rfl) _) (p:=⟨w.heap.size+1+1,1,none⟩) (.inl rfl) _
    exact ((HM.out.only hO3 (fun b h1 _=>by omega)).mono (by omega) (by simp [World.setCell]))
   ·exact ((HS.out.bel.setCell (by simp;omega) _).setCell (by simp;omega) _)
end Go.Proofs.YtfeokafkhnbdiaaGreatDoor
