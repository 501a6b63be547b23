/- Lemmas on the way. -/
import Derived.Test.YtfeokafkhnbdiaaGreatDoorIs1
import Derived.Test.YtfeokafkhnbdiaaGreatDoorPmB
import Derived.Test.YtfeokafkhnbdiaaGreatDoorLPut
set_option maxRecDepth 20000
set_option maxHeartbeats 16000000
namespace Go.Proofs.YtfeokafkhnbdiaaGreatDoor
open Go.RowKit
set_option linter.unusedVariables false
theorem l2putLens_t (g cap:Nat) (zs:List Int) (R B n0 V0:Nat) (w0:World) (hb:RowT w0 g zs) (hgR:g≠R) (hw:SI w0 B R n0 V0) (hn0:n0≤2000) (hn:zs.length≤80) (hok:∀ z ∈ zs,0≤z∧z≤12) :
  Calls Tryz.prog 109 #[.pointer (some ⟨R,0,none⟩),.slice (some ⟨g,0,none⟩) zs.length cap] w0 fun e w'=>e=.returned (.tuple #[])∧SI w' B R (lpG zs n0 V0).1 (lpG zs n0 V0).2∧Below B w0 w'∧Kp R w0 w':=by
 have HOK:Hid (∀ k,k<zs.length→0≤zs.getD k 0∧zs.getD k 0≤12):=fun k hk=>hok _ (getD_mem hk)
 have HRL:Hid _:=fun i hi=>run_le zs i hi
 have HRI:Hid _:=run_in zs
 have HRO:Hid _:=run_out zs
 have HLE:Hid _:=lp_end zs
 have HLZ:Hid _:=lp_zero zs
 have HLP:Hid _:=lp_pos zs
 have HW:Hid (SI w0 B R n0 V0):=hw
 have HF:Hid (lp zs zs.length 0 n0 V0=lpG zs n0 V0):=rfl
 clear hok hw
 generalize hlen:zs.length=n at *
 have HL:Hid (zs.length=n):=hlen
 clear hlen
 go_enter Tryz.func109,Tryz.ntmps109
 go_wp2
 go_loopw [4] (fun i wr=>∃ k N V f:Nat,k≤n∧i=.int .i64 k∧N≤n0+7*k∧n-k≤f∧lp zs f k N V=lpG zs n0 V0∧SI wr B R N V∧Below B w0 wr∧Kp R w0 wr) (fun i _=>n-(intOf i).toNat)
 case atStart=>exact ⟨0,n0,V0,n,Nat.zero_le _,rfl,by omega,by omega,HF.out,HW.out,Below.refl _ _,Kp.refl _ _⟩
 case round=>
  clear HW HF
  obtain ⟨k,N,V,f,hk,rfl,hN,hf,hlp,hwi,hbel,hkp⟩:=hrel
  have HWI:Hid (SI wr B R N V):=hwi
  have HP:Hid (lp zs f k N V=lpG zs n0 V0):=hlp
  clear hwi hlp
  by_cases hlt:k<n
  ·have hglt:g<wr.heap.size:=(hb.kp hkp hgR).lt
   have hs1:=(hb.kp hkp hgR).cell k (by rw [HL.out];exact hlt)
   have hx:=HOK.out k hlt
   have hr:=HRL.out k hlt
   obtain ⟨f,rfl⟩:∃ f',f=f'+1:=⟨f-1,by omega⟩
   have HZ:=HLZ.out f k N V hlt
   have HQ:=HLP.out f k N V hlt
   rw [HP.out] at HZ HQ
   have HZ':Hid _:=HZ
   have HQ':Hid _:=HQ
   clear HZ HQ HP
   generalize hxx:zs.getD k 0=x at *
   go_wp2_with fail
   refine (HWI.out.putP x 4 hx.1 (by omega) (by omega) (by simp;omega) (by omega)).mono ?_
   rintro e w2 ⟨rfl,hwi2,hb2,hk2⟩
   have HWI2:Hid (SI w2 B R (N+4) (V+x.toNat*2 ^ N)):=hwi2
   have hbel2:Below B w0 w2:=hbel.trans hb2
   have hkp2:Kp R w0 w2:=hkp.trans hk2
   have hglt2:g<w2.heap.size:=(hb.kp hkp2 hgR).lt
   have hc3:=(hb.kp hkp2 hgR).cell
   have hs3:=hc3 k (by rw [HL.out];exact hlt)
   have HC3:Hid _:=hc3
   rw [hxx] at hs3
   clear hwi2 hb2 hbel hkp HWI hc3 hs1 hk2
   by_cases hz:x=0
   ·have E:=HZ'.out hz
    have HE:Hid (lp zs f (k+1+run zs k) (N+7) (V+run zs k*2 ^ (N+4))=lpG zs n0 V0):=E.symm
    have HRI':Hid _:=HRI.out k
    have HRO':Hid _:=HRO.out k hlt
    clear HZ' HQ' E
    subst hz
    have HWI3:Hid (SI w2 B R (N+4) V):=by simpa [Hid] using HWI2.out
    clear HWI2
    generalize run zs k=r at *
    go_wp2
    go_loopw [4,5] (fun i c wi=>∃ j q:Nat,j≤r∧q=k+j∧c=.int .i64 j∧i=.int .i64 q∧wi=w2) (fun _ c _=>r-(intOf c).toNat)
    case atStart=>exact ⟨0,k,Nat.zero_le _,by omega,rfl,rfl,rfl⟩
    case round=>
     obtain ⟨j,q,hj,hq,rfl,rfl,rfl⟩:=hrel
     have HQJ:Hid (q=k+j):=hq
     clear hq
     by_cases hjr:j<r
     ·obtain ⟨g1,g2,g3⟩:=HRI'.out j hjr
      rw [←HQJ.out] at g2 g3
      have hs4:=HC3.out (q+1) (by rw [HL.out];exact g2)
      rw [g3] at hs4
      clear g3
      go_wp2
      go_roundw
      case rel=>exact ⟨j+1,q+1,by omega,by have:=HQJ.out;omega,by go_num,by go_num,by simp⟩
      case measure=>simp [intOf];omega
     ·have hje:j=r:=by omega
      subst hje
      rw [←HQJ.out] at HRO'
      have hqn:q+1≤n:=by have:=HQJ.out;omega
      by_cases h7:j<7
      ·by_cases hl1:q+1<n
       ·have hne:=HRO'.out h7 hl1
        have hs4:=HC3.out (q+1) (by rw [HL.out];exact hl1)
        generalize zs.getD (q+1) 0=y at *
        have hy:(y == 0)=false:=by simpa using hne
        clear hne
        go_wp2_with fail
        refine (HWI3.out.putP (j:Nat) 3 (by omega) (by omega) (by omega) (by simp;omega) (by omega)).mono ?_
        rintro e w4 ⟨rfl,hwi4,hb4,hk4⟩
        have HWI4:Hid (SI w4 B R (N+7) (V+j*2 ^ (N+4))):=by simpa [Hid] using hwi4
        have HB4:Hid (Below B w0 w4∧Kp R w0 w4):=⟨hbel2.trans hb4,hkp2.trans hk4⟩
        clear hwi4 hb4 hk4 HWI3
        go_wp2
        go_roundw
        case rel=>exact ⟨k+1+j,N+7,V+j*2 ^ (N+4),f,by have:=HQJ.out;omega,by have:=HQJ.out;go_num,by omega,by omega,HE.out,HWI4.out,HB4.out⟩
        case measure=>have:=HQJ.out;simp [intOf];omega
       ·have hl2:decide ((q:Int)+1<(n:Int))=false:=by simp;omega
        go_wp2_with fail
        refine (HWI3.out.putP (j:Nat) 3 (by omega) (by omega) (by omega) (by simp;omega) (by omega)).mono ?_
        rintro e w4 ⟨rfl,hwi4,hb4,hk4⟩
        have HWI4:Hid (SI w4 B R (N+7) (V+j*2 ^ (N+4))):=by simpa [Hid] using hwi4
        have HB4:Hid (Below B w0 w4∧Kp R w0 w4):=⟨hbel2.trans hb4,hkp2.trans hk4⟩
        clear hwi4 hb4 hk4 HWI3
        go_wp2
        go_roundw
        case rel=>exact ⟨k+1+j,N+7,V+j*2 ^ (N+4),f,by have:=HQJ.out;omega,by have:=HQJ.out;go_num,by omega,by omega,HE.out,HWI4.out,HB4.out⟩
        case measure=>have:=HQJ.out;simp [intOf];omega
      ·go_wp2_with fail
       refine (HWI3.out.putP (j:Nat) 3 (by omega) (by omega) (by omega) (by simp;omega) (by omega)).mono ?_
       rintro e w4 ⟨rfl,hwi4,hb4,hk4⟩
       have HWI4:Hid (SI w4 B R (N+7) (V+j*2 ^ (N+4))):=by simpa [Hid] using hwi4
       have HB4:Hid (Below B w0 w4∧Kp R w0 w4):=⟨hbel2.trans hb4,hkp2.trans hk4⟩
       clear hwi4 hb4 hk4 HWI3
       go_wp2
       go_roundw
       case rel=>exact ⟨k+1+j,N+7,V+j*2 ^ (N+4),f,by have:=HQJ.out;omega,by have:=HQJ.out;go_num,by omega,by omega,HE.out,HWI4.out,HB4.out⟩
       case measure=>have:=HQJ.out;simp [intOf];omega
   ·have E:=HQ'.out hz
    have HE:Hid (lp zs f (k+1) (N+4) (V+x.toNat*2 ^ N)=lpG zs n0 V0):=E.symm
    have hpos:0<x:=by omega
    have HB2:Hid (Below B w0 w2∧Kp R w0 w2):=⟨hbel2,hkp2⟩
    clear HZ' HQ' E hbel2 hkp2
    go_wp2
    go_roundw
    case rel=>exact ⟨k+1,N+4,V+x.toNat*2 ^ N,f,by omega,by go_num,by omega,by omega,HE.out,HWI2.out,HB2.out⟩
    case measure=>simp [intOf];omega
  ·have hkn:k=n:=by omega
   subst hkn
   have E:=HLE.out f k N V (by omega)
   rw [HP.out] at E
   have HA:Hid (SI wr B R (lpG zs n0 V0).1 (lpG zs n0 V0).2):=by rw [E];exact HWI.out
   clear E HWI HP
   go_wp2
   go_end0
   exact ⟨rfl,HA.out,hbel,hkp⟩
end Go.Proofs.YtfeokafkhnbdiaaGreatDoor
