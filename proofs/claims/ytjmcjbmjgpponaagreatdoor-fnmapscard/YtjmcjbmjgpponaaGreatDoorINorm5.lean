import Derived.Test.YtjmcjbmjgpponaaGreatDoorPour
set_option maxRecDepth 20000
set_option maxHeartbeats 16000000
namespace Go.Proofs.YtjmcjbmjgpponaaGreatDoor
open Go.RowKit
set_option linter.unusedVariables false
theorem zex (g cap:Nat) (zs:List Int) (R B n0 V0:Nat) (w0:World) (hb:RowT w0 g zs) (hgR:g≠R) (hw:SI w0 B R n0 V0) (hn0:n0<=2000) (hn:zs.length<=80) (hok:∀ z ∈ zs,0<=z/\z<=12) :
  Calls Tryz.prog 94 #[.pointer (some ⟨R,0,none⟩),.slice (some ⟨g,0,none⟩) zs.length cap] w0 fun e w'=>e=.returned (.tuple #[])/\SI w' B R (lpG zs n0 V0).1 (lpG zs n0 V0).2/\Below B w0 w'/\Kp R w0 w':=by
 have HOK:Hid (∀ k,k<zs.length->0<=zs.getD k 0/\zs.getD k 0<=12):=fun k hk=>hok _ (zp hk)
 have HRL:Hid _:=fun i hi=>zdc zs i hi
 have HRI:Hid _:=zi2 zs;have HRO:Hid _:=za9 zs;have HLE:Hid _:=z9d zs;have HLZ:Hid _:=z73 zs;have HLP:Hid _:=z8t zs;have HW:Hid (SI w0 B R n0 V0):=hw;have HF:Hid (lp zs zs.length 0 n0 V0=lpG zs n0 V0):=rfl;clear hok hw;generalize hlen:zs.length=n at *;have HL:Hid (zs.length=n):=hlen;clear hlen
 go_enter Tryz.func94,Tryz.ntmps94
 go_wp2
 go_loopw [4] (fun i wr=>∃ k N V f:Nat,k<=n/\i=.int .i64 k/\N<=n0+7*k/\n-k<=f/\lp zs f k N V=lpG zs n0 V0/\SI wr B R N V/\Below B w0 wr/\Kp R w0 wr) (fun i _=>n-(intOf i).toNat)
 case atStart=>exact ⟨0,n0,V0,n,Nat.zero_le _,rfl,by omega,by omega,HF.out,HW.out,Below.refl _ _,Kp.refl _ _⟩
 case round=>
  clear HW HF;obtain ⟨k,N,V,f,hk,rfl,hN,hf,hlp,hwi,hbel,hkp⟩:=hrel;have HWI:Hid (SI wr B R N V):=hwi;have HP:Hid (lp zs f k N V=lpG zs n0 V0):=hlp;clear hwi hlp
  by_cases hlt:k<n
  ·have hglt:g<wr.heap.size:=(hb.kp hkp hgR).lt
   have hs1:=(hb.kp hkp hgR).cell k (by rw [HL.out];exact hlt)
   have hx:=HOK.out k hlt;have hr:=HRL.out k hlt;obtain ⟨f,rfl⟩:∃ f',f=f'+1:=⟨f-1,by omega⟩
   have HZ:=HLZ.out f k N V hlt;have HQ:=HLP.out f k N V hlt;rw [HP.out] at HZ HQ;have HZ':Hid _:=HZ;have HQ':Hid _:=HQ;clear HZ HQ HP;generalize hxx:zs.getD k 0=x at *;go_wp2_with fail
   refine (HWI.out.putP x 4 hx.1 (by omega) (by omega) (by simp;omega) (by omega)).mono ?_
   rintro e w2 ⟨rfl,hwi2,hb2,hk2⟩;have HWI2:Hid (SI w2 B R (N+4) (V+x.toNat*2 ^ N)):=hwi2;have hbel2:Below B w0 w2:=hbel.trans hb2;have hkp2:Kp R w0 w2:=hkp.trans hk2;have hglt2:g<w2.heap.size:=(hb.kp hkp2 hgR).lt;have hc3:=(hb.kp hkp2 hgR).cell;have hs3:=hc3 k (by rw [HL.out];exact hlt)
   have HC3:Hid _:=hc3;rw [hxx] at hs3;clear hwi2 hb2 hbel hkp HWI hc3 hs1 hk2
   by_cases hz:x=0
   ·have E:=HZ'.out hz
    have HE:Hid (lp zs f (k+1+run zs k) (N+7) (V+run zs k*2 ^ (N+4))=lpG zs n0 V0):=E.symm;have HRI':Hid _:=HRI.out k;have HRO':Hid _:=HRO.out k hlt;clear HZ' HQ' E;subst hz;have HWI3:Hid (SI w2 B R (N+4) V):=by simpa [Hid] using HWI2.out
    clear HWI2;generalize run zs k=r at *;go_wp2
    go_loopw [4,5] (fun i c wi=>∃ j q:Nat,j<=r/\q=k+j/\c=.int .i64 j/\i=.int .i64 q/\wi=w2) (fun _ c _=>r-(intOf c).toNat)
    case atStart=>exact ⟨0,k,Nat.zero_le _,by omega,rfl,rfl,rfl⟩
    case round=>
     obtain ⟨j,q,hj,hq,rfl,rfl,rfl⟩:=hrel;have HQJ:Hid (q=k+j):=hq;clear hq
     by_cases hjr:j<r
     ·obtain ⟨g1,g2,g3⟩:=HRI'.out j hjr
      rw [<-HQJ.out] at g2 g3;have hs4:=HC3.out (q+1) (by rw [HL.out];exact g2)
      rw [g3] at hs4;clear g3;go_wp2;go_roundw
      case rel=>exact ⟨j+1,q+1,by omega,by have:=HQJ.out;omega,by go_num,by go_num,by simp⟩
      case measure=>simp [intOf];omega
     ·have hje:j=r:=by omega
      subst hje;rw [<-HQJ.out] at HRO';have hqn:q+1<=n:=by have:=HQJ.out;omega
      by_cases h7:j<7
      ·by_cases hl1:q+1<n
       ·have hne:=HRO'.out h7 hl1
        have hs4:=HC3.out (q+1) (by rw [HL.out];exact hl1)
        generalize zs.getD (q+1) 0=y at *;have hy:(y == 0)=false:=by simpa using hne
        clear hne;go_wp2_with fail
        refine (HWI3.out.putP (j:Nat) 3 (by omega) (by omega) (by omega) (by simp;omega) (by omega)).mono ?_
        rintro e w4 ⟨rfl,hwi4,hb4,hk4⟩;have HWI4:Hid (SI w4 B R (N+7) (V+j*2 ^ (N+4))):=by simpa [Hid] using hwi4
        have HB4:Hid (Below B w0 w4/\Kp R w0 w4):=⟨hbel2.trans hb4,hkp2.trans hk4⟩;clear hwi4 hb4 hk4 HWI3;go_wp2;go_roundw
        case rel=>exact ⟨k+1+j,N+7,V+j*2 ^ (N+4),f,by have:=HQJ.out;omega,by have:=HQJ.out;go_num,by omega,by omega,HE.out,HWI4.out,HB4.out⟩
        case measure=>have:=HQJ.out;simp [intOf];omega
       ·have hl2:decide ((q:Int)+1<(n:Int))=false:=by simp;omega
        go_wp2_with fail
        refine (HWI3.out.putP (j:Nat) 3 (by omega) (by omega) (by omega) (by simp;omega) (by omega)).mono ?_
        rintro e w4 ⟨rfl,hwi4,hb4,hk4⟩;have HWI4:Hid (SI w4 B R (N+7) (V+j*2 ^ (N+4))):=by simpa [Hid] using hwi4
        have HB4:Hid (Below B w0 w4/\Kp R w0 w4):=⟨hbel2.trans hb4,hkp2.trans hk4⟩;clear hwi4 hb4 hk4 HWI3;go_wp2;go_roundw
        case rel=>exact ⟨k+1+j,N+7,V+j*2 ^ (N+4),f,by have:=HQJ.out;omega,by have:=HQJ.out;go_num,by omega,by omega,HE.out,HWI4.out,HB4.out⟩
        case measure=>have:=HQJ.out;simp [intOf];omega
      ·go_wp2_with fail
       refine (HWI3.out.putP (j:Nat) 3 (by omega) (by omega) (by omega) (by simp;omega) (by omega)).mono ?_
       rintro e w4 ⟨rfl,hwi4,hb4,hk4⟩;have HWI4:Hid (SI w4 B R (N+7) (V+j*2 ^ (N+4))):=by simpa [Hid] using hwi4
       have HB4:Hid (Below B w0 w4/\Kp R w0 w4):=⟨hbel2.trans hb4,hkp2.trans hk4⟩;clear hwi4 hb4 hk4 HWI3;go_wp2;go_roundw
       case rel=>exact ⟨k+1+j,N+7,V+j*2 ^ (N+4),f,by have:=HQJ.out;omega,by have:=HQJ.out;go_num,by omega,by omega,HE.out,HWI4.out,HB4.out⟩
       case measure=>have:=HQJ.out;simp [intOf];omega
   ·have E:=HQ'.out hz
    have HE:Hid (lp zs f (k+1) (N+4) (V+x.toNat*2 ^ N)=lpG zs n0 V0):=E.symm;have hpos:0<x:=by omega
    have HB2:Hid (Below B w0 w2/\Kp R w0 w2):=⟨hbel2,hkp2⟩;clear HZ' HQ' E hbel2 hkp2;go_wp2;go_roundw
    case rel=>exact ⟨k+1,N+4,V+x.toNat*2 ^ N,f,by omega,by go_num,by omega,by omega,HE.out,HWI2.out,HB2.out⟩
    case measure=>simp [intOf];omega
  ·have hkn:k=n:=by omega
   subst hkn;have E:=HLE.out f k N V (by omega)
   rw [HP.out] at E;have HA:Hid (SI wr B R (lpG zs n0 V0).1 (lpG zs n0 V0).2):=by rw [E];exact HWI.out
   clear E HWI HP;go_wp2
   go_end0
   exact ⟨rfl,HA.out,hbel,hkp⟩
theorem z7f (a:Option Addr) (cap:Nat) (zs:List Int) (w:World) (hb:Ins w a zs) (hn:zs.length<=80) :
  Calls Tryz.prog 121 #[.slice a zs.length cap] w fun e w'=>
   e=.returned (.slice (some ⟨w.heap.size,0,none⟩) zs.length zs.length)/\OwI w' w.heap.size w.heap.size zs.length (zh zs (sbL zs 12)).2.2/\Below w.heap.size w w':=by
 obtain ⟨i0,hi,hz0,hz1,hz2⟩:=info_parts Tryz.infoI64;have HAF:Hid _:=zmp zs;have HAB:Hid _:=fun M k c out (h:At zs M k c out) h1 h2 h3=>zmd h h1 h2 hn h3
 have HAY:Hid _:=fun M k c out (h:At zs M k c out)=>zpt h
 have HAN:Hid _:=fun M k c out (h:At zs M k c out)=>zqy h
 have HAS:Hid _:=fun M c out h1 h2 h3=>@zl4 zs M c out h1 h2 h3
 have HAE:Hid _:=fun M c out h1 h2=>@zq6 zs M c out h1 h2
 generalize hlen:zs.length=n at *;have HL:Hid (zs.length=n):=hlen;clear hlen
 go_enter Tryz.func121,Tryz.ntmps121
 go_wp2_with (at_make;refine wpList_make_full _ rfl _ _ 57 rfl w.heap.size 3 i0 (.int .i64 0) 1 Tryz.underlying57 hi hz0 hz1 .i64 .i64 _ _ n rfl rfl rfl rfl (by rw [hz2];omega) (by unfold maxLen;omega) nl ?_;intro w1 hown hgrow)
 have h0:OwI w1 w.heap.size w.heap.size n (List.replicate n 0):=by
  refine ⟨?_,by intro z hz;simp at hz;omega⟩
  rw [z0n] at hown
  simpa using hown
 have hbw:Bw w w1:=(Below.refl _ _).grown hgrow nl (by intro k hk;cases hk)
 have H0:Hid (OwI w1 w.heap.size w.heap.size n (List.replicate n 0)):=h0;clear h0 hown hgrow hi hz0 hz1 hz2
 go_loopw [4,5] (fun x l wr=>∃ (M c:Nat) (y:Int) (out:List Int),y=M/\1<=M/\M<=13/\l=.int .i64 y/\x=.int .i64 c/\c<=8192000/\cv zs (sbL zs (M-1)) (M-1)=c/\(zh zs (sbL zs (M-1))).2.2=out/\OwI wr w.heap.size w.heap.size n out/\Below w.heap.size w wr) (fun _ l _=>13-(intOf l).toNat)
 case atStart=>exact ⟨1,0,1,List.replicate n 0,rfl,by omega,by omega,rfl,rfl,by omega,HAF.out.1,HAF.out.2,H0.out,hbw⟩
 case round=>
  clear H0 hbw;obtain ⟨M,c,y,out,hy,hM1,hM,rfl,rfl,hc,hcv,hout,hown,hbel⟩:=hrel;have HMY:Hid (y=(M:Int)):=hy;have HM1:Hid (1<=M/\M<=13):=⟨hM1,hM⟩;have HCV:Hid (cv zs (sbL zs (M-1)) (M-1)=c/\(zh zs (sbL zs (M-1))).2.2=out):=⟨hcv,hout⟩;have HO:Hid (OwI wr w.heap.size w.heap.size n out):=hown;have hy1:1<=y/\y<=13:=by omega
  clear hy hM1 hM hcv hout hown
  by_cases hL12:y<=12
  ·have HAT:Hid (At zs M 0 (c*2) out):=HAS.out M c out HM1.out.1 HCV.out.1 HCV.out.2
   have hM12:M<=12:=by have:=HMY.out;omega
   have HM12:Hid (M<=12):=hM12;clear hM12 HCV;have HBL:Hid (Bw w wr):=hbel;clear hbel;go_wp2
   go_loopw [4,6] (fun x i wi=>∃ (k d:Nat) (o2:List Int),k<=n/\i=.int .i64 k/\x=.int .i64 d/\At zs M k d o2/\OwI wi w.heap.size w.heap.size n o2/\Below w.heap.size w wi) (fun _ i _=>n-(intOf i).toNat)
   case atStart=>exact ⟨0,c*2,out,Nat.zero_le _,rfl,by go_num,HAT.out,HO.out,HBL.out⟩
   case round=>
    clear HAT HO HBL;obtain ⟨k,d,o2,hk,rfl,rfl,hat,hown,hbel⟩:=hrel;have HAT:Hid (At zs M k d o2):=hat;have HO:Hid (OwI wr w.heap.size w.heap.size n o2):=hown;obtain ⟨hd,hol⟩:=HAB.out M k d o2 hat HM1.out.1 HM12.out (by omega)
    clear hat hown
    by_cases hlt:k<n
    ·obtain ⟨b1,o1,rfl,hb1,hc1⟩:=(hb.below hbel nl).len_pos k (by rw [HL.out];exact hlt)
     have hs1:=hc1 k (by rw [HL.out];exact hlt)
     have g1:=z3q hb.1 k;have HY:=HAY.out M k d o2 HAT.out;have HN:=HAN.out M k d o2 HAT.out;clear hc1;generalize zs.getD k 0=x at *
     by_cases hx:x=y
     ·have HA2:Hid (At zs M (k+1) (d+1) (o2.set k ((d:Nat):Int))):=HY (hx.trans HMY.out)
      subst hx;have hdst:=HO.out.cell k (by rw [hol];exact hlt)
      have hfz:=HO.out.frozen k;have hdr:-9223372036854775808<=((d:Nat):Int)/\((d:Nat):Int)<=9223372036854775807:=by omega
      have HR:Hid (OwI (wr.setCell ⟨w.heap.size,k,none⟩ (.int .i64 (d:Nat))) w.heap.size w.heap.size n (o2.set k ((d:Nat):Int))):=HO.out.store k ((d:Nat):Int) hdr;have HB:Hid (Bw w (wr.setCell ⟨w.heap.size,k,none⟩ (.int .i64 (d:Nat)))):=hbel.setCell (p:=⟨w.heap.size,k,none⟩) nl _;clear HY HN HO hbel hol hdr;generalize o2.getD k 0=old at *;go_wp2;go_roundw
      case rel=>exact ⟨k+1,d+1,_,by omega,by go_num,by go_num,HA2.out,by simpa using HR.out,by simpa using HB.out⟩
      case measure=>simp [intOf];omega
     ·have HA2:Hid (At zs M (k+1) d o2):=HN (fun h=>hx (h.trans HMY.out.symm))
      have hxx:(x == y)=false:=by simpa using hx
      clear HY HN hx hol;go_wp2;go_roundw
      case rel=>exact ⟨k+1,d,o2,by omega,by go_num,rfl,HA2.out,HO.out,hbel⟩
      case measure=>simp [intOf];omega
    ·have hkn:k=n:=by omega
     subst hkn;have HE:=HAE.out M d o2 HM1.out.1 HAT.out;have HE1:Hid _:=HE;clear HE hol;go_wp2;go_roundw
     case rel=>exact ⟨M+1,d,y+1,o2,by have:=HMY.out;omega,by omega,by have:=HM12.out;omega,by go_num,rfl,hd,HE1.out.1,HE1.out.2,HO.out,hbel⟩
     case measure=>simp [intOf];omega
  ·have hLe:M=13:=by have:=HMY.out;have:=HM1.out;omega
   subst hLe;have HA:Hid (OwI wr w.heap.size w.heap.size n (zh zs (sbL zs 12)).2.2):=by have h:(zh zs (sbL zs 12)).2.2=out:=HCV.out.2;rw [h];exact HO.out
   clear HO HCV;go_wp2;go_ret;exact ⟨rfl,HA.out,hbel⟩
theorem zo4 (g ca:Nat) (ls:List Int) (b:Option Addr) (cb:Nat) (ts:List Int) (R B n0 V0:Nat) (w0 w:World) (hw:SI w B R n0 V0) (ha:RowT w g ls) (hgR:g≠R) (hb:Ins w0 b ts) (hB:w0.heap.size=B) (hbel:Below B w0 w)
  (hl:ls.length<=80) (hok:∀ z ∈ ls,0<=z/\z<=12) (ht:ts.length<=300) (htt:∀ z ∈ ts,0<=z/\z<ls.length) (hn4:n0+ts.length*12<=4096) :
  Calls Tryz.prog 95 #[.pointer (some ⟨R,0,none⟩),.slice (some ⟨g,0,none⟩) ls.length ca,.slice b ts.length cb] w fun e w'=>e=.returned (.tuple #[])/\SI w' B R (n0+hN ls ts ts.length) (V0+hV ls (zh ls (sbL ls 12)).2.2 ts ts.length*2 ^ n0)/\Below B w0 w'/\Kp R w w':=by
 have HOK:Hid (∀ k,k<ls.length->0<=ls.getD k 0/\ls.getD k 0<=12):=fun k hk=>hok _ (zp hk)
 have HTT:Hid (∀ k,k<ts.length->0<=ts.getD k 0/\ts.getD k 0<ls.length):=fun k hk=>htt _ (zp hk)
 have HNL:Hid _:=zn3 (ts:=ts) hok;have HCL:Hid _:=z5g ls (sbL ls 12);have HCR:Hid (∀ z ∈ (zh ls (sbL ls 12)).2.2,0<=z/\z<=8192000):=zjd ls hl;have HLC:=z7f (some ⟨g,0,none⟩) ca ls w (ha.ins (fun z hz=>by have:=hok z hz;omega)) hl
 have HA:Hid (RowT w g ls/\SI w B R n0 V0/\Ins w0 b ts/\w0.heap.size=B/\Below B w0 w):=⟨ha,hw,hb,hB,hbel⟩;have hRlt:R<w.heap.size:=by obtain ⟨_,h,_⟩:=hw;exact (Array.getElem?_eq_some_iff.1 h).1
 have hBw:B<=w.heap.size:=by obtain ⟨_,_,_,_,_,h⟩:=hw;exact h
 clear hok htt ha hw hb hB hbel
 go_enter Tryz.func95,Tryz.ntmps95
 go_wp2_with fail
 refine HLC.mono ?_;clear HLC;rintro e w1 ⟨rfl,hc1,hb1⟩;have HBK:Hid (RowT w1 w.heap.size (zh ls (sbL ls 12)).2.2/\RowT w1 g ls/\Kp R w w1):=⟨hc1.rowT,HA.out.1.kp (Kp.below (R:=R) hb1) hgR,Kp.below hb1⟩;have HS1:Hid (SI w1 B R (n0+0) (V0+0*2 ^ n0)/\Below B w0 w1):=⟨by simpa using HA.out.2.1.stay hb1,HA.out.2.2.2.2.trans (hb1.mono hBw)⟩
 have hgcR:w.heap.size≠R:=by omega
 clear hc1 hb1;generalize w.heap.size=gc at *;generalize hcs0:(zh ls (sbL ls 12)).2.2=cs at *;have HCSE:Hid ((zh ls (sbL ls 12)).2.2=cs/\True):=⟨hcs0,trivial⟩;clear hcs0;generalize hT:ts.length=T at *;have HTL:Hid (ts.length=T):=hT;clear hT;generalize hln:ls.length=n at *;have HLL:Hid (ls.length=n):=hln;clear hln;go_wp2
 go_loopw [7] (fun i wr=>∃ k:Nat,k<=T/\i=.int .i64 k/\SI wr B R (n0+hN ls ts k) (V0+hV ls cs ts k*2 ^ n0)/\Below B w0 wr/\Kp R w1 wr) (fun i _=>T-(intOf i).toNat)
 case atStart=>exact ⟨0,Nat.zero_le _,rfl,HS1.out.1,HS1.out.2,Kp.refl _ _⟩
 case round=>
  clear HS1;obtain ⟨k,hk,rfl,hsj,hbl,hkp⟩:=hrel;have HS:Hid (SI wr B R (n0+hN ls ts k) (V0+hV ls cs ts k*2 ^ n0)/\Below B w0 wr/\Kp R w1 wr):=⟨hsj,hbl,hkp⟩;clear hsj hbl hkp
  by_cases hlt:k<T
  ·obtain ⟨b1,o1,rfl,hb1,hc1⟩:=HA.out.2.2.1.len_pos k (by rw [HTL.out];exact hlt)
   have HB1:Hid (b1<B):=by have:=HA.out.2.2.2.1;unfold Hid;omega
   have HT0:Hid (∀ W,Below B w0 W->W.cell? ⟨b1,o1+k,none⟩=some (.int .i64 (ts.getD k 0))):=fun W hW=>keep hW HB1.out (hc1 k (by rw [HTL.out];exact hlt))
   have hsr:=HTT.out k hlt;have hnl:=HNL.out k;have HN1:Hid (hN ls ts (k+1)=hN ls ts k+zN ls (ts.getD k 0)):=rfl;have HV1:Hid (hV ls cs ts (k+1)=hV ls cs ts k+rvp (cs.getD (ts.getD k 0).toNat 0).toNat (zN ls (ts.getD k 0)) (zN ls (ts.getD k 0))*2 ^ hN ls ts k):=rfl;generalize ts.getD k 0=sy at *;obtain ⟨sn,rfl⟩:∃ j:Nat,sy=j:=⟨sy.toNat,by omega⟩
   have hsn:sn<n:=by omega
   have HL0:Hid (∀ W,Kp R w1 W->W.cell? ⟨g,sn,none⟩=some (.int .i64 (ls.getD sn 0))/\g<W.heap.size):=fun W hW=>⟨(HBK.out.2.1.kp hW hgR).cell sn (by rw [HLL.out];exact hsn),(HBK.out.2.1.kp hW hgR).lt⟩
   have hLr:=HOK.out sn (by omega)
   simp only [zN,Int.toNat_natCast] at HN1 HV1
   generalize ls.getD sn 0=Lz at *;obtain ⟨L,rfl⟩:∃ j:Nat,Lz=j:=⟨Lz.toNat,by omega⟩
   simp only [Int.toNat_natCast] at HN1 HV1
   have hcr:=HCR.out _ (zp (zs:=cs) (k:=sn) (by rw [HCL.out];exact hsn))
   have HCC0:Hid (∀ W,Kp R w1 W->W.cell? ⟨gc,sn,none⟩=some (.int .i64 (cs.getD sn 0))/\gc<W.heap.size):=fun W hW=>⟨(HBK.out.1.kp hW hgcR).cell sn (by rw [HCL.out];exact hsn),(HBK.out.1.kp hW hgcR).lt⟩
   generalize hcz:cs.getD sn 0=cz at *;obtain ⟨c,rfl⟩:∃ j:Nat,cz=j:=⟨cz.toNat,by omega⟩
   simp only [Int.toNat_natCast] at HV1
   clear hc1 hcz hb1;have t1:=HT0.out wr HS.out.2.1;obtain ⟨t2,t2l⟩:=HL0.out wr HS.out.2.2;have tb:b1<wr.heap.size:=by have:=HS.out.2.1.size;have:=HB1.out;have:=HA.out.2.2.2.1;omega
   have hN8:n0+hN ls ts k+12<=4096:=by omega
   generalize hN ls ts k=N at *;generalize hV ls cs ts k=V at *;go_wp2
   go_loopw [8] (fun y wi=>∃ (j:Nat) (z:Int),j<=L/\z=(L:Int)-1-j/\y=.int .i64 z/\SI wi B R (n0+N+j) (V0+V*2 ^ n0+rvp c L j*2 ^ (n0+N))/\Below B w0 wi/\Kp R w1 wi) (fun y _=>((intOf y)+1).toNat)
   case atStart=>exact ⟨0,_,Nat.zero_le _,by simp,rfl,by simpa [rvp] using HS.out.1,HS.out.2⟩
   case round=>
    clear HS t1 t2 t2l tb;obtain ⟨j,z,hj,hzj,rfl,hsj,hbl,hkp⟩:=hrel;have HS:Hid (SI wr B R (n0+N+j) (V0+V*2 ^ n0+rvp c L j*2 ^ (n0+N))/\Below B w0 wr/\Kp R w1 wr):=⟨hsj,hbl,hkp⟩;have HZJ:Hid (z=(L:Int)-1-j):=hzj;clear hsj hbl hkp
    by_cases hjl:j<L
    ·have hz0:0<=z/\z<=11:=by omega
     have HZN:Hid (z.toNat=L-1-j):=by unfold Hid;omega
     clear hzj;have t1:=HT0.out wr HS.out.2.1;obtain ⟨t3,t3l⟩:=HCC0.out wr HS.out.2.2;have tb:b1<wr.heap.size:=by have:=HS.out.2.1.size;have:=HB1.out;have:=HA.out.2.2.2.1;omega
     have HBT:Hid (bits .and .i64 ((c:Int) / 2 ^ z.toNat) 1=((c / 2 ^ (L-1-j) % 2:Nat):Int)):=by unfold Hid;rw [zp3 c z.toNat (by omega),HZN.out]
     go_wp2_with fail
     rw [HBT.out];refine (HS.out.1.putPn (c / 2 ^ (L-1-j) % 2) 1 (by omega) (by have:=Nat.mod_lt (c / 2 ^ (L-1-j)) (show 0<2 by omega);omega) (by omega)).mono ?_
     rintro e w2 ⟨rfl,hs2,hb2,hk2⟩;have HE:rvp c L j*2 ^ (n0+N)+c / 2 ^ (L-1-j) % 2*2 ^ (n0+N+j)=rvp c L (j+1)*2 ^ (n0+N):=by
      have:=zm9 0 c L j (n0+N)
      omega
     rw [Nat.add_assoc (V0+V*2 ^ n0),HE] at hs2;have HS2:Hid (SI w2 B R (n0+N+(j+1)) (V0+V*2 ^ n0+rvp c L (j+1)*2 ^ (n0+N))/\Below B w0 w2/\Kp R w1 w2):=⟨hs2,HS.out.2.1.trans hb2,HS.out.2.2.trans hk2⟩;clear hs2 hb2 hk2 HE HS t1 t3 t3l tb HBT HZN;go_wp2;go_roundw
     case rel=>exact ⟨j+1,z-1,by omega,by have:=HZJ.out;omega,by go_num,HS2.out⟩
     case measure=>simp [intOf];omega
    ·have hjL:j=L:=by omega
     subst hjL;have hz1:z=-1:=by omega
     subst hz1;clear hzj;have HS2:Hid (SI wr B R (n0+hN ls ts (k+1)) (V0+hV ls cs ts (k+1)*2 ^ n0)):=by
      unfold Hid;rw [HN1.out,HV1.out,<-Nat.add_assoc,<-zpn];exact HS.out.1
     go_wp2
     go_roundw
     case rel=>exact ⟨k+1,by omega,by go_num,HS2.out,HS.out.2⟩
     case measure=>simp [intOf];omega
  ·have hkn:k=T:=by omega
   subst hkn;go_wp2
   go_end0
   exact ⟨rfl,by rw [HCSE.out.1,HTL.out];exact HS.out.1,HS.out.2.1,HBK.out.2.2.trans HS.out.2.2⟩
theorem zpd (k:Nat) (h:k<=12):wrap64 (2 ^ k)=((2 ^ k:Nat):Int):=by
 have h2:2 ^ k<=2 ^ 12:=Nat.pow_le_pow_right (by omega) h
 have e:((2:Int) ^ k)=((2 ^ k:Nat):Int):=by simp
 rw [e];generalize 2 ^ k=P at *;exact IntWalk.wrap64_in _ (by omega)
theorem zey (g cap:Nat) (zs:List Int) (R B n0 V0:Nat) (w0:World) (hb:RowT w0 g zs) (hgR:g≠R) (hw:SI w0 B R n0 V0) (hn0:n0<=2000) (hn:zk zs=true) :
  Calls Tryz.prog 98 #[.pointer (some ⟨R,0,none⟩),.slice (some ⟨g,0,none⟩) zs.length cap] w0 fun e w'=>e=.returned (.tuple #[])/\SI w' B R (nbG zs n0 zs.length) (vbG zs n0 V0 zs.length)/\Below B w0 w'/\Kp R w0 w':=by
 obtain ⟨hn1,hn2⟩:=z0p hn;have HE:Hid _:=fun k=>z6n hn k
 have HU:Hid _:=fun k hk=>zdl hn k hk
 have HNB:Hid _:=fun k=>zj1 hn n0 k
 have HREST:Hid _:=fun k h1 h2=>zr2 hn n0 V0 k h1 h2
 have HEND:Hid (lft zs zs.length=0):=znw hn;have HW:Hid (SI w0 B R (nbG zs n0 0) (vbG zs n0 V0 0)):=by unfold Hid;simpa [nbG,vbG,nb,vb] using hw
 clear hn hw;generalize hlen:zs.length=n at *;have HL:Hid (zs.length=n):=hlen;clear hlen
 go_enter Tryz.func98,Tryz.ntmps98
 go_wp2
 go_loopw [4,5] (fun l i wr=>∃ k:Nat,k<=n/\i=.int .i64 k/\l=.int .i64 (lft zs k:Nat)/\SI wr B R (nbG zs n0 k) (vbG zs n0 V0 k)/\Below B w0 wr/\Kp R w0 wr) (fun _ i _=>n-(intOf i).toNat)
 case atStart=>exact ⟨0,Nat.zero_le _,rfl,by simp [lft],HW.out,Below.refl _ _,Kp.refl _ _⟩
 case round=>
  clear HW;obtain ⟨k,hk,rfl,rfl,hwi,hbel,hkp⟩:=hrel;have HWI:Hid (SI wr B R (nbG zs n0 k) (vbG zs n0 V0 k)):=hwi;clear hwi
  by_cases hl0:lft zs k=0
  ·have hr:=HREST.out k hk hl0
   have HF:Hid (SI wr B R (nbG zs n0 n) (vbG zs n0 V0 n)):=by rw [hr.1,hr.2];exact HWI.out
   rw [hl0];clear hr hl0
   by_cases hlt:k<n
   ·go_wp2
    go_end0
    exact ⟨rfl,HF.out,hbel,hkp⟩
   ·go_wp2
    go_end0
    exact ⟨rfl,HF.out,hbel,hkp⟩
  ·have hlt:k<n:=by
    have:k≠n:=fun h=>hl0 (by rw [h];exact HEND.out)
    omega
   have hglt:g<wr.heap.size:=(hb.kp hkp hgR).lt;have hs1:=(hb.kp hkp hgR).cell k (by rw [HL.out];exact hlt)
   have hl:=(HE.out k).2;have hu:=HU.out k hlt;have hnb:=HNB.out k;have HSN:Hid (nbG zs n0 (k+1)=nbG zs n0 k+bl (lft zs k)):=zkr zs n0 k;have HSV:Hid (vbG zs n0 V0 (k+1)=vbG zs n0 V0 k+(zs.getD k 0).toNat*2 ^ nbG zs n0 k):=zl1 zs n0 V0 k;have hb7:=z5x (lft zs k) hl;have hb8:=zgc (lft zs k) (by omega)
   have HGE:Hid _:=fun j hj=>zgu (lft zs k) j (by omega) hj
   generalize hxx:zs.getD k 0=x at *;generalize lft zs k=l at *;generalize nbG zs n0 k=N at *;generalize vbG zs n0 V0 k=V at *;have hxl:x<2 ^ bl l:=by
    have e:((2:Int) ^ bl l)=((2 ^ bl l:Nat):Int):=by simp
    rw [e];omega
   have HXL:Hid (x<2 ^ ((bl l:Nat):Int).toNat):=by simpa [Hid] using hxl
   have HB8:Hid (l<2 ^ bl l):=hb8;clear hxl hb8;generalize bl l=m at *;go_wp2
   go_loopw [6] (fun i wi=>∃ j:Nat,j<=m/\i=.int .i64 j/\wi=wr) (fun i _=>m-(intOf i).toNat)
   case atStart=>exact ⟨0,Nat.zero_le _,rfl,rfl⟩
   case round=>
    obtain ⟨j,hj,rfl,rfl⟩:=hrel
    by_cases hjl:j<m
    ·have hp:wrap64 (2 ^ j)<=(l:Int):=by rw [zpd j (by omega)];have:=HGE.out j hjl;omega
     go_wp2
     go_roundw
     case rel=>exact ⟨j+1,by omega,by go_num,by simp⟩
     case measure=>simp [intOf];omega
    ·have hjm:j=m:=by omega
     subst hjm;have hp:(l:Int)<wrap64 (2 ^ j):=by rw [zpd _ (by omega)];have:=HB8.out;omega
     have hp2:decide (wrap64 (2 ^ j)<=(l:Int))=false:=by simpa using hp
     have HP:Hid ((l:Int)<wrap64 (2 ^ j)):=hp;clear hj hjl HGE HB8 hp;go_wp2_with fail
     refine (HWI.out.putP x (j:Nat) hu.2.1 (by omega) (by omega) HXL.out (by omega)).mono ?_
     rintro e w2 ⟨rfl,hwi2,hb2,hk2⟩;have HWI2:Hid (SI w2 B R (nbG zs n0 (k+1)) (vbG zs n0 V0 (k+1))):=by rw [HSN.out,HSV.out];simpa [Hid] using hwi2
     have HB2:Hid (Below B w0 w2/\Kp R w0 w2):=⟨hbel.trans hb2,hkp.trans hk2⟩;have hglt2:g<w2.heap.size:=(hb.kp HB2.out.2 hgR).lt;have hc3:=(hb.kp HB2.out.2 hgR).cell;have hs3:=hc3 k (by rw [HL.out];exact hlt)
     rw [hxx] at hs3;clear hwi2 hb2 hbel hkp HWI hc3 hs1 hk2;have E1:Hid ((l:Int)-x=((lft zs (k+1):Nat):Int)):=by unfold Hid;omega
     have hx2:0<=x/\x<=l:=hu.2;clear HSN HSV HXL hu hp2 HP;go_wp2;go_roundw
     case rel=>exact ⟨k+1,by omega,by go_num,by rw [E1.out],HWI2.out,HB2.out⟩
     case measure=>simp [intOf];omega
theorem zku {cs:List Int} (hc:∀ i,i<cs.length->0<=cs.getD i 0/\cs.getD i 0<=1000000) (k:Nat) (hk:k<=cs.length):0<=(cs.take k).sum/\(cs.take k).sum<=1000000*k:=by
 induction k with
 | zero=>simp
 | succ k ih=>
  have h1:=ih (by omega)
  have h2:=hc k (by omega)
  rw [z3h cs k (by omega)]
  omega
theorem zhm (a:Option Addr) (cap:Nat) (cs:List Int) (w:World) (hb:Ins w a cs) (hc:z1y cs=true) (hr:zch cs) :
  Calls Tryz.prog 97 #[.slice a cs.length cap] w fun e w'=>e=.returned (.slice (some ⟨w.heap.size,0,none⟩) cs.length cs.length)/\OwI w' w.heap.size w.heap.size cs.length (zy cs (rest cs))/\Below w.heap.size w w':=by
 obtain ⟨i0,hi,hz0,hz1,hz2⟩:=info_parts Tryz.infoI64;obtain ⟨hn1,hn2⟩:=zb0 hc;have HG:Hid (∀ i,i<cs.length->0<=cs.getD i 0/\cs.getD i 0<=1000000):=fun i hi=>zkc hc i hi
 have HSB:Hid _:=fun k hk=>zku HG.out k hk
 clear hc;generalize hlen:cs.length=n at *;have HL:Hid (cs.length=n):=hlen;clear hlen;have HRO:Hid (zch cs):=hr;clear hr
 go_enter Tryz.func97,Tryz.ntmps97
 go_wp2_with (at_make;refine wpList_make_full _ rfl _ _ 57 rfl w.heap.size 3 i0 (.int .i64 0) 1 Tryz.underlying57 hi hz0 hz1 .i64 .i64 _ _ n rfl rfl rfl rfl (by rw [hz2];omega) (by unfold maxLen;omega) nl ?_;intro w1 hown hgrow)
 have h0:OwI w1 w.heap.size w.heap.size n (part (cs.map one) 0):=by
  rw [z3r,List.length_map,HL.out];refine ⟨?_,by intro z hz;simp at hz;omega⟩
  rw [z0n] at hown
  simpa using hown
 have hbw:Bw w w1:=(Below.refl _ _).grown hgrow nl (by intro k hk;cases hk)
 have H0:Hid (OwI w1 w.heap.size w.heap.size n (part (cs.map one) 0)):=h0;clear h0 hown hgrow hi hz0 hz1 hz2
 go_loopw [4,5,6] (fun t x i wr=>∃ k:Nat,k<=n/\i=.int .i64 k/\t=.int .i64 (cs.take k).sum/\x=.int .i64 (64-zf one (cs.take k))/\OwI wr w.heap.size w.heap.size n (part (cs.map one) k)/\Below w.heap.size w wr) (fun _ _ i _=>n-(intOf i).toNat)
 case atStart=>exact ⟨0,Nat.zero_le _,rfl,by simp,by simp [zf],H0.out,hbw⟩
 case round=>
  obtain ⟨k,hk,rfl,rfl,rfl,hown,hbel⟩:=hrel;have HO:Hid (OwI wr w.heap.size w.heap.size n (part (cs.map one) k)):=hown;have hT:=HSB.out k hk;clear hown hbw H0
  by_cases hlt:k<n
  ·obtain ⟨b,off,rfl,hbl,hcells⟩:=hb.len_pos k (by rw [HL.out];exact hlt)
   have hsrc:wr.cell? ⟨b,off+k,none⟩=some (.int .i64 (cs.getD k 0)):=(hbel.cell (p:=⟨b,off+k,none⟩) hbl).trans (hcells k (by rw [HL.out];exact hlt))
   have hx:=HG.out k hlt;have hF:=z0t one 1 z27 (cs.take k);have hF2:(cs.take k).length<=80:=by rw [List.length_take,HL.out];omega
   have HS:Hid (zf one (cs.take (k+1))=zf one (cs.take k)+one (cs.getD k 0)):=z1j one cs k (by rw [HL.out];exact hlt)
   have HU:Hid ((cs.take (k+1)).sum=(cs.take k).sum+cs.getD k 0):=z3h cs k (by rw [HL.out];exact hlt)
   have hdst:=HO.out.cell k (by rw [z2m _ _ (by rw [List.length_map,HL.out];omega),List.length_map,HL.out];exact hlt)
   have hfz:=HO.out.frozen k;have HP1:Hid _:=zdx cs k (by rw [HL.out];exact hlt)
   have HP0:Hid _:=zcb cs k (by rw [HL.out];exact hlt)
   generalize cs.getD k 0=x at *;generalize hFF:zf one (cs.take k)=F at *;generalize hTT:(cs.take k).sum=T at *;have hFb:0<=F/\F<=80:=by omega
   clear hF hF2 hFF hTT hcells hb
   by_cases h5:0<x
   ·have HP:Hid (one x=1):=by simp [Hid,one,h5]
    have R:=HO.out.store k 1 (by omega)
    rw [HP1.out h5] at R;have HR:Hid (OwI (wr.setCell ⟨w.heap.size,k,none⟩ (.int .i64 1)) w.heap.size w.heap.size n (part (cs.map one) (k+1))):=R;have HB:Hid (Bw w (wr.setCell ⟨w.heap.size,k,none⟩ (.int .i64 1))):=hbel.setCell (p:=⟨w.heap.size,k,none⟩) nl (.int .i64 1);clear R HP1 HP0;go_wp2;go_roundw
    case rel=>exact ⟨k+1,by omega,by go_num,by rw [HU.out],by rw [HS.out,HP.out];go_num,by simpa using HR.out,by simpa using HB.out⟩
    case measure=>simp [intOf];omega
   ·have HP:Hid (one x=0):=by simp [Hid,one,h5]
    have HR:Hid (OwI wr w.heap.size w.heap.size n (part (cs.map one) (k+1))):=by rw [<-HP0.out h5];exact HO.out
    clear HP1 HP0;go_wp2;go_roundw
    case rel=>exact ⟨k+1,by omega,by go_num,by rw [HU.out],by rw [HS.out,HP.out];simp,HR.out,hbel⟩
    case measure=>simp [intOf];omega
  ·have hkn:k=n:=by omega
   subst hkn;have hall:=HO.out;have el:(cs.map one).length=k:=by rw [List.length_map];exact HL.out
   rw [show part (cs.map one) k=cs.map one from by rw [<-el];exact z7x _] at hall
   have HA:Hid (OwI wr w.heap.size w.heap.size k (zy cs 0)):=hall;have e:cs.take k=cs:=List.take_of_length_le (by rw [HL.out];exact Nat.le_refl _)
   rw [e] at hT ⊢;clear hall HO el e;have hsm:1<=zf one cs/\zf one cs<=64:=HRO.out;generalize hS:zf one cs=S at *;have HS:Hid (zf one cs=S):=hS;clear hS;generalize cs.sum=T at *;have HFA:Hid (∀ j,Fair cs (zy cs j) j):=fun j=>z4v (z52 (by rw [HS.out];exact hsm.1)) j
   have HPI:Hid (∀ ns,0<=pick cs ns k/\(pick cs ns k).toNat<k):=fun ns=>by have:=zae (ns:=ns) (z52 (cs:=cs) (by rw [HS.out];exact hsm.1));rw [HL.out] at this;exact ⟨this.1,this.2.1⟩
   have HR:Hid (rest cs=(64-S).toNat):=by unfold Hid rest;rw [HS.out]
   go_wp2
   go_loopw [5] (fun x wr=>∃ j:Nat,S+j<=64/\x=.int .i64 (64-S-j)/\OwI wr w.heap.size w.heap.size k (zy cs j)/\Below w.heap.size w wr) (fun x _=>(intOf x).toNat)
   case atStart=>exact ⟨0,by omega,by simp,HA.out,hbel⟩
   case round=>
    clear HA hbel;obtain ⟨j,hj,rfl,hown,hbel⟩:=hrel;have HO:Hid (OwI wr w.heap.size w.heap.size k (zy cs j)):=hown;clear hown
    by_cases hlt2:S+j<64
    ·have hf:Fair cs (zy cs j) j:=HFA.out j
     have HF:Hid (Fair cs (zy cs j) j):=hf;have HQ:Hid ((zy cs j).length=k):=by have:=hf.1;rw [HL.out] at this;exact this
     have hia:Ins wr a cs:=hb.below hbel nl;have hin:Ins wr (some ⟨w.heap.size,0,none⟩) (zy cs j):=HO.out.byt;have HPS:Hid (pick cs (zy cs j) k=pick cs (zy cs j) k):=rfl;have HGV:Hid (z7t cs (zy cs j)=zy cs (j+1)):=rfl;have HSO:Hid (∀ q,(zy cs j).getD q 0=(zy cs j).getD q 0):=fun _=>rfl
     clear hf;generalize hns:zy cs j=ns at *;go_wp2
     go_loopw [7,8] (fun x i wi=>∃ k' m:Nat,k'<=k/\i=.int .i64 k'/\x=.int .i64 (pick cs ns k')/\wi=wr.drewN m) (fun _ i _=>k-(intOf i).toNat)
     case atStart=>exact ⟨0,0,Nat.zero_le _,rfl,rfl,rfl⟩
     case round=>
      obtain ⟨k',m,hk',rfl,rfl,rfl⟩:=hrel
      by_cases hlt:k'<k
      ·obtain ⟨b1,o1,rfl,hb1,hc1⟩:=hia.len_pos k' (by rw [HL.out];exact hlt)
       have hs1:=hc1 k' (by rw [HL.out];exact hlt)
       have hs2:=HO.out.cell k' (by rw [HQ.out];exact hlt)
       have hx:=HG.out k' hlt;have hy:=HF.out.bnd k';have hp:=z7l cs ns k'
       by_cases hpos:0<cs.getD k' 0
       ·by_cases hpn:pick cs ns k'<0
        ·have HP:Hid (pick cs ns (k'+1)=k'):=z54 ⟨hpos,.inl hpn⟩
         clear hc1;generalize pick cs ns k'=p at *;generalize cs.getD k' 0=x at *;generalize ns.getD k' 0=y at *;go_wp2
         go_quiet (fail)
         go_wp2
         go_roundw
         case rel=>exact ⟨k'+1,_,by omega,by go_num,by rw [HP.out],rfl⟩
         case measure=>simp [intOf];omega
        ·have HPY:Hid _:=@z54 cs ns k'
         have HPN:Hid _:=@z6v cs ns k';have HPP:Hid (z2p cs ns (pick cs ns k') k'↔cs.getD (pick cs ns k').toNat 0*ns.getD k' 0<cs.getD k' 0*ns.getD (pick cs ns k').toNat 0):=by
          unfold Hid z2p
          constructor
          ·rintro ⟨_,h | h⟩
           ·exact absurd h hpn
           ·exact h
          ·exact fun h=>⟨hpos,.inr h⟩
         generalize pick cs ns k'=p at *;obtain ⟨q,rfl⟩:∃ q:Nat,p=q:=⟨p.toNat,by omega⟩
         simp only [Int.toNat_natCast] at HPP
         have hs3:=hc1 q (by rw [HL.out];omega)
         have hs4:=HO.out.cell q (by rw [HQ.out];omega)
         have hu:=HG.out q (by omega)
         have hqn:q<k:=by omega
         have hv:=HF.out.bnd q;clear hc1 hp hpn;generalize cs.getD k' 0=x at *;generalize ns.getD k' 0=y at *;generalize cs.getD q 0=u at *;generalize ns.getD q 0=v at *;have m1:=zpi hx (show 0<=v/\v<=65 by omega)
         have m2:=zpi hu (show 0<=y/\y<=65 by omega)
         have hw1:IntKind.i64.wrap (x*v)=x*v:=IntWalk.i64_in _ (by omega)
         have hw2:IntKind.i64.wrap (u*y)=u*y:=IntWalk.i64_in _ (by omega)
         by_cases hcmp:u*y<x*v
         ·have HP:Hid (pick cs ns (k'+1)=k'):=HPY.out (HPP.out.2 hcmp)
          clear HPY HPN HPP;go_wp2
          go_quiet (fail)
          go_wp2
          go_roundw
          case rel=>exact ⟨k'+1,_,by omega,by go_num,by rw [HP.out],rfl⟩
          case measure=>simp [intOf];omega
         ·have HP:Hid (pick cs ns (k'+1)=q):=HPN.out (fun h=>hcmp (HPP.out.1 h))
          clear HPY HPN HPP;go_wp2
          go_quiet (fail)
          go_wp2
          go_roundw
          case rel=>exact ⟨k'+1,_,by omega,by go_num,by rw [HP.out],rfl⟩
          case measure=>simp [intOf];omega
       ·have HP:Hid (pick cs ns (k'+1)=pick cs ns k'):=z6v (fun h=>hpos h.1)
        clear hc1;generalize pick cs ns k'=p at *;generalize cs.getD k' 0=x at *;obtain rfl:x=0:=by omega
        clear hpos hx;generalize ns.getD k' 0=y at *;go_wp2
        go_quiet (fail)
        go_wp2
        go_roundw
        case rel=>exact ⟨k'+1,_,by omega,by go_num,by rw [HP.out],rfl⟩
        case measure=>simp [intOf];omega
      ·have hkk:k'=k:=by omega
       subst hkk;have hbel3:Bw w (wr.drewN m):=zep hbel m;have HO3:Hid (OwI (wr.drewN m) w.heap.size w.heap.size k' ns):=HO.out.drewN m;have hpi:=HPI.out ns;have hbn:=HF.out.bnd (pick cs ns k').toNat;have hst:zy cs (j+1)=ns.set (pick cs ns k').toNat (ns.getD (pick cs ns k').toNat 0+1):=by
        rw [<-HGV.out];unfold z7t zz;rw [HL.out]
       clear hbel HO hia hin hns;generalize wr.drewN m=w3 at *;generalize pick cs ns k'=p at *;obtain ⟨q,rfl⟩:∃ q:Nat,p=q:=⟨p.toNat,by omega⟩
       simp only [Int.toNat_natCast] at hpi hbn hst
       have hdst:=HO3.out.cell q (by rw [HQ.out];omega)
       have hfz:=HO3.out.frozen q;have R:=HO3.out.store q (ns.getD q 0+1) (by omega)
       rw [<-hst] at R;clear hst;generalize ns.getD q 0=v at *;have HR2:Hid (OwI (w3.setCell ⟨w.heap.size,q,none⟩ (.int .i64 (v+1))) w.heap.size w.heap.size k' (zy cs (j+1))):=R;have HB:Hid (Bw w (w3.setCell ⟨w.heap.size,q,none⟩ (.int .i64 (v+1)))):=hbel3.setCell (p:=⟨w.heap.size,q,none⟩) nl (.int .i64 (v+1));clear R;go_wp2;go_roundw
       case rel=>exact ⟨j+1,by omega,by go_num,by simpa using HR2.out,by simpa using HB.out⟩
       case measure=>simp [intOf];omega
    ·have hje:(64-S).toNat=j:=by omega
     have HF2:Hid (OwI wr w.heap.size w.heap.size k (zy cs (rest cs))):=by rw [HR.out,hje];exact HO.out
     go_wp2
     go_ret;exact ⟨rfl,HF2.out,hbel⟩
end Go.Proofs.YtjmcjbmjgpponaaGreatDoor
