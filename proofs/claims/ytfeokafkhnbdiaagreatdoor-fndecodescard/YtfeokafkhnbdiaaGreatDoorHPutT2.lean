/- Lemmas on the way. -/
import Derived.Test.YtfeokafkhnbdiaaGreatDoorHPut3
import Derived.Test.YtfeokafkhnbdiaaGreatDoorIs1
set_option maxRecDepth 20000
set_option maxHeartbeats 16000000
namespace Go.Proofs.YtfeokafkhnbdiaaGreatDoor
open Go.RowKit
set_option linter.unusedVariables false
theorem l2codes_any (a:Option Addr) (cap:Nat) (zs:List Int) (w:World) (hb:Ins w a zs) (hn:zs.length≤80) :
  Calls Tryz.prog 138 #[.slice a zs.length cap] w fun e w'=>
   e=.returned (.slice (some ⟨w.heap.size,0,none⟩) zs.length zs.length)∧OwI w' w.heap.size w.heap.size zs.length (crun zs (sbL zs 12)).2.2∧Below w.heap.size w w':=by
 obtain ⟨i0,hi,hz0,hz1,hz2⟩:=info_parts Tryz.infoI64
 have HAF:Hid _:=at_first zs
 have HAB:Hid _:=fun M k c out (h:At zs M k c out) h1 h2 h3=>at_bound h h1 h2 hn h3
 have HAY:Hid _:=fun M k c out (h:At zs M k c out)=>at_yes h
 have HAN:Hid _:=fun M k c out (h:At zs M k c out)=>at_no h
 have HAS:Hid _:=fun M c out h1 h2 h3=>@at_start zs M c out h1 h2 h3
 have HAE:Hid _:=fun M c out h1 h2=>@at_end zs M c out h1 h2
 generalize hlen:zs.length=n at *
 have HL:Hid (zs.length=n):=hlen
 clear hlen
 go_enter Tryz.func138,Tryz.ntmps138
 go_wp2_with (at_make;refine wpList_make_full _ rfl _ _ 38 rfl w.heap.size 3 i0 (.int .i64 0) 1 Tryz.underlying38 hi hz0 hz1 .i64 .i64 _ _ n rfl rfl rfl rfl (by rw [hz2];omega) (by unfold maxLen;omega) nl ?_;intro w1 hown hgrow)
 have h0:OwI w1 w.heap.size w.heap.size n (List.replicate n 0):=by
  refine ⟨?_,by intro z hz;simp at hz;omega⟩
  rw [made_zeroI] at hown
  simpa using hown
 have hbw:Below w.heap.size w w1:=(Below.refl _ _).grown hgrow nl (by intro k hk;cases hk)
 have H0:Hid (OwI w1 w.heap.size w.heap.size n (List.replicate n 0)):=h0
 clear h0 hown hgrow hi hz0 hz1 hz2
 go_loopw [4,5] (fun x l wr=>∃ (M c:Nat) (y:Int) (out:List Int),y=M∧1≤M∧M≤13∧l=.int .i64 y∧x=.int .i64 c∧c≤8192000∧cv zs (sbL zs (M-1)) (M-1)=c∧(crun zs (sbL zs (M-1))).2.2=out∧OwI wr w.heap.size w.heap.size n out∧Below w.heap.size w wr) (fun _ l _=>13-(intOf l).toNat)
 case atStart=>exact ⟨1,0,1,List.replicate n 0,rfl,by omega,by omega,rfl,rfl,by omega,HAF.out.1,HAF.out.2,H0.out,hbw⟩
 case round=>
  clear H0 hbw
  obtain ⟨M,c,y,out,hy,hM1,hM,rfl,rfl,hc,hcv,hout,hown,hbel⟩:=hrel
  have HMY:Hid (y=(M:Int)):=hy
  have HM1:Hid (1≤M∧M≤13):=⟨hM1,hM⟩
  have HCV:Hid (cv zs (sbL zs (M-1)) (M-1)=c∧(crun zs (sbL zs (M-1))).2.2=out):=⟨hcv,hout⟩
  have HO:Hid (OwI wr w.heap.size w.heap.size n out):=hown
  have hy1:1≤y∧y≤13:=by omega
  clear hy hM1 hM hcv hout hown
  by_cases hL12:y≤12
  ·have HAT:Hid (At zs M 0 (c*2) out):=HAS.out M c out HM1.out.1 HCV.out.1 HCV.out.2
   have hM12:M≤12:=by have:=HMY.out;omega
   have HM12:Hid (M≤12):=hM12
   clear hM12 HCV
   have HBL:Hid (Below w.heap.size w wr):=hbel
   clear hbel
   go_wp2
   go_loopw [4,6] (fun x i wi=>∃ (k d:Nat) (o2:List Int),k≤n∧i=.int .i64 k∧x=.int .i64 d∧At zs M k d o2∧OwI wi w.heap.size w.heap.size n o2∧Below w.heap.size w wi) (fun _ i _=>n-(intOf i).toNat)
   case atStart=>exact ⟨0,c*2,out,Nat.zero_le _,rfl,by go_num,HAT.out,HO.out,HBL.out⟩
   case round=>
    clear HAT HO HBL
    obtain ⟨k,d,o2,hk,rfl,rfl,hat,hown,hbel⟩:=hrel
    have HAT:Hid (At zs M k d o2):=hat
    have HO:Hid (OwI wr w.heap.size w.heap.size n o2):=hown
    obtain ⟨hd,hol⟩:=HAB.out M k d o2 hat HM1.out.1 HM12.out (by omega)
    clear hat hown
    by_cases hlt:k<n
    ·obtain ⟨b1,o1,rfl,hb1,hc1⟩:=(hb.below hbel nl).len_pos k (by rw [HL.out];exact hlt)
     have hs1:=hc1 k (by rw [HL.out];exact hlt)
     have g1:=getD_rngI hb.1 k
     have HY:=HAY.out M k d o2 HAT.out
     have HN:=HAN.out M k d o2 HAT.out
     clear hc1
     generalize zs.getD k 0=x at *
     by_cases hx:x=y
     ·have HA2:Hid (At zs M (k+1) (d+1) (o2.set k ((d:Nat):Int))):=HY (hx.trans HMY.out)
      subst hx
      have hdst:=HO.out.cell k (by rw [hol];exact hlt)
      have hfz:=HO.out.frozen k
      have hdr:-9223372036854775808≤((d:Nat):Int)∧((d:Nat):Int)≤9223372036854775807:=by omega
      have HR:Hid (OwI (wr.setCell ⟨w.heap.size,k,none⟩ (.int .i64 (d:Nat))) w.heap.size w.heap.size n (o2.set k ((d:Nat):Int))):=HO.out.store k ((d:Nat):Int) hdr
      have HB:Hid (Below w.heap.size w (wr.setCell ⟨w.heap.size,k,none⟩ (.int .i64 (d:Nat)))):=hbel.setCell (p:=⟨w.heap.size,k,none⟩) nl _
      clear HY HN HO hbel hol hdr
      generalize o2.getD k 0=old at *
      go_wp2
      go_roundw
      case rel=>exact ⟨k+1,d+1,_,by omega,by go_num,by go_num,HA2.out,by simpa using HR.out,by simpa using HB.out⟩
      case measure=>simp [intOf];omega
     ·have HA2:Hid (At zs M (k+1) d o2):=HN (fun h=>hx (h.trans HMY.out.symm))
      have hxx:(x == y)=false:=by simpa using hx
      clear HY HN hx hol
      go_wp2
      go_roundw
      case rel=>exact ⟨k+1,d,o2,by omega,by go_num,rfl,HA2.out,HO.out,hbel⟩
      case measure=>simp [intOf];omega
    ·have hkn:k=n:=by omega
     subst hkn
     have HE:=HAE.out M d o2 HM1.out.1 HAT.out
     have HE1:Hid _:=HE
     clear HE hol
     go_wp2
     go_roundw
     case rel=>exact ⟨M+1,d,y+1,o2,by have:=HMY.out;omega,by omega,by have:=HM12.out;omega,by go_num,rfl,hd,HE1.out.1,HE1.out.2,HO.out,hbel⟩
     case measure=>simp [intOf];omega
  ·have hLe:M=13:=by have:=HMY.out;have:=HM1.out;omega
   subst hLe
   have HA:Hid (OwI wr w.heap.size w.heap.size n (crun zs (sbL zs 12)).2.2):=by have h:(crun zs (sbL zs 12)).2.2=out:=HCV.out.2;rw [h];exact HO.out
   clear HO HCV
   go_wp2
   go_ret
   exact ⟨rfl,HA.out,hbel⟩
theorem l2put_t (g ca:Nat) (ls:List Int) (b:Option Addr) (cb:Nat) (ts:List Int) (R B n0 V0:Nat) (w0 w:World) (hw:SI w B R n0 V0) (ha:RowT w g ls) (hgR:g≠R) (hb:Ins w0 b ts) (hB:w0.heap.size=B) (hbel:Below B w0 w)
  (hl:ls.length≤80) (hok:∀ z ∈ ls,0≤z∧z≤12) (ht:ts.length≤300) (htt:∀ z ∈ ts,0≤z∧z<ls.length) (hn4:n0+ts.length*12≤4096) :
  Calls Tryz.prog 110 #[.pointer (some ⟨R,0,none⟩),.slice (some ⟨g,0,none⟩) ls.length ca,.slice b ts.length cb] w fun e w'=>e=.returned (.tuple #[])∧SI w' B R (n0+hN ls ts ts.length) (V0+hV ls (crun ls (sbL ls 12)).2.2 ts ts.length*2 ^ n0)∧Below B w0 w'∧Kp R w w':=by
 have HOK:Hid (∀ k,k<ls.length→0≤ls.getD k 0∧ls.getD k 0≤12):=fun k hk=>hok _ (getD_mem hk)
 have HTT:Hid (∀ k,k<ts.length→0≤ts.getD k 0∧ts.getD k 0<ls.length):=fun k hk=>htt _ (getD_mem hk)
 have HNL:Hid _:=hN_le (ts:=ts) hok
 have HCL:Hid _:=crun_len ls (sbL ls 12)
 have HCR:Hid (∀ z ∈ (crun ls (sbL ls 12)).2.2,0≤z∧z≤8192000):=crun_rng2 ls hl
 have HLC:=l2codes_any (some ⟨g,0,none⟩) ca ls w (ha.ins (fun z hz=>by have:=hok z hz;omega)) hl
 have HA:Hid (RowT w g ls∧SI w B R n0 V0∧Ins w0 b ts∧w0.heap.size=B∧Below B w0 w):=⟨ha,hw,hb,hB,hbel⟩
 have hRlt:R<w.heap.size:=by obtain ⟨_,h,_⟩:=hw;exact (Array.getElem?_eq_some_iff.1 h).1
 have hBw:B≤w.heap.size:=by obtain ⟨_,_,_,_,_,h⟩:=hw;exact h
 clear hok htt ha hw hb hB hbel
 go_enter Tryz.func110,Tryz.ntmps110
 go_wp2_with fail
 refine HLC.mono ?_
 clear HLC
 rintro e w1 ⟨rfl,hc1,hb1⟩
 have HBK:Hid (RowT w1 w.heap.size (crun ls (sbL ls 12)).2.2∧RowT w1 g ls∧Kp R w w1):=⟨hc1.rowT,HA.out.1.kp (Kp.below (R:=R) hb1) hgR,Kp.below hb1⟩
 have HS1:Hid (SI w1 B R (n0+0) (V0+0*2 ^ n0)∧Below B w0 w1):=⟨by simpa using HA.out.2.1.stay hb1,HA.out.2.2.2.2.trans (hb1.mono hBw)⟩
 have hgcR:w.heap.size≠R:=by omega
 clear hc1 hb1
 generalize w.heap.size=gc at *
 generalize hcs0:(crun ls (sbL ls 12)).2.2=cs at *
 have HCSE:Hid ((crun ls (sbL ls 12)).2.2=cs∧True):=⟨hcs0,trivial⟩
 clear hcs0
 generalize hT:ts.length=T at *
 have HTL:Hid (ts.length=T):=hT
 clear hT
 generalize hln:ls.length=n at *
 have HLL:Hid (ls.length=n):=hln
 clear hln
 go_wp2
 go_loopw [7] (fun i wr=>∃ k:Nat,k≤T∧i=.int .i64 k∧SI wr B R (n0+hN ls ts k) (V0+hV ls cs ts k*2 ^ n0)∧Below B w0 wr∧Kp R w1 wr) (fun i _=>T-(intOf i).toNat)
 case atStart=>exact ⟨0,Nat.zero_le _,rfl,HS1.out.1,HS1.out.2,Kp.refl _ _⟩
 case round=>
  clear HS1
  obtain ⟨k,hk,rfl,hsj,hbl,hkp⟩:=hrel
  have HS:Hid (SI wr B R (n0+hN ls ts k) (V0+hV ls cs ts k*2 ^ n0)∧Below B w0 wr∧Kp R w1 wr):=⟨hsj,hbl,hkp⟩
  clear hsj hbl hkp
  by_cases hlt:k<T
  ·obtain ⟨b1,o1,rfl,hb1,hc1⟩:=HA.out.2.2.1.len_pos k (by rw [HTL.out];exact hlt)
   have HB1:Hid (b1<B):=by have:=HA.out.2.2.2.1;unfold Hid;omega
   have HT0:Hid (∀ W,Below B w0 W→W.cell? ⟨b1,o1+k,none⟩=some (.int .i64 (ts.getD k 0))):=fun W hW=>keep hW HB1.out (hc1 k (by rw [HTL.out];exact hlt))
   have hsr:=HTT.out k hlt
   have hnl:=HNL.out k
   have HN1:Hid (hN ls ts (k+1)=hN ls ts k+zN ls (ts.getD k 0)):=rfl
   have HV1:Hid (hV ls cs ts (k+1)=hV ls cs ts k+rvp (cs.getD (ts.getD k 0).toNat 0).toNat (zN ls (ts.getD k 0)) (zN ls (ts.getD k 0))*2 ^ hN ls ts k):=rfl
   generalize ts.getD k 0=sy at *
   obtain ⟨sn,rfl⟩:∃ j:Nat,sy=j:=⟨sy.toNat,by omega⟩
   have hsn:sn<n:=by omega
   have HL0:Hid (∀ W,Kp R w1 W→W.cell? ⟨g,sn,none⟩=some (.int .i64 (ls.getD sn 0))∧g<W.heap.size):=fun W hW=>⟨(HBK.out.2.1.kp hW hgR).cell sn (by rw [HLL.out];exact hsn),(HBK.out.2.1.kp hW hgR).lt⟩
   have hLr:=HOK.out sn (by omega)
   simp only [zN,Int.toNat_natCast] at HN1 HV1
   generalize ls.getD sn 0=Lz at *
   obtain ⟨L,rfl⟩:∃ j:Nat,Lz=j:=⟨Lz.toNat,by omega⟩
   simp only [Int.toNat_natCast] at HN1 HV1
   have hcr:=HCR.out _ (getD_mem (zs:=cs) (k:=sn) (by rw [HCL.out];exact hsn))
   have HCC0:Hid (∀ W,Kp R w1 W→W.cell? ⟨gc,sn,none⟩=some (.int .i64 (cs.getD sn 0))∧gc<W.heap.size):=fun W hW=>⟨(HBK.out.1.kp hW hgcR).cell sn (by rw [HCL.out];exact hsn),(HBK.out.1.kp hW hgcR).lt⟩
   generalize hcz:cs.getD sn 0=cz at *
   obtain ⟨c,rfl⟩:∃ j:Nat,cz=j:=⟨cz.toNat,by omega⟩
   simp only [Int.toNat_natCast] at HV1
   clear hc1 hcz hb1
   have t1:=HT0.out wr HS.out.2.1
   obtain ⟨t2,t2l⟩:=HL0.out wr HS.out.2.2
   have tb:b1<wr.heap.size:=by have:=HS.out.2.1.size;have:=HB1.out;have:=HA.out.2.2.2.1;omega
   have hN8:n0+hN ls ts k+12≤4096:=by omega
   generalize hN ls ts k=N at *
   generalize hV ls cs ts k=V at *
   go_wp2
   go_loopw [8] (fun y wi=>∃ (j:Nat) (z:Int),j≤L∧z=(L:Int)-1-j∧y=.int .i64 z∧SI wi B R (n0+N+j) (V0+V*2 ^ n0+rvp c L j*2 ^ (n0+N))∧Below B w0 wi∧Kp R w1 wi) (fun y _=>((intOf y)+1).toNat)
   case atStart=>exact ⟨0,_,Nat.zero_le _,by simp,rfl,by simpa [rvp] using HS.out.1,HS.out.2⟩
   case round=>
    clear HS t1 t2 t2l tb
    obtain ⟨j,z,hj,hzj,rfl,hsj,hbl,hkp⟩:=hrel
    have HS:Hid (SI wr B R (n0+N+j) (V0+V*2 ^ n0+rvp c L j*2 ^ (n0+N))∧Below B w0 wr∧Kp R w1 wr):=⟨hsj,hbl,hkp⟩
    have HZJ:Hid (z=(L:Int)-1-j):=hzj
    clear hsj hbl hkp
    by_cases hjl:j<L
    ·have hz0:0≤z∧z≤11:=by omega
     have HZN:Hid (z.toNat=L-1-j):=by unfold Hid;omega
     clear hzj
     have t1:=HT0.out wr HS.out.2.1
     obtain ⟨t3,t3l⟩:=HCC0.out wr HS.out.2.2
     have tb:b1<wr.heap.size:=by have:=HS.out.2.1.size;have:=HB1.out;have:=HA.out.2.2.2.1;omega
     have HBT:Hid (bits .and .i64 ((c:Int) / 2 ^ z.toNat) 1=((c / 2 ^ (L-1-j) % 2:Nat):Int)):=by unfold Hid;rw [bit_i64 c z.toNat (by omega),HZN.out]
     go_wp2_with fail
     rw [HBT.out]
     refine (HS.out.1.putPn (c / 2 ^ (L-1-j) % 2) 1 (by omega) (by have:=Nat.mod_lt (c / 2 ^ (L-1-j)) (show 0<2 by omega);omega) (by omega)).mono ?_
     rintro e w2 ⟨rfl,hs2,hb2,hk2⟩
     have HE:rvp c L j*2 ^ (n0+N)+c / 2 ^ (L-1-j) % 2*2 ^ (n0+N+j)=rvp c L (j+1)*2 ^ (n0+N):=by
      have:=rvp_next 0 c L j (n0+N)
      omega
     rw [Nat.add_assoc (V0+V*2 ^ n0),HE] at hs2
     have HS2:Hid (SI w2 B R (n0+N+(j+1)) (V0+V*2 ^ n0+rvp c L (j+1)*2 ^ (n0+N))∧Below B w0 w2∧Kp R w1 w2):=⟨hs2,HS.out.2.1.trans hb2,HS.out.2.2.trans hk2⟩
     clear hs2 hb2 hk2 HE HS t1 t3 t3l tb HBT HZN
     go_wp2
     go_roundw
     case rel=>exact ⟨j+1,z-1,by omega,by have:=HZJ.out;omega,by go_num,HS2.out⟩
     case measure=>simp [intOf];omega
    ·have hjL:j=L:=by omega
     subst hjL
     have hz1:z=-1:=by omega
     subst hz1
     clear hzj
     have HS2:Hid (SI wr B R (n0+hN ls ts (k+1)) (V0+hV ls cs ts (k+1)*2 ^ n0)):=by
      unfold Hid
      rw [HN1.out,HV1.out,←Nat.add_assoc,←put_at]
      exact HS.out.1
     go_wp2
     go_roundw
     case rel=>exact ⟨k+1,by omega,by go_num,HS2.out,HS.out.2⟩
     case measure=>simp [intOf];omega
  ·have hkn:k=T:=by omega
   subst hkn
   go_wp2
   go_end0
   exact ⟨rfl,by rw [HCSE.out.1,HTL.out];exact HS.out.1,HS.out.2.1,HBK.out.2.2.trans HS.out.2.2⟩
end Go.Proofs.YtfeokafkhnbdiaaGreatDoor
