/- Lemmas on the way. -/
import Derived.Test.YtfeokafkhnbdiaaGreatDoorHPut2M
import Derived.Test.YtfeokafkhnbdiaaGreatDoorPmB
import Derived.Test.YtfeokafkhnbdiaaGreatDoorEnM
import Derived.Test.YtfeokafkhnbdiaaGreatDoorPcB
import Derived.Test.YtfeokafkhnbdiaaGreatDoorFp1
import Derived.Test.YtfeokafkhnbdiaaGreatDoorPut4
import Derived.Test.YtfeokafkhnbdiaaGreatDoorPut1
set_option maxRecDepth 20000
set_option maxHeartbeats 16000000
namespace Go.Proofs.YtfeokafkhnbdiaaGreatDoor
open Go.RowKit
set_option linter.unusedVariables false
theorem Ins.drop {w:World} {b off:Nat} {zs:List Int} (h:Ins w (some ⟨b,off,none⟩) zs) (i:Nat):Ins w (some ⟨b,off+i,none⟩) (zs.drop i):=by
 refine ⟨fun z hz=>h.1 z (List.mem_of_mem_drop hz),fun hp=>?_⟩
 rw [List.length_drop] at hp
 obtain ⟨b',o',he,hlt,hc⟩:=h.2 (by omega)
 obtain ⟨rfl,rfl⟩:b=b'∧off=o':=by simpa using he
 refine ⟨b,off+i,rfl,hlt,fun j hj=>?_⟩
 rw [List.length_drop] at hj
 rw [drop_getD,Nat.add_assoc]
 exact hc (i+j) (by omega)
theorem noughts_any (a:Option Addr) (cap:Nat) (l:List Int) (w:World) (hb:Ins w a l) (hn:l.length≤80) :
  Calls Tryz.prog 123 #[.slice a l.length cap] w fun e w'=>e=.returned (.int .i64 (nou l:Nat))∧w'=w:=by
 have hle:=nou_le l
 have HZ:Hid _:=nou_zero l
 have HS:Hid _:=nou_stop l
 generalize hlen:l.length=n at *
 have HL:Hid (l.length=n):=hlen
 clear hlen
 generalize nou l=m at *
 go_enter Tryz.func123,Tryz.ntmps123
 go_wp2
 go_loop [3] (fun i=>∃ k:Nat,k≤m∧i=.int .i64 k) (fun i=>m-(intOf i).toNat)
 case atStart=>exact ⟨0,Nat.zero_le _,rfl⟩
 case round=>
  obtain ⟨k,hk,rfl⟩:=hrel
  by_cases hlt:k<n
  ·obtain ⟨b1,o1,rfl,hb1,hc1⟩:=hb.len_pos k (by rw [HL.out];exact hlt)
   have hs1:=hc1 k (by rw [HL.out];exact hlt)
   by_cases hkm:k<m
   ·rw [HZ.out k hkm] at hs1
    clear hc1
    go_wp2
    go_round
    case rel=>exact ⟨k+1,by omega,by go_num⟩
    case measure=>simp [intOf];omega
   ·have hke:k=m:=by omega
    subst hke
    have hne:=HS.out hlt
    generalize l.getD k 0=x at *
    have hx:(x == 0)=false:=by simpa using hne
    clear hc1
    go_wp2
    go_ret
    exact ⟨rfl,rfl⟩
  ·have hke:k=m:=by omega
   subst hke
   go_wp2
   go_ret
   exact ⟨rfl,rfl⟩
def Kp (R:Nat) (w w':World):Prop:=∀ g cur T,w.heap[g]?=some (.cells cur T (0,0))→T≠5→g≠R→w'.heap[g]?=some (.cells cur T (0,0))
theorem Kp.refl (R:Nat) (w:World):Kp R w w:=fun _ _ _ h _ _=>h
theorem Kp.trans {R:Nat} {a b c:World} (h:Kp R a b) (k:Kp R b c):Kp R a c:=fun g cur T h1 h2 h3=>k g cur T (h g cur T h1 h2 h3) h2 h3
theorem Kp.below {R:Nat} {w w':World} (h:Below w.heap.size w w'):Kp R w w':=fun g _ _ h1 _ _=>(h.block g (Array.getElem?_eq_some_iff.1 h1).1).trans h1
def RowT (w:World) (g:Nat) (zs:List Int):Prop:=∃ cur,w.heap[g]?=some (.cells cur 3 (0,0))∧∀ k,k<zs.length→cur[k]?=some (.int .i64 (zs.getD k 0))
theorem RowT.kp {R:Nat} {w w':World} {g:Nat} {zs:List Int} (h:RowT w g zs) (hk:Kp R w w') (hg:g≠R):RowT w' g zs:=by
 obtain ⟨cur,h1,h2⟩:=h
 exact ⟨cur,hk g cur _ h1 (by decide) hg,h2⟩
theorem RowT.lt {w:World} {g:Nat} {zs:List Int} (h:RowT w g zs):g<w.heap.size:=by
 obtain ⟨cur,h1,h2⟩:=h
 exact (Array.getElem?_eq_some_iff.1 h1).1
theorem RowT.cell {w:World} {g:Nat} {zs:List Int} (h:RowT w g zs) (k:Nat) (hk:k<zs.length):w.cell? ⟨g,k,none⟩=some (.int .i64 (zs.getD k 0)):=by
 obtain ⟨cur,h1,h2⟩:=h
 have:=h2 k hk
 unfold World.cell?
 simp only [h1]
 simpa using this
theorem RowT.ins {w:World} {g:Nat} {zs:List Int} (h:RowT w g zs) (hr:∀ z ∈ zs,-9223372036854775808≤z∧z≤9223372036854775807):Ins w (some ⟨g,0,none⟩) zs:=
 ⟨hr,fun _=>⟨g,0,rfl,h.lt,fun i hi=>by rw [Nat.zero_add];exact h.cell i hi⟩⟩
theorem OwI.rowT {w:World} {B g cap:Nat} {zs:List Int} (h:OwI w B g cap zs):RowT w g zs:=by
 obtain ⟨cur,h1,h2⟩:=OwI.blockG (w':=w) h
 refine ⟨cur,h1,fun k hk=>?_⟩
 have:=h.cell k hk
 unfold World.cell? at this
 simp only [h1] at this
 simpa using this
theorem WI.putP {w:World} {B R n V:Nat} (h:WI w B R n V) (x width:Int) (hx:0≤x) (h1:0≤width) (h2:width≤30) (hxw:x<2 ^ width.toNat) (h3:width≤4096-n) (hn:n≤4096) :
  Calls Tryz.prog 79 #[.pointer (some ⟨R,0,none⟩),.int .i64 x,.int .i64 width] w fun e w'=>e=.returned .nilIface∧WI w' B R (n+width.toNat) (V+x.toNat*2 ^ n)∧Below B w w'∧Kp R w w':=by
 obtain ⟨v,hR,hv,hV,hBR,hB⟩:=h
 refine (wput_yes R B v n V x width 4096 w hR hv hV hB hx h1 h2 hxw h3 (by omega) (by omega)).mono ?_
 rintro e w' ⟨rfl,v',hR',hv',ho,_⟩
 have hb:Below B w w':=ho.below hB (fun k hk=>by
  rcases hk with hk | hk
  ·omega
  ·exact hv.blk hk)
 refine ⟨rfl,⟨v',hR',hv',?_,hBR,Nat.le_trans hB hb.size⟩,hb,fun g cur T hg hT hgR=>?_⟩
 ·refine put_lt n V width.toNat x.toNat hV ?_
  have e:((2:Int) ^ width.toNat)=((2 ^ width.toNat:Nat):Int):=by simp
  rw [e] at hxw
  omega
 ·refine (ho.block g (Array.getElem?_eq_some_iff.1 hg).1 ?_).trans hg
  rintro (hk | hk)
  ·exact hgR hk
  ·exact hv.neP hk hg hT rfl
theorem WI.putPn {w:World} {B R n V:Nat} (h:WI w B R n V) (x width:Nat) (h2:width≤30) (hxw:x<2 ^ width) (h3:n+width≤4096) :
  Calls Tryz.prog 79 #[.pointer (some ⟨R,0,none⟩),.int .i64 (x:Int),.int .i64 (width:Int)] w fun e w'=>e=.returned .nilIface∧WI w' B R (n+width) (V+x*2 ^ n)∧Below B w w'∧Kp R w w':=by
 have hxi:(x:Int)<2 ^ ((width:Int)).toNat:=by
  have e:((2:Int) ^ width)=((2 ^ width:Nat):Int):=by simp
  rw [Int.toNat_natCast,e]
  exact Int.ofNat_lt.2 hxw
 have:=h.putP (x:Int) (width:Int) (by omega) (by omega) (by omega) hxi (by omega) (by omega)
 simpa only [Int.toNat_natCast] using this
theorem putLens_t (g cap:Nat) (zs:List Int) (R B n0 V0:Nat) (w0:World) (hb:RowT w0 g zs) (hgR:g≠R) (hw:WI w0 B R n0 V0) (hn0:n0≤2000) (hn:zs.length≤80) (hcap:zs.length≤cap) (hok:∀ z ∈ zs,0≤z∧z≤12) :
  Calls Tryz.prog 96 #[.pointer (some ⟨R,0,none⟩),.slice (some ⟨g,0,none⟩) zs.length cap] w0 fun e w'=>e=.returned .nilIface∧WI w' B R (lpG zs n0 V0).1 (lpG zs n0 V0).2∧Below B w0 w'∧Kp R w0 w':=by
 have HOK:Hid (∀ k,k<zs.length→0≤zs.getD k 0∧zs.getD k 0≤12):=fun k hk=>hok _ (getD_mem hk)
 have HRL:Hid _:=fun i hi=>run_le zs i hi
 have HLE:Hid _:=lp_end zs
 have HLZ:Hid _:=lp_zero zs
 have HLP:Hid _:=lp_pos zs
 have HW:Hid (WI w0 B R n0 V0):=hw
 have HF:Hid (lp zs zs.length 0 n0 V0=lpG zs n0 V0):=rfl
 have HND:Hid (∀ (a:Option Addr) (cap i m:Nat) (w:World),m=zs.length-i→Ins w a (zs.drop i)→Calls Tryz.prog 123 #[.slice a m cap] w fun e w'=>e=.returned (.int .i64 (nou (zs.drop i):Nat))∧w'=w)  :=fun a cap i m w hm h=>by
  subst hm
  have:=noughts_any a cap (zs.drop i) w h (by rw [List.length_drop];omega)
  rw [List.length_drop] at this
  exact this
 have HOK9:Hid (∀ z ∈ zs,0≤z∧z≤12):=hok
 clear hok hw
 generalize hlen:zs.length=n at *
 have HL:Hid (zs.length=n):=hlen
 clear hlen
 go_enter Tryz.func96,Tryz.ntmps96
 go_wp2
 go_loopw [5] (fun i wr=>∃ k N V f:Nat,k≤n∧i=.int .i64 k∧N≤n0+7*k∧n-k≤f∧lp zs f k N V=lpG zs n0 V0∧WI wr B R N V∧Below B w0 wr∧Kp R w0 wr) (fun i _=>n-(intOf i).toNat)
 case atStart=>exact ⟨0,n0,V0,n,Nat.zero_le _,rfl,by omega,by omega,HF.out,HW.out,Below.refl _ _,Kp.refl _ _⟩
 case round=>
  clear HW HF
  obtain ⟨k,N,V,f,hk,rfl,hN,hf,hlp,hwi,hbel,hkp⟩:=hrel
  have HWI:Hid (WI wr B R N V):=hwi
  have HP:Hid (lp zs f k N V=lpG zs n0 V0):=hlp
  clear hwi hlp
  by_cases hlt:k<n
  ·have hglt:g<wr.heap.size:=(hb.kp hkp hgR).lt
   have hs1:=(hb.kp hkp hgR).cell k (by rw [HL.out];exact hlt)
   have hx:=HOK.out k hlt
   have hr:=HRL.out k hlt
   obtain ⟨f,rfl⟩:∃ f',f=f'+1:=⟨f-1,by omega⟩
   have HZ:=HLZ.out f k N V hlt
   have HQ:=HLP.out f k N V hlt
   rw [HP.out] at HZ HQ
   have HZ':Hid _:=HZ
   have HQ':Hid _:=HQ
   clear HZ HQ HP
   generalize hxx:zs.getD k 0=x at *
   go_wp2_with fail
   refine (HWI.out.putP x 4 hx.1 (by omega) (by omega) (by simp;omega) (by omega) (by omega)).mono ?_
   rintro e w2 ⟨rfl,hwi2,hb2,hk2⟩
   have HWI2:Hid (WI w2 B R (N+4) (V+x.toNat*2 ^ N)):=hwi2
   have hbel2:Below B w0 w2:=hbel.trans hb2
   have hkp2:Kp R w0 w2:=hkp.trans hk2
   have hglt2:g<w2.heap.size:=(hb.kp hkp2 hgR).lt
   have hc3:=(hb.kp hkp2 hgR).cell
   have hs3:=hc3 k (by rw [HL.out];exact hlt)
   rw [hxx] at hs3
   clear hwi2 hb2 hbel hkp HWI hc3 hs1 hk2
   by_cases hz:x=0
   ·have E:=HZ'.out hz
    have HE:Hid (lp zs f (k+1+run zs k) (N+7) (V+run zs k*2 ^ (N+4))=lpG zs n0 V0):=E.symm
    have HRU:Hid (run zs k=min (nou (zs.drop (k+1))) 7):=rfl
    clear HZ' HQ' E
    subst hz
    have HWI3:Hid (WI w2 B R (N+4) V):=by simpa [Hid] using HWI2.out
    clear HWI2
    have HIN:Hid (∀ a',(a'=some ⟨g,k+1,none⟩∨n≤k+1)→Ins w2 a' (zs.drop (k+1))):=by
     rintro a' (rfl | h)
     ·have h9:=((hb.kp hkp2 hgR).ins (fun z hz=>by have:=HOK9.out z hz;omega)).drop (k+1)
      rw [Nat.zero_add] at h9
      exact h9
     ·have e:zs.drop (k+1)=[]:=List.drop_eq_nil_of_le (by rw [HL.out];exact h)
      rw [e]
      exact ⟨by simp,by simp⟩
    by_cases hcc:cap=k+1
    ·subst hcc
     go_wp2_with fail
     refine (HND.out _ _ (k+1) _ w2 (by omega) (HIN.out _ (by first | exact .inl rfl | exact .inr (by omega)))).mono ?_
     rintro e w3 ⟨rfl,rfl⟩
     generalize nou (zs.drop (k+1))=q at *
     generalize run zs k=r at *
     have hrq:r=min q 7:=HRU.out
     clear HRU HIN
     rcases (show (q≤7∧r=q)∨(7<q∧r=7) by omega) with ⟨hq,hr2⟩ | ⟨hq,hr2⟩
     ·subst hr2
      clear hrq
      go_wp2_with fail
      refine (HWI3.out.putP (r:Nat) 3 (by omega) (by omega) (by omega) (by simp;try omega) (by omega) (by omega)).mono ?_
      rintro e w4 ⟨rfl,hwi4,hb4,hk4⟩
      have HWI4:Hid (WI w4 B R (N+7) (V+r*2 ^ (N+4))):=by simpa [Hid] using hwi4
      have HB4:Hid (Below B w0 w4∧Kp R w0 w4):=⟨hbel2.trans hb4,hkp2.trans hk4⟩
      clear hwi4 hb4 hk4 HWI3
      go_wp2
      go_roundw
      case rel=>exact ⟨k+1+r,N+7,V+r*2 ^ (N+4),f,by omega,by go_num,by omega,by omega,HE.out,HWI4.out,HB4.out⟩
      case measure=>simp [intOf];omega
     ·subst hr2
      clear hrq
      go_wp2_with fail
      refine (HWI3.out.putP 7 3 (by omega) (by omega) (by omega) (by simp;try omega) (by omega) (by omega)).mono ?_
      rintro e w4 ⟨rfl,hwi4,hb4,hk4⟩
      have HWI4:Hid (WI w4 B R (N+7) (V+7*2 ^ (N+4))):=by simpa [Hid] using hwi4
      have HB4:Hid (Below B w0 w4∧Kp R w0 w4):=⟨hbel2.trans hb4,hkp2.trans hk4⟩
      clear hwi4 hb4 hk4 HWI3
      go_wp2
      go_roundw
      case rel=>exact ⟨k+1+7,N+7,V+7*2 ^ (N+4),f,by omega,by go_num,by omega,by omega,HE.out,HWI4.out,HB4.out⟩
      case measure=>simp [intOf];omega
    ·have hc2:¬cap-(k+1)=0:=by omega
     go_wp2_with fail
     refine (HND.out _ _ (k+1) _ w2 (by omega) (HIN.out _ (by first | exact .inl rfl | exact .inr (by omega)))).mono ?_
     rintro e w3 ⟨rfl,rfl⟩
     generalize nou (zs.drop (k+1))=q at *
     generalize run zs k=r at *
     have hrq:r=min q 7:=HRU.out
     clear HRU HIN
     rcases (show (q≤7∧r=q)∨(7<q∧r=7) by omega) with ⟨hq,hr2⟩ | ⟨hq,hr2⟩
     ·subst hr2
      clear hrq
      go_wp2_with fail
      refine (HWI3.out.putP (r:Nat) 3 (by omega) (by omega) (by omega) (by simp;try omega) (by omega) (by omega)).mono ?_
      rintro e w4 ⟨rfl,hwi4,hb4,hk4⟩
      have HWI4:Hid (WI w4 B R (N+7) (V+r*2 ^ (N+4))):=by simpa [Hid] using hwi4
      have HB4:Hid (Below B w0 w4∧Kp R w0 w4):=⟨hbel2.trans hb4,hkp2.trans hk4⟩
      clear hwi4 hb4 hk4 HWI3
      go_wp2
      go_roundw
      case rel=>exact ⟨k+1+r,N+7,V+r*2 ^ (N+4),f,by omega,by go_num,by omega,by omega,HE.out,HWI4.out,HB4.out⟩
      case measure=>simp [intOf];omega
     ·subst hr2
      clear hrq
      go_wp2_with fail
      refine (HWI3.out.putP 7 3 (by omega) (by omega) (by omega) (by simp;try omega) (by omega) (by omega)).mono ?_
      rintro e w4 ⟨rfl,hwi4,hb4,hk4⟩
      have HWI4:Hid (WI w4 B R (N+7) (V+7*2 ^ (N+4))):=by simpa [Hid] using hwi4
      have HB4:Hid (Below B w0 w4∧Kp R w0 w4):=⟨hbel2.trans hb4,hkp2.trans hk4⟩
      clear hwi4 hb4 hk4 HWI3
      go_wp2
      go_roundw
      case rel=>exact ⟨k+1+7,N+7,V+7*2 ^ (N+4),f,by omega,by go_num,by omega,by omega,HE.out,HWI4.out,HB4.out⟩
      case measure=>simp [intOf];omega
   ·have E:=HQ'.out hz
    have HE:Hid (lp zs f (k+1) (N+4) (V+x.toNat*2 ^ N)=lpG zs n0 V0):=E.symm
    have hne:(x != 0)=true:=by simpa using hz
    have HB2:Hid (Below B w0 w2∧Kp R w0 w2):=⟨hbel2,hkp2⟩
    clear HZ' HQ' E hbel2 hkp2
    go_wp2
    go_roundw
    case rel=>exact ⟨k+1,N+4,V+x.toNat*2 ^ N,f,by omega,by go_num,by omega,by omega,HE.out,HWI2.out,HB2.out⟩
    case measure=>simp [intOf];omega
  ·have hkn:k=n:=by omega
   subst hkn
   have E:=HLE.out f k N V (by omega)
   rw [HP.out] at E
   have HA:Hid (WI wr B R (lpG zs n0 V0).1 (lpG zs n0 V0).2):=by rw [E];exact HWI.out
   clear E HWI HP
   go_wp2
   go_ret
   exact ⟨rfl,HA.out,hbel,hkp⟩
theorem putCode_yesK (w:World) (B R n V c L:Nat) (h:WI w B R n V) (h1:1≤L) (h2:L≤12) (hc:c≤8192000) (hn:n+L≤4096) :
  Calls Tryz.prog 125 #[.pointer (some ⟨R,0,none⟩),.int .i64 (c:Nat),.int .i64 (L:Nat)] w fun e w'=>e=.returned .nilIface∧WI w' B R (n+L) (V+rvp c L L*2 ^ n)∧Below B w w'∧Kp R w w':=by
 have H:Hid (WI w B R n V∧True):=⟨h,trivial⟩
 have HT:Hid (rvp (c % 65536) 16 16 / 2 ^ (16-L)=rvp c L L):=turned c L h2
 have hlt:=rvp_lt (c % 65536) 16 16
 have hlt2:=rvp_lt c L L
 have e1:IntKind.u16.wrap (c:Int)=((c % 65536:Nat):Int):=by
  show (c:Int) % 65536=_
  omega
 have hc16:c % 65536<65536:=by omega
 clear h
 generalize c % 65536=d at *
 go_enter Tryz.func125,Tryz.ntmps125
 go_wp2_with fail
 refine (rev16_rvp d w hc16).mono ?_
 rintro e w1 ⟨rfl,m1,rfl⟩
 generalize hr:rvp d 16 16=r at *
 clear hr
 go_wp2_with fail
 have e2:wrap64 ((r:Int) / 2 ^ (16-L))=((rvp c L L:Nat):Int):=by
  rw [show ((r:Int) / 2 ^ (16-L))=((r / 2 ^ (16-L):Nat):Int) from by simp,HT.out]
  have h12:2 ^ L≤2 ^ 12:=Nat.pow_le_pow_right (by omega) h2
  exact IntWalk.wrap64_in _ (by omega)
 rw [e2]
 refine ((H.out.1.drewN m1).putPn (w:=w.drewN m1) (rvp c L L) L (by omega) hlt2 hn).mono ?_
 rintro e w2 ⟨rfl,hw2,hb2,hg2⟩
 have HW2:Hid (WI w2 B R (n+L) (V+rvp c L L*2 ^ n)):=by simpa [Hid] using hw2
 have HB2:Hid (Below B w w2∧Kp R w w2):=⟨(below_dH (Below.refl B w) m1).trans hb2,hg2⟩
 clear hw2 hb2 hg2 e2 HT
 go_wp2
 go_ret
 exact ⟨rfl,HW2.out,HB2.out.1,HB2.out.2⟩
/-- The writer has n0 bits already. -/
theorem putCodes_t (R B n0 V0 g ca:Nat) (ls:List Int) (b:Option Addr) (cb:Nat) (ts:List Int) (w0 w:World) (hw:WI w B R n0 V0) (ha:RowT w g ls) (hgR:g≠R) (hb:Ins w0 b ts) (hB:w0.heap.size=B) (hbel:Below B w0 w) (hlb:lensB ls=true) (htl:ts.length≤300) (hn0:n0+ts.length*12≤4096) (hts:∀ k,k<ts.length→0≤ts.getD k 0∧ts.getD k 0<ls.length) (hS:SentC w0) :
  Calls Tryz.prog 97 #[.pointer (some ⟨R,0,none⟩),.slice (some ⟨g,0,none⟩) ls.length ca,.slice b ts.length cb] w fun e w'=>(Below B w0 w'∧Kp R w w') ∧
   (coded ls ts→e=.returned .nilIface∧WI w' B R (n0+hN ls ts ts.length) (V0+hV ls (csOf ls) ts ts.length*2 ^ n0))∧(¬coded ls ts→∃ T' y,e=.returned (.iface T' y)):=by
 obtain ⟨hn1,hn2,hok⟩:=lensB_okH hlb
 have HCO:=codesOf_any (some ⟨g,0,none⟩) ca ls w (ha.ins (fun z hz=>by have:=hok z hz;omega)) hn2 hok
 have HNL:Hid (∀ k,hN ls ts k≤12*k):=fun k=>hN_le (ts:=ts) hok k
 have HCL:Hid ((crun ls (sbL ls 12)).2.2.length=ls.length∧∀ z ∈ (crun ls (sbL ls 12)).2.2,0≤z∧z≤8192000):=⟨crun_len ls (sbL ls 12),crun_rng2 ls hn2⟩
 have HP:Hid (RowT w g ls∧Ins w0 b ts∧(∀ k,k<ts.length→0≤ts.getD k 0∧ts.getD k 0<ls.length)∧(∀ k,k<ls.length→0≤ls.getD k 0∧ls.getD k 0≤12)∧SentC w0∧w0.heap.size=B):=⟨ha,hb,hts,fun k hk=>hok _ (getD_mem hk),hS,hB⟩
 have HW:Hid (WI w B R (n0+0) (V0+0*2 ^ n0)∧Below B w0 w):=⟨by simpa using hw,hbel⟩
 have hRlt:R<w.heap.size:=by obtain ⟨_,h,_⟩:=hw;exact (Array.getElem?_eq_some_iff.1 h).1
 have hBw:B≤w.heap.size:=by obtain ⟨_,_,_,_,_,h⟩:=hw;exact h
 clear hw ha hb hB hbel hlb hts hS hok
 go_enter Tryz.func97,Tryz.ntmps97
 go_wp2_with fail
 refine HCO.mono ?_
 clear HCO
 rintro e w1 ⟨rfl,hoc,hb1⟩
 have HBK:Hid (RowT w1 w.heap.size (crun ls (sbL ls 12)).2.2∧RowT w1 g ls∧Kp R w w1):=⟨hoc.rowT,HP.out.1.kp (Kp.below (R:=R) hb1) hgR,Kp.below hb1⟩
 have HW1:Hid (WI w1 B R (n0+0) (V0+0*2 ^ n0)∧Below B w0 w1):=⟨HW.out.1.stay hb1,HW.out.2.trans (hb1.mono hBw)⟩
 have hgcR:w.heap.size≠R:=by omega
 clear hoc hb1 HW hRlt
 generalize hcs0:(crun ls (sbL ls 12)).2.2=cs at *
 have HCSE:Hid (csOf ls=cs∧True):=⟨hcs0,trivial⟩
 clear hcs0
 generalize w.heap.size=gc at *
 generalize hTn:ts.length=n at *
 generalize hLn:ls.length=L0 at *
 have HLn:Hid (ts.length=n∧ls.length=L0):=⟨hTn,hLn⟩
 clear hTn hLn
 go_wp2
 go_loopw [15] (fun i wr=>∃ k:Nat,k≤n∧i=.int .i64 k∧WI wr B R (n0+hN ls ts k) (V0+hV ls cs ts k*2 ^ n0)∧Kp R w1 wr∧Below B w0 wr∧∀ j,j<k→ls.getD (ts.getD j 0).toNat 0≠0) (fun i _=>n-(intOf i).toNat)
 case atStart=>exact ⟨0,Nat.zero_le _,rfl,HW1.out.1,Kp.refl _ _,HW1.out.2,fun j hj=>by omega⟩
 case round=>
  clear HW1
  obtain ⟨k,hk,rfl,hwi,hkp,hbel,hnz⟩:=hrel
  have HS:Hid (WI wr B R (n0+hN ls ts k) (V0+hV ls cs ts k*2 ^ n0)∧Kp R w1 wr∧Below B w0 wr∧(∀ j,j<k→ls.getD (ts.getD j 0).toNat 0≠0)∧hN ls ts k≤12*k):=⟨hwi,hkp,hbel,hnz,HNL.out k⟩
  by_cases hlt:k<n
  ·obtain ⟨b1,o1,rfl,hb1,hc1⟩:=(HP.out.2.1.below hbel (by rw [HP.out.2.2.2.2.2];exact Nat.le_refl _)).len_pos k (by rw [HLn.out.1];exact hlt)
   have hs0:=hc1 k (by rw [HLn.out.1];exact hlt)
   have hsr:=HP.out.2.2.1 k hlt
   obtain ⟨sn,hsn⟩:=Int.eq_ofNat_of_zero_le hsr.1
   have hsl:sn<L0:=by omega
   have hlw:=(HBK.out.2.1.kp hkp hgR).lt
   have hl0:=(HBK.out.2.1.kp hkp hgR).cell sn (by rw [HLn.out.2];exact hsl)
   have hLr:=HP.out.2.2.2.1 sn hsl
   obtain ⟨L,hLe⟩:=Int.eq_ofNat_of_zero_le hLr.1
   rw [hsn] at hs0
   rw [hLe] at hl0 hLr
   have HST:Hid (hN ls ts (k+1)=hN ls ts k+L∧hV ls cs ts (k+1)=hV ls cs ts k+rvp (cs.getD sn 0).toNat L L*2 ^ hN ls ts k∧ls.getD (ts.getD k 0).toNat 0=(L:Int)):=by
    refine ⟨?_,?_,?_⟩
    ·rw [hN,hsn];unfold zN;rw [Int.toNat_natCast,hLe,Int.toNat_natCast]
    ·rw [hV,hsn];unfold zN;rw [Int.toNat_natCast,hLe,Int.toNat_natCast]
    ·rw [hsn,Int.toNat_natCast,hLe]
   have hsn80:(sn:Int)<(L0:Int):=by omega
   have hsce:=(HP.out.2.2.2.2.1.s0.below hbel (by have:=HP.out.2.2.2.2.1.hG;have:=HP.out.2.2.2.2.2;omega))
   obtain ⟨T',y,hce⟩:=hsce
   have hcr:=HCL.out.2 _ (getD_mem (zs:=cs) (k:=sn) (by rw [HCL.out.1];exact hsl))
   have hcc:wr.cell? ⟨gc,sn,none⟩=some (.int .i64 (cs.getD sn 0)):=(HBK.out.1.kp hkp hgcR).cell sn (by rw [HCL.out.1];exact hsl)
   obtain ⟨c,hce2⟩:=Int.eq_ofNat_of_zero_le hcr.1
   rw [hce2] at hcc hcr
   rw [hce2,Int.toNat_natCast] at HST
   have hgw:=(HBK.out.1.kp hkp hgcR).lt
   have HKW:Hid (Kp R w wr):=HBK.out.2.2.trans hkp
   clear hc1 hwi hkp hbel hnz hsr hsn hLe hce2
   by_cases hL0:L=0
   ·have HNC:Hid (¬coded ls ts∧Below B w0 wr∧Kp R w wr):=⟨fun h=>h k (by rw [HLn.out.1];exact hlt) (by rw [HST.out.2.2,hL0];rfl),HS.out.2.2.1,HKW.out⟩
    subst hL0
    clear HS HST
    go_wp2
    go_ret
    exact ⟨⟨HNC.out.2.1,HNC.out.2.2⟩,fun h=>absurd h HNC.out.1,fun _=>⟨T',y,rfl⟩⟩
   ·have HNZ2:Hid (∀ j,j<k+1→ls.getD (ts.getD j 0).toNat 0≠0):=fun j hj=>by
     by_cases hjk:j=k
     ·subst hjk;rw [HST.out.2.2];omega
     ·exact HS.out.2.2.2.1 j (by omega)
    have HPU:Hid (∀ W:World,WI W B R (n0+hN ls ts k) (V0+hV ls cs ts k*2 ^ n0)→Calls Tryz.prog 125 #[.pointer (some ⟨R,0,none⟩),.int .i64 (c:Nat),.int .i64 (L:Nat)] W fun e w'=>e=.returned .nilIface∧WI w' B R (n0+hN ls ts (k+1)) (V0+hV ls cs ts (k+1)*2 ^ n0)∧Below B W w'∧Kp R W w'):=by
     intro W hW
     have:=putCode_yesK W B R _ _ c L hW (by omega) (by omega) (by omega) (by have:=HS.out.2.2.2.2;omega)
     rw [Nat.add_assoc,←HST.out.1,put_at,←HST.out.2.1] at this
     exact this
    have hne0:((L:Int) == 0)=false:=by simp;omega
    clear hce
    go_wp2
    go_region_with (go_at_call 125;refine (HPU.out _ (by exact HS.out.1)).mono ?_;rintro e w6 ⟨rfl,hw6,hb6,hg6⟩;have HW6:Hid (WI w6 B R (n0+hN ls ts (k+1)) (V0+hV ls cs ts (k+1)*2 ^ n0)∧Kp R w1 w6∧Below B w0 w6):=⟨hw6,HS.out.2.1.trans hg6,HS.out.2.2.1.trans (Below.drewS hb6)⟩;clear hw6 hb6 hg6)
    all_goals
     go_wp2
     go_roundw
     case rel=>exact ⟨k+1,by omega,by go_num,HW6.out.1,HW6.out.2.1,HW6.out.2.2,HNZ2.out⟩
     case measure=>simp [intOf];omega
  ·have hkn:k=n:=by omega
   subst hkn
   have HCD:Hid (coded ls ts):=fun j hj=>hnz j (by rw [HLn.out.1] at hj;exact hj)
   have HKW:Hid (Kp R w wr):=HBK.out.2.2.trans hkp
   clear hwi hkp hbel hnz
   go_wp2
   go_ret
   exact ⟨⟨HS.out.2.2.1,HKW.out⟩,fun _=>⟨rfl,by rw [HCSE.out.1,HLn.out.1];exact HS.out.1⟩,fun h=>absurd HCD.out h⟩
/-- The reader lies at block R: its bits' bytes, their number, its place. -/
theorem number_any (R:Nat) (a:Option Addr) (cap:Nat) (zs:List Int) (N at0 p width:Int) (n v:Nat) (w:World) (hb:Byt w a zs) (hz:zs=enc n v) (hn:n≤4104)
  (c0:w.cell? ⟨R,0,none⟩=some (.slice a zs.length cap))
  (h0:0≤p) (h1:0≤width) (h2:width≤30) (h3:p+width≤n) :
  Calls Tryz.prog 118 #[.pointer (some ⟨R,0,none⟩),.int .i64 p,.int .i64 width] w fun e w'=>e=.returned (.int .i64 (v / 2 ^ p.toNat % 2 ^ width.toNat:Nat))∧w'=w:=by
 obtain ⟨q,rfl⟩:=Int.eq_ofNat_of_zero_le h0
 obtain ⟨m,rfl⟩:=Int.eq_ofNat_of_zero_le h1
 simp only [Int.toNat_natCast] at *
 have HZ:Hid (zs=enc n v):=hz
 have hlen:zs.length=(n+7) / 8:=by rw [hz,enc_len]
 have HL:Hid (zs.length=(n+7) / 8):=hlen
 clear hz hlen
 go_enter Tryz.func118,Tryz.ntmps118
 go_wp2
 go_loop [7,12] (fun x i=>∃ j:Nat,j≤m∧i=.int .i64 j∧x=.int .i64 (v / 2 ^ q % 2 ^ j:Nat)) (fun _ i=>m-(intOf i).toNat)
 case atStart=>exact ⟨0,Nat.zero_le _,rfl,by simp [Nat.mod_one]⟩
 case round=>
  obtain ⟨j,hj,rfl,rfl⟩:=hrel
  by_cases hlt:j<m
  ·have hx:v / 2 ^ q % 2 ^ j<2 ^ j:=Nat.mod_lt _ (Nat.pow_pos (by omega))
   have HX:=get_up v q j
   have HB:=enc_bit n v (q+j) (by omega)
   rw [←HZ.out] at HB
   have hbit:v / 2 ^ (q+j) % 2<2:=Nat.mod_lt _ (by omega)
   have hll:(q+j) / 8<zs.length:=by have:=HL.out;omega
   obtain ⟨b,off,rfl,hbl,hc⟩:=hb.len_pos ((q+j) / 8) hll
   have hs:=hc ((q+j) / 8) hll
   have hr:=getD_rng hb.1 ((q+j) / 8)
   generalize hX:v / 2 ^ q % 2 ^ j=X at *
   generalize hbt:v / 2 ^ (q+j) % 2=bt at *
   generalize zs.getD ((q+j) / 8) 0=z at *
   have HX':Hid (v / 2 ^ q % 2 ^ (j+1)=X+bt*2 ^ j):=HX
   have HB':Hid (z.toNat / 2 ^ ((q+j) % 8) % 2=bt):=HB
   clear HX HB hX hbt hc
   go_wp2
   go_round
   case rel=>exact ⟨j+1,by omega,by go_num,by rw [or_step64 X j _ z hr hx (by omega),HB'.out,HX'.out]⟩
   case measure=>simp [intOf];omega
  ·have hj0:j=m:=by omega
   subst hj0
   go_wp2
   go_ret
   exact ⟨rfl,rfl⟩
theorem get_no (R:Nat) (a:Option Addr) (cap:Nat) (zs:List Int) (n:Nat) (p width:Int) (w:World) (hn:n≤4104) (pb:p≤9223372036854775807)
  (c0:w.cell? ⟨R,0,none⟩=some (.slice a zs.length cap)) (c1:w.cell? ⟨R,1,none⟩=some (.int .i64 n)) (c2:w.cell? ⟨R,2,none⟩=some (.int .i64 p))
  (s0:Sent w 5) (s2:Sent w 11)
  (h:width<0∨30<width∨p<0∨(n:Int)-width<p) :
  Calls Tryz.prog 93 #[.pointer (some ⟨R,0,none⟩),.int .i64 width] w fun e w'=>(∃ T x,e=.returned (.tuple #[.int .i64 0,.iface T x]))∧∃ m,w'=w.drewN m:=by
 obtain ⟨T0,x0,g0⟩:=s0
 obtain ⟨T2,x2,g2⟩:=s2
 have key:(width<0∨30<width)∨(0≤width∧width≤30∧p<0)∨(0≤width∧width≤30∧0≤p∧(n:Int)-width<p):=by omega
 clear h
 rcases key with hh | ⟨k1,k2,k3⟩ | ⟨k1,k2,k3,k4⟩
 ·have hd:Hid (decide (0≤width∧width≤30)=false):=by simp [Hid];omega
  go_enter Tryz.func93,Tryz.ntmps93
  go_wp2_with fail
  refine (widthOk_any width _).mono ?_
  rintro e w1 ⟨rfl,rfl⟩
  rw [hd.out]
  go_wp2_with fail
  go_quiet (fail)
  go_wp2
  go_ret2
  exact ⟨⟨_,_,rfl⟩,_,rfl⟩
 ·have hd:Hid (decide (0≤width∧width≤30)=true):=by simp [Hid];omega
  have hp:decide (p<0)=true:=by simpa using k3
  go_enter Tryz.func93,Tryz.ntmps93
  go_wp2_with fail
  refine (widthOk_any width _).mono ?_
  rintro e w1 ⟨rfl,rfl⟩
  rw [hd.out]
  go_wp2_with fail
  go_quiet (fail)
  go_wp2
  go_quiet (fail)
  go_wp2
  go_ret2
  exact ⟨⟨_,_,rfl⟩,_,World.drewN_drewN ..⟩
 ·have hd:Hid (decide (0≤width∧width≤30)=true):=by simp [Hid];omega
  have hp:decide (p<0)=false:=by simpa using k3
  go_enter Tryz.func93,Tryz.ntmps93
  go_wp2_with fail
  refine (widthOk_any width _).mono ?_
  rintro e w1 ⟨rfl,rfl⟩
  rw [hd.out]
  go_wp2_with fail
  go_quiet (fail)
  go_wp2
  go_quiet (fail)
  go_wp2
  go_ret2
  exact ⟨⟨_,_,rfl⟩,_,World.drewN_drewN ..⟩
/-- The bytes may hold more bits than the reader has. -/
theorem get_yesM (R:Nat) (a:Option Addr) (cap:Nat) (zs:List Int) (n M v:Nat) (p width:Int) (w:World) (hn:n≤4104) (hM:M≤4104) (hnM:n≤M) (hb:Byt w a zs) (hz:zs=enc M v)
  (c0:w.cell? ⟨R,0,none⟩=some (.slice a zs.length cap)) (c1:w.cell? ⟨R,1,none⟩=some (.int .i64 n)) (c2:w.cell? ⟨R,2,none⟩=some (.int .i64 p)) (f2:w.frozen? ⟨R,2,none⟩=false)
  (k1:0≤width) (k2:width≤30) (k3:0≤p) (k4:p≤(n:Int)-width) :
  Calls Tryz.prog 93 #[.pointer (some ⟨R,0,none⟩),.int .i64 width] w fun e w'=>
   e=.returned (.tuple #[.int .i64 (v / 2 ^ p.toNat % 2 ^ width.toNat:Nat),.nilIface])∧∃ m,w'=(w.drewN m).setCell ⟨R,2,none⟩ (.int .i64 (p+width)):=by
 have hd:Hid (decide (0≤width∧width≤30)=true):=by simp [Hid];omega
 have hp:decide (p<0)=false:=by simpa using k3
 have HZ:Hid (zs=enc M v):=hz
 clear hz
 go_enter Tryz.func93,Tryz.ntmps93
 go_wp2_with fail
 refine (widthOk_any width _).mono ?_
 rintro e w1 ⟨rfl,rfl⟩
 rw [hd.out]
 go_wp2_with fail
 go_quiet (fail)
 go_wp2_with fail
 refine (number_any R a cap zs n p p width M v _ (hb.drewN _) HZ.out hM (by simpa using c0) k3 k1 k2 (by omega)).mono ?_
 rintro e w2 ⟨rfl,rfl⟩
 go_wp2
 go_ret2
 exact ⟨rfl,_,rfl⟩
theorem get_yes (R:Nat) (a:Option Addr) (cap:Nat) (zs:List Int) (n v:Nat) (p width:Int) (w:World) (hn:n≤4104) (hb:Byt w a zs) (hz:zs=enc n v)
  (c0:w.cell? ⟨R,0,none⟩=some (.slice a zs.length cap)) (c1:w.cell? ⟨R,1,none⟩=some (.int .i64 n)) (c2:w.cell? ⟨R,2,none⟩=some (.int .i64 p)) (f2:w.frozen? ⟨R,2,none⟩=false)
  (k1:0≤width) (k2:width≤30) (k3:0≤p) (k4:p≤(n:Int)-width) :
  Calls Tryz.prog 93 #[.pointer (some ⟨R,0,none⟩),.int .i64 width] w fun e w'=>
   e=.returned (.tuple #[.int .i64 (v / 2 ^ p.toNat % 2 ^ width.toNat:Nat),.nilIface])∧∃ m,w'=(w.drewN m).setCell ⟨R,2,none⟩ (.int .i64 (p+width)):=
 get_yesM R a cap zs n n v p width w hn hn nl hb hz c0 c1 c2 f2 k1 k2 k3 k4
theorem left_any (R:Nat) (n p:Nat) (w:World) (hn:n≤4104) (hp:p≤4104)
  (c1:w.cell? ⟨R,1,none⟩=some (.int .i64 n)) (c2:w.cell? ⟨R,2,none⟩=some (.int .i64 p)) :
  Calls Tryz.prog 67 #[.pointer (some ⟨R,0,none⟩)] w fun e w'=>e=.returned (.int .i64 ((n:Int)-p))∧∃ m,w'=w.drewN m:=by
 go_enter Tryz.func67,Tryz.ntmps67
 go_wp2_with fail
 go_quiet (fail)
 go_wp2
 go_ret
 exact ⟨rfl,_,rfl⟩
theorem some_no (R:Nat) (n p:Nat) (X:Value) (w:World) (hn:n≤4104) (hp:p=n)
  (c1:w.cell? ⟨R,1,none⟩=some (.int .i64 n)) (c2:w.cell? ⟨R,2,none⟩=some (.int .i64 p)) (g0:w.cell? ⟨11,0,none⟩=some X) :
  Calls Tryz.prog 126 #[.pointer (some ⟨R,0,none⟩)] w fun e w'=>
   e=.returned (.tuple #[.int .i64 0,.int .i64 0,X])∧∃ m,w'=w.drewN m:=by
 subst hp
 have HL:=left_any R p p w hn hn c1 c2
 rw [Int.sub_self] at HL
 go_enter Tryz.func126,Tryz.ntmps126
 go_wp2_with fail
 refine HL.mono ?_
 rintro e w1 ⟨rfl,m1,rfl⟩
 go_wp2
 go_quiet (fail)
 go_wp2
 exact bodyPost_ret (v:=.tuple #[.int .i64 0,.int .i64 0,X]) (by simp [results,Tryz.results126,go_sem]) rfl ⟨rfl,_,World.drewN_drewN ..⟩
theorem some_yes (R:Nat) (a:Option Addr) (cap:Nat) (zs:List Int) (n M v p:Nat) (w:World) (hn:n≤4104) (hM:M≤4104) (hnM:n≤M) (hb:Byt w a zs) (hz:zs=enc M v) (hp:p<n)
  (c0:w.cell? ⟨R,0,none⟩=some (.slice a zs.length cap)) (c1:w.cell? ⟨R,1,none⟩=some (.int .i64 n)) (c2:w.cell? ⟨R,2,none⟩=some (.int .i64 p)) (f2:w.frozen? ⟨R,2,none⟩=false) :
  Calls Tryz.prog 126 #[.pointer (some ⟨R,0,none⟩)] w fun e w'=>
   e=.returned (.tuple #[.int .i64 (v / 2 ^ p % 2 ^ (min (n-p) 30):Nat),.int .i64 (min (n-p) 30:Nat),.nilIface])∧∃ m,w'=(w.drewN m).setCell ⟨R,2,none⟩ (.int .i64 ((p+min (n-p) 30:Nat):Int)):=by
 have HZ:Hid (zs=enc M v):=hz
 clear hz
 have HL:=left_any R n p w hn (by omega) c1 c2
 obtain ⟨s,hs⟩:∃ s,s=min (n-p) 30:=⟨_,rfl⟩
 rw [←hs]
 have key:(s=30∧30<(n:Int)-(p:Int))∨((n:Int)-(p:Int)=(s:Int)∧(s:Int)≤30∧0<(s:Int)):=by omega
 clear hs
 rcases key with ⟨rfl,hk⟩ | ⟨hk,hk1,hk2⟩
 ·go_enter Tryz.func126,Tryz.ntmps126
  go_wp2_with fail
  refine HL.mono ?_
  rintro e w1 ⟨rfl,m1,rfl⟩
  clear HL
  go_wp2_with fail
  all_goals try (exfalso;omega)
  refine (get_yesM R a cap zs n M v (p:Int) 30 _ hn hM hnM (hb.drewN _) HZ.out (by simpa using c0) (by simpa using c1) (by simpa using c2) (by simpa using f2) (by omega) (by omega) (by omega) (by omega)).mono ?_
  rintro e w2 ⟨rfl,m2,rfl⟩
  go_wp2
  exact bodyPost_ret (v:=.tuple #[.int .i64 (v / 2 ^ p % 2 ^ 30:Nat),.int .i64 30,.nilIface]) (by simp [results,Tryz.results126,go_sem]) rfl ⟨rfl,m1+m2,by simp⟩
 ·rw [hk] at HL
  go_enter Tryz.func126,Tryz.ntmps126
  go_wp2_with fail
  refine HL.mono ?_
  rintro e w1 ⟨rfl,m1,rfl⟩
  clear HL
  go_wp2_with fail
  all_goals try (exfalso;omega)
  refine (get_yesM R a cap zs n M v (p:Int) (s:Int) _ hn hM hnM (hb.drewN _) HZ.out (by simpa using c0) (by simpa using c1) (by simpa using c2) (by simpa using f2) (by omega) (by omega) (by omega) (by omega)).mono ?_
  rintro e w2 ⟨rfl,m2,rfl⟩
  go_wp2
  exact bodyPost_ret (v:=.tuple #[.int .i64 (v / 2 ^ p % 2 ^ s:Nat),.int .i64 s,.nilIface]) (by simp [results,Tryz.results126,go_sem]) rfl ⟨rfl,m1+m2,by simp⟩
end Go.Proofs.YtfeokafkhnbdiaaGreatDoor
