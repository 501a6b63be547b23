/-
  The program's reader of a sector: two bytes as a number; whether something is behind all that was read.
-/
import Derived.Test.YthngimdjjmhboaaGreatDoorRp1
import Derived.Test.YthngimdjjmhboaaGreatDoorBytesFor
import Derived.IntWalk
namespace Go.Proofs.YthngimdjjmhboaaGreatDoor
open Go.RowKit
set_option linter.unusedVariables false
set_option linter.unusedSimpArgs false

theorem or_two (x y:Int) (hx:0≤x∧x≤255) (hy:0≤y∧y≤255):bits .or .i64 (x * 256) y=x * 256+y:=by
 obtain ⟨a,rfl⟩:=Int.eq_ofNat_of_zero_le hx.1
 obtain ⟨b,rfl⟩:=Int.eq_ofNat_of_zero_le hy.1
 have ha:a≤255:=by omega
 have hb:b≤255:=by omega
 have e:((a:Int) * 256)=((a * 256:Nat):Int):=by omega
 have h:=Nat.two_pow_add_eq_or_of_lt (b:=b) (i:=8) (by omega) a
 rw [show 2 ^ 8 * a=a * 256 from by omega] at h
 rw [e,i64_or_nat _ _ (by omega) (by omega),←h]
 omega

structure PrB (W:World) (R b o:Nat) (zs:List Int):Prop where
 z:∀ i,i<zs.length→W.cell? ⟨b,o+i,none⟩=some (.int .u8 (zs.getD i 0))
 r:∀ z ∈ zs,0≤z∧z≤255
 ne:b≠R
 lt:b<W.heap.size
theorem PrB.only {W W':World} {R b o:Nat} {zs:List Int} (h:PrB W R b o zs) (ho:Only (fun x=>x=R) W W'):PrB W' R b o zs:=⟨fun i hi=>ho.cell h.lt h.ne (h.z i hi),h.r,h.ne,Nat.lt_of_lt_of_le h.lt ho.size⟩
theorem PrB.below {W W':World} {R b o:Nat} {zs:List Int} (h:PrB W R b o zs) (hb:Below W.heap.size W W'):PrB W' R b o zs:=⟨fun i hi=>keep hb h.lt (h.z i hi),h.r,h.ne,Nat.lt_of_lt_of_le h.lt hb.size⟩

set_option maxHeartbeats 1600000 in
theorem two_yes (R b o c p:Nat) (zs:List Int) (w:World) (h:PrR w R b o zs.length c p) (hb:PrB w R b o zs) (hp:p+1<zs.length) (hL:c≤9223372036854775807) :
  Calls Tryz.prog 190 #[.pointer (some ⟨R,0,none⟩)] w fun e w'=>e=.returned (.int .i64 (zs.getD p 0 * 256+zs.getD (p+1) 0))∧PrR w' R b o zs.length c (p+2)∧Only (fun x=>x=R) w w':=by
 have H1:=one_yes R b o c p zs w h (by omega) hL hb.z (getD_rng hb.r p) hb.ne hb.lt
 have HB:Hid (PrB w R b o zs):=hb
 have hx:=getD_rng hb.r p
 have hy:=getD_rng hb.r (p+1)
 obtain ⟨y,hy0⟩:∃ y,zs.getD (p+1) 0=y:=⟨_,rfl⟩
 have HY:Hid (zs.getD (p+1) 0=y∧True):=⟨hy0,trivial⟩
 rw [hy0] at hy ⊢
 clear h hb hy0
 generalize zs.getD p 0=x at *
 go_enter Tryz.func190,Tryz.ntmps190
 go_wp2_with fail
 refine H1.mono ?_
 clear H1
 rintro e w1 ⟨rfl,hR1,ho1⟩
 have hb1:=HB.out.only ho1
 have H2:=one_yes R b o c (p+1) zs w1 hR1 hp hL hb1.z (getD_rng hb1.r _) hb1.ne hb1.lt
 rw [HY.out.1] at H2
 have HO1:Hid (Only (fun x=>x=R) w w1):=ho1
 clear hR1 ho1 hb1
 go_wp2_with fail
 refine H2.mono ?_
 clear H2
 rintro e w2 ⟨rfl,hR2,ho2⟩
 have HR2:Hid (PrR w2 R b o zs.length c (p+1+1)∧Only (fun x=>x=R) w w2):=⟨hR2,HO1.out.trans ho2⟩
 clear hR2 ho2 HO1
 have hor:=or_two x y hx hy
 have hsh:IntKind.i64.wrap (x * 256)=x * 256:=IntWalk.i64_in _ (by omega)
 go_wp2
 go_ret
 exact ⟨by first | rfl | go_num,HR2.out.1,HR2.out.2⟩

def anyZ (zs:List Int):Bool:=zs.any (fun z=>z != 0)
theorem anyZ_succ (zs:List Int) (k:Nat) (h:k<zs.length):anyZ (zs.take (k+1))=(anyZ (zs.take k) || (zs.getD k 0 != 0)):=by
 unfold anyZ
 rw [List.take_succ_eq_append_getElem h,List.any_append]
 simp [List.getD_eq_getElem?_getD,List.getElem?_eq_getElem h]
theorem anyZ_hit (zs:List Int) (k:Nat) (h:k<zs.length) (h2:(zs.getD k 0 != 0)=true):anyZ zs=true:=by
 unfold anyZ
 rw [List.any_eq_true]
 refine ⟨zs.getD k 0,?_,h2⟩
 rw [List.getD_eq_getElem?_getD,List.getElem?_eq_getElem h];exact List.getElem_mem h
theorem anyZ_no {zs:List Int}:anyZ zs=false↔∀ z ∈ zs,z=0:=by
 unfold anyZ
 rw [List.any_eq_false]
 simp

set_option maxRecDepth 20000 in
set_option maxHeartbeats 2000000 in
theorem indexRest_any (za:Option Addr) (zc:Nat) (zs:List Int) (w:World) (hz:Byt w za zs) (hzn:zs.length≤1048576) :
  Calls Tryz.prog 207 #[.slice za zs.length zc,.func (.func 193) #[] #[]] w fun e w'=>
   (∃ r:Int,e=.returned (.int .i64 r)∧((anyZ zs=true∧0≤r)∨(anyZ zs=false∧r=-1)))∧Below w.heap.size w w':=by
 have HZ:Hid (Byt w za zs):=hz
 have HH:Hid (∀ k,k<zs.length→(zs.getD k 0 != 0)=true→anyZ zs=true):=fun k h h2=>anyZ_hit zs k h h2
 have HU:Hid (∀ k,k<zs.length→anyZ (zs.take (k+1))=(anyZ (zs.take k) || (zs.getD k 0 != 0))):=fun k h=>anyZ_succ zs k h
 have HE:Hid (anyZ (zs.take zs.length)=anyZ zs∧anyZ (zs.take 0)=false):=⟨by rw [List.take_length],rfl⟩
 clear hz
 generalize hlen:zs.length=n at *
 have HL:Hid (zs.length=n∧True):=⟨hlen,trivial⟩
 clear hlen
 generalize anyZ zs=r0 at *
 go_enter Tryz.func207,Tryz.ntmps207
 go_wp2
 go_loopw [8] (fun i wr=>∃ k:Nat,k≤n∧i=.int .i64 k∧anyZ (zs.take k)=false∧Below w.heap.size w wr) (fun i _=>n - (intOf i).toNat)
 case atStart=>exact ⟨0,Nat.zero_le _,rfl,HE.out.2,Below.refl _ _⟩
 case round=>
  obtain ⟨k,hk,rfl,han,hbel⟩:=hrel
  have HAN:Hid (anyZ (zs.take k)=false∧True):=⟨han,trivial⟩
  clear han
  by_cases hlt:k<n
  ·obtain ⟨b,off,rfl,hb1,hc1⟩:=(HZ.out.below hbel (Nat.le_refl _)).2 (by rw [HL.out.1];omega)
   have c0:=hc1 k (by rw [HL.out.1];exact hlt)
   have hu:=HU.out k hlt
   have hh:=HH.out k hlt
   rw [HAN.out.1,Bool.false_or] at hu
   have hr:=getD_rng HZ.out.1 k
   clear hc1
   generalize zs.getD k 0=z at *
   have HU2:Hid (anyZ (zs.take (k+1))=(z != 0)∧((z != 0)=true→r0=true)):=⟨hu,hh⟩
   clear hu hh
   have HB1:Hid (Below w.heap.size w wr):=hbel
   by_cases hz0:z=0
   ·subst hz0
    go_wp2
    go_roundw
    case rel=>exact ⟨k+1,by omega,by go_num,by rw [HU2.out.1];rfl,HB1.out⟩
    case measure=>simp [intOf];omega
   ·have hzb:(z != 0)=true:=by simp [hz0]
    go_wp2
    go_ret
    exact ⟨⟨_,rfl,.inl ⟨HU2.out.2 hzb,by omega⟩⟩,HB1.out⟩
  ·have hkn:k=n:=by omega
   subst hkn
   have HF:Hid (r0=false∧True):=⟨by rw [←HE.out.1];exact HAN.out.1,trivial⟩
   go_wp2
   go_ret
   exact ⟨⟨_,rfl,.inr ⟨HF.out.1,rfl⟩⟩,hbel⟩

set_option maxHeartbeats 800000 in
theorem containsRest_any (za:Option Addr) (zc:Nat) (zs:List Int) (w:World) (hz:Byt w za zs) (hzn:zs.length≤1048576) :
  Calls Tryz.prog 192 #[.slice za zs.length zc,.func (.func 193) #[] #[]] w fun e w'=>
   e=.returned (.bool (anyZ zs))∧Below w.heap.size w w':=by
 have HI:=indexRest_any za zc zs w hz hzn
 clear hz
 go_enter Tryz.func192,Tryz.ntmps192
 go_wp2_with fail
 refine HI.mono ?_
 clear HI
 rintro e w1 ⟨⟨r,rfl,hr⟩,hb1⟩
 have HB:Hid (Below w.heap.size w w1):=hb1
 clear hb1
 rcases hr with ⟨h1,h2⟩ | ⟨h1,rfl⟩
 ·have H1:Hid (anyZ zs=true∧True):=⟨h1,trivial⟩
  clear h1
  go_wp2
  go_ret
  exact ⟨by rw [H1.out.1];simp [h2],HB.out⟩
 ·have H1:Hid (anyZ zs=false∧True):=⟨h1,trivial⟩
  clear h1
  go_wp2
  go_ret
  exact ⟨by rw [H1.out.1];rfl,HB.out⟩
end Go.Proofs.YthngimdjjmhboaaGreatDoor
