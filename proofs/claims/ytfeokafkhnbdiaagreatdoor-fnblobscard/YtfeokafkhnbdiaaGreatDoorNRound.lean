/- Lemmas on the way. -/
import Derived.Test.YtfeokafkhnbdiaaGreatDoorPcN
import Derived.Test.YtfeokafkhnbdiaaGreatDoorRbI
import Derived.Test.YtfeokafkhnbdiaaGreatDoorCut
import Derived.Test.YtfeokafkhnbdiaaGreatDoorLen8
import Derived.Test.YtfeokafkhnbdiaaGreatDoorTakeI
import Derived.Test.YtfeokafkhnbdiaaGreatDoorPmB
import Derived.Test.YtfeokafkhnbdiaaGreatDoorHGet6
import Derived.Test.YtfeokafkhnbdiaaGreatDoorFp1
import Derived.Test.YtfeokafkhnbdiaaGreatDoorEnM
import Derived.Test.YtfeokafkhnbdiaaGreatDoorNGet2
set_option maxRecDepth 20000
set_option maxHeartbeats 16000000
namespace Go.Proofs.YtfeokafkhnbdiaaGreatDoor
open Go.RowKit
set_option linter.unusedVariables false
set_option linter.unusedSimpArgs false
theorem Byt.head1 {w:World} {a:Option Addr} {z:Int} {zs:List Int} (h:Byt w a (z :: zs)):∃ b off,a=some ⟨b,off,none⟩∧b<w.heap.size∧w.cell? ⟨b,off,none⟩=some (.int .u8 z)∧Byt w (some ⟨b,off+1,none⟩) zs∧0≤z∧z≤255:=by
 obtain ⟨b,off,rfl,hb,hc⟩:=h.2 (by simp)
 have hz:=h.1 z (by simp)
 refine ⟨b,off,rfl,hb,by simpa using hc 0 (by simp),⟨fun x hx=>h.1 x (by simp [hx]),fun _=>⟨b,off+1,rfl,hb,fun i hi=>?_⟩⟩,hz⟩
 have:=hc (i+1) (by simp;omega)
 rw [show off+1+i=off+(i+1) by omega,this]
 simp
theorem readBlob_any (a:Option Addr) (cap m:Nat) (zs:List Int) (o:Option (Nat × Nat)) (w:World) (hb:Byt w a ((m:Int) :: zs)) (h1:1≤zs.length) (h2:zs.length≤64) (hcap:zs.length+1≤cap) (hO:OpnP zs o) (hS:SentB w) :
  Calls Tryz.prog 56 #[.slice a (zs.length+1) cap] w fun e w'=>Below w.heap.size w w' ∧
   ((∃ bs v,RbY o m zs bs∧OVB w' w.heap.size v bs∧e=.returned (.tuple #[v,.nilIface]))∨((¬∃ bs,RbY o m zs bs)∧∃ T x v,e=.returned (.tuple #[v,.iface T x]))):=by
 obtain ⟨b,off,rfl,hbl,c0,hbt,hm0,hm1⟩:=hb.head1
 have HRB:Hid (Calls Tryz.prog 75 #[.int .i64 m,.slice (some ⟨b,off+1,none⟩) zs.length (cap-1)] w.drew fun e w'=>Below w.drew.heap.size w.drew w' ∧
   ((∃ bs v,RbY o m zs bs∧OVB w' w.drew.heap.size v bs∧e=.returned (.tuple #[v,.nilIface]))∨((¬∃ bs,RbY o m zs bs)∧∃ T x v,e=.returned (.tuple #[v,.iface T x])))):=
  readBlock_any m _ _ zs o w.drew (hbt.drewN 1) h1 h2 hO (hS.below ((Below.refl _ _).drew))
 clear hb hbt hO hS
 have g1:¬((zs.length:Int)+1<2):=by omega
 have g2:¬((65:Int)<(zs.length:Int)+1):=by omega
 have g3:IntKind.i64.wrap (m:Int)=m:=by rw [IntKind.wrap_i64];omega
 have g6:(1:Int)≤(zs.length:Int)+1:=by omega
 have g4:¬cap=1:=by omega
 have g5:¬cap=0:=by omega
 go_enter Tryz.func56,Tryz.ntmps56
 go_wp2_with fail
 refine wp_region_cut (S:=fun W=>W.cell? ⟨b,off,none⟩=some (.int .u8 m)) 12 (by kernel_rfl) (by kernel_rfl) (by exact c0) (fun hHeld=>?_)
 refine tk 0 (v:=?_) ?_ ?_
 rotate_left
 ·(intro w hSw;(try dsimp only at hSw);go_simp;try (with_reducible rfl))
 try simp only [tkS]
 refine tk 1 (v:=?_) ?_ ?_
 rotate_left
 ·(intro w hSw;(try dsimp only at hSw);go_simp;try (with_reducible rfl))
 try simp only [tkS]
 refine tk 2 (v:=?_) ?_ ?_
 rotate_left
 ·(intro w hSw;(try dsimp only at hSw);go_simp;try (with_reducible rfl))
 try simp only [tkS]
 refine tk 3 (v:=?_) ?_ ?_
 rotate_left
 ·(intro w hSw;(try dsimp only at hSw);go_simp;try (with_reducible rfl))
 try simp only [tkS]
 refine tk 4 (v:=?_) ?_ ?_
 rotate_left
 ·(intro w hSw;(try dsimp only at hSw);go_simp;try (with_reducible rfl))
 try simp only [tkS]
 refine tk 5 (v:=?_) ?_ ?_
 rotate_left
 ·(intro w hSw;(try dsimp only at hSw);go_simp;try (with_reducible rfl))
 try simp only [tkS]
 refine wpAnyH_ready (rs:=[6]) (by kernel_rfl) (by simp) ?_
 refine AllReadyH.cons rfl (fun K hK=>?_) AllReadyH.nil
 go_simp
 refine (HRB.out).mono ?_
 rintro e w1 ⟨hb1',hd⟩
 have hb1:Below w.heap.size w w1:=Below.drewS hb1'
 obtain ⟨v,er,rfl,hd2⟩:∃ v er,e=.returned (.tuple #[v,er])∧((er=.nilIface∧∃ bs,RbY o m zs bs∧OVB w1 w.heap.size v bs)∨((¬∃ bs,RbY o m zs bs)∧∃ T x,er=.iface T x)):=by
  rcases hd with ⟨bs,v,h1,h2,rfl⟩ | ⟨h1,T,x,v,rfl⟩
  ·exact ⟨v,_,rfl,.inl ⟨rfl,bs,h1,h2⟩⟩
  ·exact ⟨v,_,rfl,.inr ⟨h1,T,x,rfl⟩⟩
 have HD:Hid ((er=.nilIface∧∃ bs,RbY o m zs bs∧OVB w1 w.heap.size v bs)∨((¬∃ bs,RbY o m zs bs)∧∃ T x,er=.iface T x)):=hd2
 have HB1:Hid (Below w.heap.size w w1):=hb1
 have HK:Hid (w1.cell? ⟨b,off,none⟩=some (.int .u8 m)):=keep hb1 hbl c0
 clear hd hd2 hb1 hb1'
 dsimp only
 refine hK.out _ _ (by exact HK.out) (fun hHeld=>?_)
 clear hK K
 try simp only [tkS]
 refine tk 7 (v:=?_) ?_ ?_
 rotate_left
 ·(intro w hSw;(try dsimp only at hSw);go_simp;try (with_reducible rfl))
 try simp only [tkS]
 refine tk 8 (v:=?_) ?_ ?_
 rotate_left
 ·(intro w hSw;(try dsimp only at hSw);go_simp;try (with_reducible rfl))
 try simp only [tkS]
 refine tk 9 (v:=?_) ?_ ?_
 rotate_left
 ·(intro w hSw;(try dsimp only at hSw);go_simp;try (with_reducible rfl))
 try simp only [tkS]
 refine tk 10 (v:=?_) ?_ ?_
 rotate_left
 ·(intro w hSw;(try dsimp only at hSw);go_simp;try (with_reducible rfl))
 try simp only [tkS]
 refine tk 11 (v:=?_) ?_ ?_
 rotate_left
 ·(intro w hSw;(try dsimp only at hSw);go_simp;try (with_reducible rfl))
 try simp only [tkS]
 refine wpAnyH_done (by kernel_rfl) ?_ _
 simp only [cutQ,List.drop_succ_cons,List.drop_zero]
 rcases HD.out with ⟨rfl,bs,hy,hov⟩ | ⟨hno,T,x,rfl⟩
 ·have HO:Hid (RbY o m zs bs∧OVB w1 w.heap.size v bs):=⟨hy,hov⟩
  obtain ⟨va,vc,rfl⟩:=hov.form
  clear hy hov HD HRB
  go_wp2
  go_ret2
  exact ⟨HB1.out,.inl ⟨bs,_,HO.out.1,HO.out.2,rfl⟩⟩
 ·have HN:Hid (¬∃ bs,RbY o m zs bs):=hno
  have hz1:=HB1.out.size
  clear hno HD HRB
  go_wp2
  go_ret2
  exact ⟨HB1.out.alloc (by omega) _,.inr ⟨HN.out,_,_,_,rfl⟩⟩
theorem readBlob_no (a:Option Addr) (cap n:Nat) (w:World) (hn:n<2∨65<n) (hS:SentB w) :
  Calls Tryz.prog 56 #[.slice a n cap] w fun e w'=>Below w.heap.size w w'∧∃ T x v,e=.returned (.tuple #[v,.iface T x]):=by
 obtain ⟨T,x,hc⟩:=hS.b3
 have hl1:=hS.hB
 clear hS
 go_enter Tryz.func56,Tryz.ntmps56
 rcases hn with hn | hn
 ·have g1:(n:Int)<2:=by omega
  go_wp2
  go_region
  all_goals
   go_wp2
   go_ret2
   exact ⟨((Below.refl w.heap.size w).drew).alloc (by simp) _,_,_,_,rfl⟩
 ·have g1:¬(n:Int)<2:=by omega
  have g2:(65:Int)<n:=by omega
  go_wp2
  go_region
  all_goals
   go_wp2
   go_ret2
   exact ⟨((Below.refl w.heap.size w).drew).alloc (by simp) _,_,_,_,rfl⟩
theorem decodeI_any (a:Option Addr) (cap m:Nat) (zs:List Int) (o:Option (Nat × Nat)) (w:World) (hb:Byt w a ((m:Int) :: zs)) (h1:1≤zs.length) (h2:zs.length≤64) (hcap:zs.length+1≤cap) (hO:OpnP zs o) (hS:SentB w) :
  Calls Tryz.prog 28 #[.slice a (zs.length+1) cap] w fun e w'=>Below w.heap.size w w' ∧
   ((∃ bs v,RbY o m zs bs∧OVB w' w.heap.size v bs∧e=.returned (.tuple #[v,.bool true]))∨((¬∃ bs,RbY o m zs bs)∧e=.returned (.tuple #[.slice none 0 0,.bool false]))):=by
 have HR:=readBlob_any a cap m zs o w hb h1 h2 hcap hO hS
 clear hb hO hS
 go_enter Tryz.func28,Tryz.ntmps28
 go_wp2_with fail
 refine HR.mono ?_
 clear HR
 rintro e w1 ⟨hb1,⟨bs,v,hy,hov,rfl⟩ | ⟨hno,T,x,v,rfl⟩⟩
 ·have HO:Hid (RbY o m zs bs∧OVB w1 w.heap.size v bs∧Below w.heap.size w w1):=⟨hy,hov,hb1⟩
  obtain ⟨va,vc,rfl⟩:=hov.form
  clear hy hov hb1
  go_wp2
  go_ret2
  exact ⟨HO.out.2.2,.inl ⟨bs,_,HO.out.1,HO.out.2.1,rfl⟩⟩
 ·have HO:Hid ((¬∃ bs,RbY o m zs bs)∧Below w.heap.size w w1):=⟨hno,hb1⟩
  clear hno hb1
  go_wp2
  go_ret2
  exact ⟨HO.out.2,.inr ⟨HO.out.1,rfl⟩⟩
theorem decodeI_no (a:Option Addr) (cap n:Nat) (w:World) (hn:n<2∨65<n) (hS:SentB w) :
  Calls Tryz.prog 28 #[.slice a n cap] w fun e w'=>Below w.heap.size w w'∧e=.returned (.tuple #[.slice none 0 0,.bool false]):=by
 have HR:=readBlob_no a cap n w hn hS
 clear hS
 go_enter Tryz.func28,Tryz.ntmps28
 go_wp2_with fail
 refine HR.mono ?_
 clear HR
 rintro e w1 ⟨hb1,T,x,v,rfl⟩
 have HO:Hid (Below w.heap.size w w1):=hb1
 clear hb1
 go_wp2
 go_ret2
 exact ⟨HO.out,rfl⟩
theorem Mine.capBl {w:World} {B U:Nat} {a:Option Addr} {c:Nat} {zs:List Int} (h:Mine w B U a c zs):zs.length≤c:=by
 rcases h with ⟨_,rfl,_⟩ | ⟨g,_,_,_,ho⟩
 ·simp
 ·rcases ho.1.2 with ⟨e,e2⟩ | ⟨_,_,_,e,_,_,h1,h2,_⟩
  ·simp at e
  ·simp at e
   omega
theorem dbl_noughts :dbl [0] 6=List.replicate 64 0:=by decide
theorem rby_noughts {o:Option (Nat × Nat)} {bs:List Int}:RbY o 1 [0] bs↔bs=List.replicate 64 0:=by
 unfold RbY
 rw [dbl_noughts]
 constructor
 ·rintro ⟨h,⟨h1,_⟩ | ⟨_,_,rfl⟩ | ⟨h1,_⟩⟩
  ·omega
  ·rfl
  ·omega
 ·rintro rfl
  exact ⟨by simp,.inr (.inl ⟨rfl,rfl,rfl⟩)⟩
theorem blobs_any (w:World) (hE:SentE w) (hD:SentB w) :
  Calls Tryz.prog 11 #[] w fun e w'=>e=.returned (.bool true)∧Below w.heap.size w w':=by
 obtain ⟨i0,hi,hz0,hz1,hz2⟩:=info_parts Tryz.infoU8
 obtain ⟨rs,hrs⟩:∃ rs:List Int,rs=List.replicate 64 0:=⟨_,rfl⟩
 have HL:Hid (rs.length=64∧rs=List.replicate 64 0):=⟨by rw [hrs,List.length_replicate],hrs⟩
 have HS:Hid (SentE w∧SentB w):=⟨hE,hD⟩
 clear hrs hE hD
 go_enter Tryz.func11,Tryz.ntmps11
 go_wp2_with (at_make;refine wpList_make_full _ rfl _ _ 22 rfl w.heap.size 5 i0 (.int .u8 0) 1 Tryz.underlying22 hi hz0 hz1 .i64 .i64 _ _ 64 rfl rfl rfl rfl (by rw [hz2];omega) (by unfold maxLen;omega) nl ?_;intro w1 hown hgrow)
 have h0:Own w1 w.heap.size w.heap.size 64 (part rs 0):=by
  rw [part_zero,HL.out.1]
  refine ⟨?_,by intro z hz;simp at hz;omega⟩
  rw [made_zero] at hown
  simpa using hown
 rw [part_zero,HL.out.1,←HL.out.2] at h0
 have hbw:Below w.heap.size w w1:=(Below.refl _ _).grown hgrow nl (by intro k hk;cases hk)
 have HB1:Hid (Below w.heap.size w w1):=hbw
 have HEN:Hid (Calls Tryz.prog 31 #[.slice (some ⟨w.heap.size,0,none⟩) 64 64] w1 fun e w'=>pkA w1 w' (some [1,0]) e):=by
  have h:=implEncode_any (some ⟨w.heap.size,0,none⟩) 64 rs w1 h0.mine.byt (by have:=HL.out.1;omega) (HS.out.1.below hbw)
  rw [HL.out.1,HL.out.2,enO_noughts] at h
  exact h
 clear h0 hbw hown hgrow hi hz0 hz1 hz2
 go_wp2_with fail
 refine HEN.out.mono ?_
 clear HEN
 rintro e w2 ⟨⟨a2,c2,rfl,hm2⟩,hb2⟩
 simp only [Option.getD_some,Option.isSome_some] at hm2 ⊢
 have hb02:=HB1.out.trans (hb2.mono HB1.out.size)
 obtain ⟨o,ho⟩:=opnP [0] (by simp) (by simp)
 have HB2:Hid (Below w.heap.size w w2):=hb02
 have HDC:=decodeI_any a2 c2 1 [0] o w2 hm2.byt (by simp) (by simp) hm2.capBl ho (HS.out.2.below hb02)
 clear hm2 hb2 hb02 HB1 ho
 simp only [rby_noughts] at HDC
 go_wp2_with fail
 refine HDC.mono ?_
 clear HDC
 rintro e w3 ⟨hb3,⟨bs,v,rfl,hov,rfl⟩ | ⟨hno,rfl⟩⟩
 ·obtain ⟨va,vc,rfl⟩:=hov.form
  have hbb:=hov.byt
  rw [List.length_replicate] at *
  obtain ⟨b,off,rfl,hbl,hc⟩:=hbb.2 (by simp)
  have h9:w3.cell? ⟨b,off+9,none⟩=some (.int .u8 0):=hc 9 (by simp)
  have HB3:Hid (Below w.heap.size w w3):=HB2.out.trans (hb3.mono HB2.out.size)
  clear hc hbb hov hb3 HB2
  go_wp2
  go_ret
  exact ⟨rfl,HB3.out⟩
 ·exact absurd ⟨_,rfl⟩ hno
theorem lp_lt {zs:List Int} (hr:∀ i,i<zs.length→0≤zs.getD i 0∧zs.getD i 0≤12):∀ f i,(lp zs f i 0 0).2<2 ^ (lp zs f i 0 0).1
 | 0,i=>by simp [lp]
 | f+1,i=>by
  by_cases hi:i<zs.length
  ·by_cases hz:zs.getD i 0=0
   ·have h7:=(run_le zs i hi).1
    rw [lp_zero zs f i 0 0 hi hz,lp_shift]
    have ih:=lp_lt hr f (i+1+run zs i)
    generalize (lp zs f (i+1+run zs i) 0 0).1=a at *
    generalize (lp zs f (i+1+run zs i) 0 0).2=b at *
    simp only [Nat.zero_add]
    rw [Nat.pow_add]
    have e7:(2:Nat) ^ 7=128:=by decide
    have e4:(2:Nat) ^ 4=16:=by decide
    rw [e7,e4]
    omega
   ·have h12:=hr i hi
    rw [lp_pos zs f i 0 0 hi hz,lp_shift]
    have ih:=lp_lt hr f (i+1)
    generalize (lp zs f (i+1) 0 0).1=a at *
    generalize (lp zs f (i+1) 0 0).2=b at *
    simp only [Nat.zero_add]
    rw [Nat.pow_add]
    have e4:(2:Nat) ^ 4=16:=by decide
    rw [e4]
    simp only [Nat.pow_zero,Nat.mul_one]
    omega
  ·rw [lp_end zs _ i 0 0 hi];simp
theorem take_run (zs:List Int) (i:Nat) (hi:i<zs.length) (hz:zs.getD i 0=0):zs.take i++[0]++List.replicate (run zs i) 0=zs.take (i+1+run zs i):=by
 have hle:=(run_le zs i hi).2
 apply List.ext_getElem
 ·simp only [List.length_append,List.length_take,List.length_replicate,List.length_singleton]
  omega
 ·intro j h1 h2
  simp only [List.length_append,List.length_take,List.length_replicate,List.length_singleton] at h1
  rw [List.getElem_take]
  by_cases hj:j<i
  ·rw [List.getElem_append_left (by simp;omega),List.getElem_append_left (by simp;omega),List.getElem_take]
  ·by_cases hj2:j=i
   ·subst hj2
    rw [List.getElem_append_left (by simp;omega),List.getElem_append_right (by simp;omega)]
    have:zs[j]=zs.getD j 0:=by rw [List.getD_eq_getElem?_getD,List.getElem?_eq_getElem hi];rfl
    rw [this,hz]
    simp
   ·rw [List.getElem_append_right (by simp;omega)]
    have hr:=(run_in zs i (j-i-1) (by omega)).2.2
    rw [show i+(j-i-1)+1=j by omega,List.getD_eq_getElem?_getD,List.getElem?_eq_getElem (by omega)] at hr
    simp only [Option.getD_some] at hr
    rw [hr]
    simp
theorem take_one (zs:List Int) (i:Nat) (hi:i<zs.length):zs.take i++[zs.getD i 0]=zs.take (i+1):=by
 rw [List.take_succ_eq_append_getElem hi,List.getD_eq_getElem?_getD,List.getElem?_eq_getElem hi]
 rfl
theorem cv_grows (zs:List Int) (L:Nat):∀ d,2 ^ d*cv zs (sbL zs L) L≤cv zs (sbL zs (L+d)) (L+d)
 | 0=>by simp
 | d+1=>by
  have ih:=cv_grows zs L d
  have e:=cv_full zs (L+d)
  have e2:=fcd_succ zs (L+d)
  show _≤cv zs (sbL zs (L+d+1)) (L+d+1)
  rw [e,e2,Nat.pow_succ,Nat.mul_comm (2 ^ d) 2,Nat.mul_assoc]
  omega
theorem atL_less (zs:List Int) (L i k:Nat) (h:i<k) (hz:zs.getD i 0=(L:Int)):(atL zs L i).length+1≤(atL zs L k).length:=by
 have h1:=atL_mono zs L (i+1) k h
 rw [atL_yes zs L i hz] at h1
 simpa using h1
def csv (zs:List Int):List Int:=(crun zs (sbL zs 12)).2.2
theorem csv_at {zs:List Int} {M s:Nat} (h1:1≤M) (h2:M≤12) (hs:s<zs.length) (hz:zs.getD s 0=(M:Int)):(csv zs).getD s 0=((fcd zs M+(atL zs M s).length:Nat):Int):=code_at zs M s h1 h2 hs hz
theorem csv_free {zs:List Int} {L M i k:Nat} (h1:1≤L) (hL:L≤M) (h2:M≤12) (hi:i<zs.length) (hk:k<zs.length) (hzi:zs.getD i 0=(L:Int)) (hzk:zs.getD k 0=(M:Int)) (hne:i≠k):(csv zs).getD k 0 / 2 ^ (M-L)≠(csv zs).getD i 0:=by
 rw [csv_at h1 (by omega) hi hzi,csv_at (by omega) h2 hk hzk]
 intro he
 have he2:(fcd zs M+(atL zs M k).length) / 2 ^ (M-L)=fcd zs L+(atL zs L i).length:=by
  have:((((fcd zs M+(atL zs M k).length) / 2 ^ (M-L):Nat)):Int)=((fcd zs L+(atL zs L i).length:Nat):Int):=by simpa using he
  exact Int.ofNat.inj this
 by_cases hML:M=L
 ·subst hML
  simp only [Nat.sub_self,Nat.pow_zero,Nat.div_one] at he2
  rcases Nat.lt_or_gt_of_ne hne with h | h
  ·have:=atL_less zs M i k h hzi
   omega
  ·have:=atL_less zs M k i h hzk
   omega
 ·obtain ⟨d,rfl⟩:∃ d,M=L+d+1:=⟨M-L-1,by omega⟩
  have g:=cv_grows zs L d
  have e2:=fcd_succ zs (L+d)
  have hc:cv zs (sbL zs L) L=fcd zs L+(atL zs L zs.length).length:=by
   obtain ⟨l,rfl⟩:∃ l,L=l+1:=⟨L-1,by omega⟩
   exact cv_full zs l
  have hlt:=atL_less zs L i zs.length hi hzi
  rw [show L+d+1-L=d+1 by omega] at he2
  have hle:(fcd zs L+(atL zs L i).length+1)*2 ^ (d+1)≤fcd zs (L+d+1)+(atL zs (L+d+1) k).length:=by
   have h3:(fcd zs L+(atL zs L i).length+1)*2 ^ d≤cv zs (sbL zs L) L*2 ^ d:=Nat.mul_le_mul_right _ (by omega)
   rw [Nat.mul_comm _ (2 ^ d),Nat.mul_comm _ (2 ^ d)] at h3
   rw [Nat.pow_succ,Nat.mul_comm _ (2 ^ d*2),Nat.mul_assoc,Nat.mul_left_comm,e2]
   omega
  have h4:=(Nat.le_div_iff_mul_le (Nat.two_pow_pos (d+1))).2 hle
  omega
theorem rvp_bit (c L:Nat):∀ j i,i<j→rvp c L j / 2 ^ i % 2=c / 2 ^ (L-1-i) % 2
 | 0,i,h=>by omega
 | j+1,i,h=>by
  have hlt:=rvp_lt c L j
  simp only [rvp]
  by_cases e:i=j
  ·subst e
   rw [Nat.add_mul_div_right _ _ (Nat.two_pow_pos i),Nat.div_eq_of_lt hlt]
   omega
  ·rw [←bit_mod _ j i (by omega),Nat.add_mul_mod_self_right,Nat.mod_eq_of_lt hlt]
   exact rvp_bit c L j i (by omega)
theorem sumF_sum (f g:Int→Int) (zs:List Int):sumF (fun z=>f z+g z) zs=sumF f zs+sumF g zs:=by
 unfold sumF
 induction zs with
 | nil=>rfl
 | cons z zs ih=>simp only [List.map_cons,List.sum_cons,ih];omega
theorem sumF_same {f g:Int→Int} {zs:List Int} (h:∀ z ∈ zs,f z=g z):sumF f zs=sumF g zs:=by
 unfold sumF
 rw [List.map_congr_left h]
def shr (l:Nat) (z:Int):Int:=if 0<z∧z≤(l:Int) then share z else 0
theorem atL_sum (zs:List Int) (L:Nat) (c:Int):∀ n,n≤zs.length→sumF (fun z=>if z=(L:Int) then c else 0) (zs.take n)=((atL zs L n).length:Int)*c
 | 0,_=>by simp [sumF,atL_zero]
 | n+1,h=>by
  rw [sumF_succ _ _ _ (by omega),atL_sum zs L c n (by omega)]
  by_cases e:zs.getD n 0=(L:Int)
  ·rw [atL_yes zs L n e,if_pos e,List.length_append,Int.natCast_add,Int.add_mul]
   simp
  ·rw [atL_no zs L n e,if_neg e]
   simp
theorem shr_succ (l:Nat) (h:l<12) (z:Int):shr (l+1) z=shr l z+if z=((l+1:Nat):Int) then ((2 ^ (12-(l+1)):Nat):Int) else 0:=by
 unfold shr
 by_cases e:z=((l+1:Nat):Int)
 ·have h1:0<z∧z≤((l+1:Nat):Int):=by omega
  have h2:¬(0<z∧z≤(l:Int)):=by omega
  rw [if_pos h1,if_neg h2,if_pos e]
  unfold share
  rw [if_pos h1.1,show ((12:Int)-z).toNat=12-(l+1) by omega]
  simp
 ·rw [if_neg e]
  by_cases h2:0<z∧z≤(l:Int)
  ·have h1:0<z∧z≤((l+1:Nat):Int):=by omega
   rw [if_pos h2,if_pos h1];simp
  ·have h1:¬(0<z∧z≤((l+1:Nat):Int)):=by omega
   rw [if_neg h2,if_neg h1];simp
theorem sumF_nought (zs:List Int):sumF (fun _=>0) zs=0:=by
 unfold sumF
 induction zs with
 | nil=>rfl
 | cons z zs ih=>rw [List.map_cons,List.sum_cons,ih];rfl
theorem cv_share (zs:List Int):∀ l,l≤12→((cv zs (sbL zs l) l*2 ^ (12-l):Nat):Int)=sumF (shr l) zs
 | 0,_=>by
  have e0:cv zs (sbL zs 0) 0=0:=cv_nil zs
  rw [e0]
  have:sumF (shr 0) zs=sumF (fun _=>0) zs:=sumF_same fun z _=>by unfold shr;rw [if_neg (by omega)]
  rw [this,sumF_nought]
  simp
 | l+1,h=>by
  have ih:=cv_share zs l (by omega)
  rw [sumF_same (g:=fun z=>shr l z+if z=((l+1:Nat):Int) then ((2 ^ (12-(l+1)):Nat):Int) else 0) (fun z _=>shr_succ l (by omega) z),sumF_sum,←ih]
  have ha:=atL_sum zs (l+1) ((2 ^ (12-(l+1)):Nat):Int) zs.length nl
  rw [List.take_length] at ha
  rw [ha,cv_full,fcd_succ,show 12-l=(12-(l+1))+1 by omega,Nat.pow_succ,←Int.natCast_mul,←Int.natCast_add]
  congr 1
  generalize 2 ^ (12-(l+1))=z
  rw [Nat.add_mul,Nat.mul_comm z 2,←Nat.mul_assoc,Nat.mul_comm _ 2]
theorem cv_le {zs:List Int} (h:lensB zs=true) (M:Nat) (hM:M≤12):cv zs (sbL zs M) M≤2 ^ M:=by
 simp only [lensB,decide_eq_true_eq] at h
 obtain ⟨_,_,hr,hs⟩:=h
 have h12:=cv_share zs 12 (by omega)
 have e:sumF (shr 12) zs=sumF share zs:=sumF_same fun z hz=>by
  have:=hr z hz
  unfold shr share
  by_cases hp:0<z
  ·rw [if_pos (by omega)]
  ·rw [if_neg (by omega),if_neg hp]
 rw [e] at h12
 have g:=cv_grows zs M (12-M)
 rw [show M+(12-M)=12 by omega] at g
 simp only [Nat.sub_self,Nat.pow_zero,Nat.mul_one] at h12
 have h4:cv zs (sbL zs 12) 12≤4096:=by omega
 have e2:2 ^ (12-M)*2 ^ M=4096:=by rw [←Nat.pow_add,show 12-M+M=12 by omega]
 exact Nat.le_of_mul_le_mul_left (by rw [e2];omega) (Nat.two_pow_pos (12-M))
theorem csv_lt {zs:List Int} (h:lensB zs=true) {M s:Nat} (h1:1≤M) (h2:M≤12) (hs:s<zs.length) (hz:zs.getD s 0=(M:Int)):∃ c:Nat,(csv zs).getD s 0=(c:Int)∧c<2 ^ M:=by
 refine ⟨_,csv_at h1 h2 hs hz,?_⟩
 have h3:=atL_less zs M s zs.length hs hz
 have h4:=cv_le h M h2
 obtain ⟨l,rfl⟩:∃ l,M=l+1:=⟨M-1,by omega⟩
 rw [cv_full] at h4
 omega
theorem cd_bits {v p c L:Nat} (hc:c<2 ^ L) (h:∀ i,i<L→v / 2 ^ (p+i) % 2=c / 2 ^ (L-1-i) % 2):∀ j,j≤L→cd v p j=c / 2 ^ (L-j)
 | 0,_=>by rw [Nat.sub_zero,Nat.div_eq_of_lt hc];rfl
 | j+1,hj=>by
  simp only [cd]
  rw [cd_bits hc h j (by omega),h j (by omega),show L-j=(L-(j+1))+1 by omega,show L-1-j=L-(j+1) by omega,Nat.pow_succ,←Nat.div_div_eq_div_mul]
  omega
theorem hV_lt (ls cs ts:List Int):∀ k,hV ls cs ts k<2 ^ hN ls ts k
 | 0=>by simp [hV,hN]
 | k+1=>by
  have h1:=hV_lt ls cs ts k
  have h2:=rvp_lt (cs.getD (ts.getD k 0).toNat 0).toNat (zN ls (ts.getD k 0)) (zN ls (ts.getD k 0))
  simp only [hV,hN]
  rw [Nat.pow_add,Nat.mul_comm (2 ^ hN ls ts k)]
  generalize rvp (cs.getD (ts.getD k 0).toNat 0).toNat (zN ls (ts.getD k 0)) (zN ls (ts.getD k 0))=r at *
  generalize 2 ^ zN ls (ts.getD k 0)=z at *
  generalize 2 ^ hN ls ts k=y at *
  have h3:(r+1)*y≤z*y:=Nat.mul_le_mul_right _ h2
  rw [Nat.add_mul] at h3
  omega
theorem hN_mono (ls ts:List Int) {k l:Nat} (h:k≤l):hN ls ts k≤hN ls ts l:=by
 induction l with
 | zero => obtain rfl : k = 0 := by omega
           exact Nat.le_refl _
 | succ l ih=>
  by_cases e:k=l+1
  ·subst e;exact Nat.le_refl _
  ·have:=ih (by omega)
   simp only [hN]
   omega
theorem hV_bit (ls cs ts:List Int):∀ T k i,k<T→i<zN ls (ts.getD k 0)→hV ls cs ts T / 2 ^ (hN ls ts k+i) % 2=(cs.getD (ts.getD k 0).toNat 0).toNat / 2 ^ (zN ls (ts.getD k 0)-1-i) % 2
 | 0,k,i,h,_=>by omega
 | T+1,k,i,h,hi=>by
  have hlt:=hV_lt ls cs ts T
  simp only [hV]
  by_cases e:k=T
  ·subst e
   rw [Nat.pow_add,←Nat.div_div_eq_div_mul,Nat.add_mul_div_right _ _ (Nat.two_pow_pos _),Nat.div_eq_of_lt hlt,Nat.zero_add]
   exact rvp_bit _ _ _ i hi
  ·have hm:=hN_mono ls ts (show k+1≤T by omega)
   simp only [hN] at hm
   rw [←bit_mod _ (hN ls ts T) _ (by omega),Nat.add_mul_mod_self_right,Nat.mod_eq_of_lt hlt]
   exact hV_bit ls cs ts T k i (by omega) hi
theorem reads_text {ls ts:List Int} (hl:lensB ls=true) (ht:∀ k,k<ts.length→0≤ts.getD k 0∧ts.getD k 0<ls.length) (hc:coded ls ts):∀ k,k≤ts.length→Reads ls (csv ls) (hN ls ts ts.length) (hV ls (csv ls) ts ts.length) 0 (ts.take k) (hN ls ts k)
 | 0,_=>by rw [List.take_zero];exact .nil
 | k+1,h=>by
  have ih:=reads_text hl ht hc k (by omega)
  obtain ⟨r1,r2⟩:=ht k (by omega)
  have hcd:=hc k (by omega)
  have hbit:=hV_bit ls (csv ls) ts ts.length k
  have hm:=hN_mono ls ts (show k+1≤ts.length by omega)
  simp only [hN] at hm ⊢
  rw [List.take_succ_eq_append_getElem (by omega)]
  have eg:ts[k]=ts.getD k 0:=by rw [List.getD_eq_getElem?_getD,List.getElem?_eq_getElem (by omega)];rfl
  rw [eg]
  obtain ⟨s,hs⟩:∃ s:Nat,ts.getD k 0=(s:Int):=⟨_,(Int.toNat_of_nonneg r1).symm⟩
  rw [hs] at hm hbit hcd r2 ⊢
  simp only [zN,Int.toNat_natCast] at hm hbit hcd ⊢
  have hl0:=hl
  simp only [lensB,decide_eq_true_eq] at hl0
  have hsl:s<ls.length:=by omega
  have hr:=hl0.2.2.1 _ (getD_mem hsl)
  obtain ⟨L,hL⟩:∃ L:Nat,ls.getD s 0=(L:Int):=⟨_,(Int.toNat_of_nonneg hr.1).symm⟩
  rw [hL] at hm hbit hcd hr ⊢
  simp only [Int.toNat_natCast] at hm hbit ⊢
  have h1L:1≤L:=by omega
  obtain ⟨c,hcv,hlt⟩:=csv_lt hl h1L (by omega) hsl hL
  rw [hcv] at hbit
  simp only [Int.toNat_natCast] at hbit
  have hcd2:=cd_bits (v:=hV ls (csv ls) ts ts.length) (p:=hN ls ts k) hlt (fun i hi=>hbit i (by omega) hi)
  refine .snoc ih ⟨h1L,by omega,hm,hsl,⟨hL,?_⟩,fun j hj hh=>?_,fun j i hj1 hj2 hi hh=>?_⟩
  ·rw [hcv,hcd2 L nl,Nat.sub_self,Nat.pow_zero,Nat.div_one]
  ·obtain ⟨q1,q2⟩:=hh
   rw [hcd2 L nl,Nat.sub_self,Nat.pow_zero,Nat.div_one,←hcv] at q2
   refine csv_free h1L (Nat.le_refl L) (by omega) (show j<ls.length by omega) hsl q1 hL (by omega) ?_
   rw [Nat.sub_self,q2]
   simp
  ·obtain ⟨q1,q2⟩:=hh
   rw [hcd2 j (by omega)] at q2
   refine csv_free hj1 (show j≤L by omega) (by omega) hi hsl q1 hL (by rintro rfl;rw [hL] at q1;omega) ?_
   rw [hcv,q2]
   simp
theorem vb_lt {zs:List Int} (h:normB zs=true) (k:Nat) (hk:k≤zs.length):vb zs k<2 ^ nb zs k:=by
 induction k with
 | zero=>simp [vb,nb]
 | succ k ih=>
  have h1:=ih (by omega)
  have h2:=lft_succ h k (by omega)
  have h3:=bl_lt (lft zs k) (by have:=(lft_eq h k).2;omega)
  simp only [vb,nb]
  exact put_lt _ _ _ _ h1 (by omega)
theorem vb_more {zs:List Int} (j k:Nat) (hjk:j≤k):vb zs k % 2 ^ nb zs j=vb zs j % 2 ^ nb zs j∧nb zs j≤nb zs k:=by
 induction k with
 | zero => obtain rfl : j = 0 := by omega
           exact ⟨rfl,Nat.le_refl _⟩
 | succ k ih=>
  by_cases hj:j≤k
  ·obtain ⟨i1,i2⟩:=ih hj
   refine ⟨?_,by simp only [nb];omega⟩
   simp only [vb]
   rw [←i1]
   have e:2 ^ nb zs k=2 ^ nb zs j*2 ^ (nb zs k-nb zs j):=by rw [←Nat.pow_add];congr 1;omega
   rw [e,Nat.mul_comm (2 ^ nb zs j),←Nat.mul_assoc,Nat.add_mul_mod_self_right]
  ·obtain rfl:j=k+1:=by omega
   exact ⟨rfl,Nat.le_refl _⟩
theorem read_share (V a b n v:Nat) (h:V % 2 ^ (a+b)=v):V / 2 ^ a % 2 ^ b=v / 2 ^ a:=by
 rw [←h,Nat.pow_add,Nat.mod_mul_right_div_self]
theorem put_div (v x a:Nat) (h:v<2 ^ a):(v+x*2 ^ a) / 2 ^ a=x:=by
 rw [Nat.add_mul_div_right _ _ (Nat.pow_pos (by omega)),Nat.div_eq_of_lt h,Nat.zero_add]
end Go.Proofs.YtfeokafkhnbdiaaGreatDoor
