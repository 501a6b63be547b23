/- Lemmas on the way. -/
import Derived.Test.YtfeokafkhnbdiaaGreatDoorPcN
import Derived.Test.YtfeokafkhnbdiaaGreatDoorRbI
import Derived.Test.YtfeokafkhnbdiaaGreatDoorCut
import Derived.Test.YtfeokafkhnbdiaaGreatDoorBlM
import Derived.Test.YtfeokafkhnbdiaaGreatDoorUs3
import Derived.Test.YtfeokafkhnbdiaaGreatDoorEnF
import Derived.Test.YtfeokafkhnbdiaaGreatDoorPut1
set_option maxRecDepth 20000
set_option maxHeartbeats 16000000
namespace Go.Proofs.YtfeokafkhnbdiaaGreatDoor
open Go.RowKit
set_option linter.unusedVariables false
set_option linter.unusedSimpArgs false
theorem Byt.head1 {w:World} {a:Option Addr} {z:Int} {zs:List Int} (h:Byt w a (z :: zs)):∃ b off,a=some ⟨b,off,none⟩∧b<w.heap.size∧w.cell? ⟨b,off,none⟩=some (.int .u8 z)∧Byt w (some ⟨b,off+1,none⟩) zs∧0≤z∧z≤255:=by
 obtain ⟨b,off,rfl,hb,hc⟩:=h.2 (by simp)
 have hz:=h.1 z (by simp)
 refine ⟨b,off,rfl,hb,by simpa using hc 0 (by simp),⟨fun x hx=>h.1 x (by simp [hx]),fun _=>⟨b,off+1,rfl,hb,fun i hi=>?_⟩⟩,hz⟩
 have:=hc (i+1) (by simp;omega)
 rw [show off+1+i=off+(i+1) by omega,this]
 simp
theorem readBlob_any (a:Option Addr) (cap m:Nat) (zs:List Int) (o:Option (Nat × Nat)) (w:World) (hb:Byt w a ((m:Int) :: zs)) (h1:1≤zs.length) (h2:zs.length≤64) (hcap:zs.length+1≤cap) (hO:OpnP zs o) (hS:SentB w) :
  Calls Tryz.prog 56 #[.slice a (zs.length+1) cap] w fun e w'=>Below w.heap.size w w' ∧
   ((∃ bs v,RbY o m zs bs∧OVB w' w.heap.size v bs∧e=.returned (.tuple #[v,.nilIface]))∨((¬∃ bs,RbY o m zs bs)∧∃ T x v,e=.returned (.tuple #[v,.iface T x]))):=by
 obtain ⟨b,off,rfl,hbl,c0,hbt,hm0,hm1⟩:=hb.head1
 have HRB:Hid (Calls Tryz.prog 75 #[.int .i64 m,.slice (some ⟨b,off+1,none⟩) zs.length (cap-1)] w.drew fun e w'=>Below w.drew.heap.size w.drew w' ∧
   ((∃ bs v,RbY o m zs bs∧OVB w' w.drew.heap.size v bs∧e=.returned (.tuple #[v,.nilIface]))∨((¬∃ bs,RbY o m zs bs)∧∃ T x v,e=.returned (.tuple #[v,.iface T x])))):=
  readBlock_any m _ _ zs o w.drew (hbt.drewN 1) h1 h2 hO (hS.below ((Below.refl _ _).drew))
 clear hb hbt hO hS
 have g1:¬((zs.length:Int)+1<2):=by omega
 have g2:¬((65:Int)<(zs.length:Int)+1):=by omega
 have g3:IntKind.i64.wrap (m:Int)=m:=by rw [IntKind.wrap_i64];omega
 have g6:(1:Int)≤(zs.length:Int)+1:=by omega
 have g4:¬cap=1:=by omega
 have g5:¬cap=0:=by omega
 go_enter Tryz.func56,Tryz.ntmps56
 go_wp2_with fail
 refine wp_region_cut (S:=fun W=>W.cell? ⟨b,off,none⟩=some (.int .u8 m)) 12 (by kernel_rfl) (by kernel_rfl) (by exact c0) (fun hHeld=>?_)
 refine tk 0 (v:=?_) ?_ ?_
 rotate_left
 ·(intro w hSw;(try dsimp only at hSw);go_simp;try (with_reducible rfl))
 try simp only [tkS]
 refine tk 1 (v:=?_) ?_ ?_
 rotate_left
 ·(intro w hSw;(try dsimp only at hSw);go_simp;try (with_reducible rfl))
 try simp only [tkS]
 refine tk 2 (v:=?_) ?_ ?_
 rotate_left
 ·(intro w hSw;(try dsimp only at hSw);go_simp;try (with_reducible rfl))
 try simp only [tkS]
 refine tk 3 (v:=?_) ?_ ?_
 rotate_left
 ·(intro w hSw;(try dsimp only at hSw);go_simp;try (with_reducible rfl))
 try simp only [tkS]
 refine tk 4 (v:=?_) ?_ ?_
 rotate_left
 ·(intro w hSw;(try dsimp only at hSw);go_simp;try (with_reducible rfl))
 try simp only [tkS]
 refine tk 5 (v:=?_) ?_ ?_
 rotate_left
 ·(intro w hSw;(try dsimp only at hSw);go_simp;try (with_reducible rfl))
 try simp only [tkS]
 refine wpAnyH_ready (rs:=[6]) (by kernel_rfl) (by simp) ?_
 refine AllReadyH.cons rfl (fun K hK=>?_) AllReadyH.nil
 go_simp
 refine (HRB.out).mono ?_
 rintro e w1 ⟨hb1',hd⟩
 have hb1:Below w.heap.size w w1:=Below.drewS hb1'
 obtain ⟨v,er,rfl,hd2⟩:∃ v er,e=.returned (.tuple #[v,er])∧((er=.nilIface∧∃ bs,RbY o m zs bs∧OVB w1 w.heap.size v bs)∨((¬∃ bs,RbY o m zs bs)∧∃ T x,er=.iface T x)):=by
  rcases hd with ⟨bs,v,h1,h2,rfl⟩ | ⟨h1,T,x,v,rfl⟩
  ·exact ⟨v,_,rfl,.inl ⟨rfl,bs,h1,h2⟩⟩
  ·exact ⟨v,_,rfl,.inr ⟨h1,T,x,rfl⟩⟩
 have HD:Hid ((er=.nilIface∧∃ bs,RbY o m zs bs∧OVB w1 w.heap.size v bs)∨((¬∃ bs,RbY o m zs bs)∧∃ T x,er=.iface T x)):=hd2
 have HB1:Hid (Below w.heap.size w w1):=hb1
 have HK:Hid (w1.cell? ⟨b,off,none⟩=some (.int .u8 m)):=keep hb1 hbl c0
 clear hd hd2 hb1 hb1'
 dsimp only
 refine hK.out _ _ (by exact HK.out) (fun hHeld=>?_)
 clear hK K
 try simp only [tkS]
 refine tk 7 (v:=?_) ?_ ?_
 rotate_left
 ·(intro w hSw;(try dsimp only at hSw);go_simp;try (with_reducible rfl))
 try simp only [tkS]
 refine tk 8 (v:=?_) ?_ ?_
 rotate_left
 ·(intro w hSw;(try dsimp only at hSw);go_simp;try (with_reducible rfl))
 try simp only [tkS]
 refine tk 9 (v:=?_) ?_ ?_
 rotate_left
 ·(intro w hSw;(try dsimp only at hSw);go_simp;try (with_reducible rfl))
 try simp only [tkS]
 refine tk 10 (v:=?_) ?_ ?_
 rotate_left
 ·(intro w hSw;(try dsimp only at hSw);go_simp;try (with_reducible rfl))
 try simp only [tkS]
 refine tk 11 (v:=?_) ?_ ?_
 rotate_left
 ·(intro w hSw;(try dsimp only at hSw);go_simp;try (with_reducible rfl))
 try simp only [tkS]
 refine wpAnyH_done (by kernel_rfl) ?_ _
 simp only [cutQ,List.drop_succ_cons,List.drop_zero]
 rcases HD.out with ⟨rfl,bs,hy,hov⟩ | ⟨hno,T,x,rfl⟩
 ·have HO:Hid (RbY o m zs bs∧OVB w1 w.heap.size v bs):=⟨hy,hov⟩
  obtain ⟨va,vc,rfl⟩:=hov.form
  clear hy hov HD HRB
  go_wp2
  go_ret2
  exact ⟨HB1.out,.inl ⟨bs,_,HO.out.1,HO.out.2,rfl⟩⟩
 ·have HN:Hid (¬∃ bs,RbY o m zs bs):=hno
  have hz1:=HB1.out.size
  clear hno HD HRB
  go_wp2
  go_ret2
  exact ⟨HB1.out.alloc (by omega) _,.inr ⟨HN.out,_,_,_,rfl⟩⟩
theorem decodeI_any (a:Option Addr) (cap m:Nat) (zs:List Int) (o:Option (Nat × Nat)) (w:World) (hb:Byt w a ((m:Int) :: zs)) (h1:1≤zs.length) (h2:zs.length≤64) (hcap:zs.length+1≤cap) (hO:OpnP zs o) (hS:SentB w) :
  Calls Tryz.prog 28 #[.slice a (zs.length+1) cap] w fun e w'=>Below w.heap.size w w' ∧
   ((∃ bs v,RbY o m zs bs∧OVB w' w.heap.size v bs∧e=.returned (.tuple #[v,.bool true]))∨((¬∃ bs,RbY o m zs bs)∧e=.returned (.tuple #[.slice none 0 0,.bool false]))):=by
 have HR:=readBlob_any a cap m zs o w hb h1 h2 hcap hO hS
 clear hb hO hS
 go_enter Tryz.func28,Tryz.ntmps28
 go_wp2_with fail
 refine HR.mono ?_
 clear HR
 rintro e w1 ⟨hb1,⟨bs,v,hy,hov,rfl⟩ | ⟨hno,T,x,v,rfl⟩⟩
 ·have HO:Hid (RbY o m zs bs∧OVB w1 w.heap.size v bs∧Below w.heap.size w w1):=⟨hy,hov,hb1⟩
  obtain ⟨va,vc,rfl⟩:=hov.form
  clear hy hov hb1
  go_wp2
  go_ret2
  exact ⟨HO.out.2.2,.inl ⟨bs,_,HO.out.1,HO.out.2.1,rfl⟩⟩
 ·have HO:Hid ((¬∃ bs,RbY o m zs bs)∧Below w.heap.size w w1):=⟨hno,hb1⟩
  clear hno hb1
  go_wp2
  go_ret2
  exact ⟨HO.out.2,.inr ⟨HO.out.1,rfl⟩⟩
theorem Mine.capBl {w:World} {B U:Nat} {a:Option Addr} {c:Nat} {zs:List Int} (h:Mine w B U a c zs):zs.length≤c:=by
 rcases h with ⟨_,rfl,_⟩ | ⟨g,_,_,_,ho⟩
 ·simp
 ·rcases ho.1.2 with ⟨e,e2⟩ | ⟨_,_,_,e,_,_,h1,h2,_⟩
  ·simp at e
  ·simp at e
   omega
theorem dbl_noughts :dbl [0] 6=List.replicate 64 0:=by decide
theorem rby_noughts {o:Option (Nat × Nat)} {bs:List Int}:RbY o 1 [0] bs↔bs=List.replicate 64 0:=by
 unfold RbY
 rw [dbl_noughts]
 constructor
 ·rintro ⟨h,⟨h1,_⟩ | ⟨_,_,rfl⟩ | ⟨h1,_⟩⟩
  ·omega
  ·rfl
  ·omega
 ·rintro rfl
  exact ⟨by simp,.inr (.inl ⟨rfl,rfl,rfl⟩)⟩
theorem blobs_any (w:World) (hE:SentE w) (hD:SentB w) :
  Calls Tryz.prog 11 #[] w fun e w'=>e=.returned (.bool true)∧Below w.heap.size w w':=by
 obtain ⟨i0,hi,hz0,hz1,hz2⟩:=info_parts Tryz.infoU8
 obtain ⟨rs,hrs⟩:∃ rs:List Int,rs=List.replicate 64 0:=⟨_,rfl⟩
 have HL:Hid (rs.length=64∧rs=List.replicate 64 0):=⟨by rw [hrs,List.length_replicate],hrs⟩
 have HS:Hid (SentE w∧SentB w):=⟨hE,hD⟩
 clear hrs hE hD
 go_enter Tryz.func11,Tryz.ntmps11
 go_wp2_with (at_make;refine wpList_make_full _ rfl _ _ 22 rfl w.heap.size 5 i0 (.int .u8 0) 1 Tryz.underlying22 hi hz0 hz1 .i64 .i64 _ _ 64 rfl rfl rfl rfl (by rw [hz2];omega) (by unfold maxLen;omega) nl ?_;intro w1 hown hgrow)
 have h0:Own w1 w.heap.size w.heap.size 64 (part rs 0):=by
  rw [part_zero,HL.out.1]
  refine ⟨?_,by intro z hz;simp at hz;omega⟩
  rw [made_zero] at hown
  simpa using hown
 rw [part_zero,HL.out.1,←HL.out.2] at h0
 have hbw:Below w.heap.size w w1:=(Below.refl _ _).grown hgrow nl (by intro k hk;cases hk)
 have HB1:Hid (Below w.heap.size w w1):=hbw
 have HEN:Hid (Calls Tryz.prog 31 #[.slice (some ⟨w.heap.size,0,none⟩) 64 64] w1 fun e w'=>pkA w1 w' (some [1,0]) e):=by
  have h:=implEncode_any (some ⟨w.heap.size,0,none⟩) 64 rs w1 h0.mine.byt (by have:=HL.out.1;omega) (HS.out.1.below hbw)
  rw [HL.out.1,HL.out.2,enO_noughts] at h
  exact h
 clear h0 hbw hown hgrow hi hz0 hz1 hz2
 go_wp2_with fail
 refine HEN.out.mono ?_
 clear HEN
 rintro e w2 ⟨⟨a2,c2,rfl,hm2⟩,hb2⟩
 simp only [Option.getD_some,Option.isSome_some] at hm2 ⊢
 have hb02:=HB1.out.trans (hb2.mono HB1.out.size)
 obtain ⟨o,ho⟩:=opnP [0] (by simp) (by simp)
 have HB2:Hid (Below w.heap.size w w2):=hb02
 have HDC:=decodeI_any a2 c2 1 [0] o w2 hm2.byt (by simp) (by simp) hm2.capBl ho (HS.out.2.below hb02)
 clear hm2 hb2 hb02 HB1 ho
 simp only [rby_noughts] at HDC
 go_wp2_with fail
 refine HDC.mono ?_
 clear HDC
 rintro e w3 ⟨hb3,⟨bs,v,rfl,hov,rfl⟩ | ⟨hno,rfl⟩⟩
 ·obtain ⟨va,vc,rfl⟩:=hov.form
  have hbb:=hov.byt
  rw [List.length_replicate] at *
  obtain ⟨b,off,rfl,hbl,hc⟩:=hbb.2 (by simp)
  have h9:w3.cell? ⟨b,off+9,none⟩=some (.int .u8 0):=hc 9 (by simp)
  have HB3:Hid (Below w.heap.size w w3):=HB2.out.trans (hb3.mono HB2.out.size)
  clear hc hbb hov hb3 HB2
  go_wp2
  go_ret
  exact ⟨rfl,HB3.out⟩
 ·exact absurd ⟨_,rfl⟩ hno
theorem bt_top {b w v x h:Nat} (hv:v<2 ^ b) (hx:x<2 ^ w):bt (v+x*2 ^ b+2 ^ (b+w)*h) b w=x:=by
 unfold bt
 have e:v+x*2 ^ b+2 ^ (b+w)*h=v+2 ^ b*(x+2 ^ w*h):=by rw [Nat.pow_add,Nat.mul_add,Nat.mul_comm x,Nat.mul_assoc,Nat.add_assoc]
 rw [e,Nat.add_mul_div_left _ _ (Nat.two_pow_pos b),Nat.div_eq_of_lt hv,Nat.zero_add,Nat.add_mul_mod_self_left,Nat.mod_eq_of_lt hx]
theorem cl_of {w x:Nat} (hx:x<2 ^ w):cl (2 ^ w+x)=w:=by
 have hp:=Nat.two_pow_pos w
 unfold cl bl
 rw [if_neg (by omega),Nat.add_sub_cancel]
 refine (Nat.log2_eq_iff (by omega)).2 ⟨by omega,by rw [Nat.pow_succ];omega⟩
def Ext (st:SyT) (N V:Nat):Prop:=st.2.1≤N∧∃ h,V=st.2.2+2 ^ st.2.1*h
def Run (N V:Nat) (st:SyT) (lits:List Int) (L:Nat) (out:List (List Int × Int × Int)):Prop:=uq N V st.1 0 [] 0 []=some (out,st.2.1,lits,L)
theorem uq_app (N V:Nat) (us:List Int):∀ (ts:List Int) (p:Nat) (lits:List Int) (L:Nat) (out:List (List Int × Int × Int)),uq N V (ts++us) p lits L out=(uq N V ts p lits L out).bind (fun r=>uq N V us r.2.1 r.2.2.1 r.2.2.2 r.1)
 | [],p,lits,L,out=>rfl
 | s :: ts,p,lits,L,out=>by
  rw [List.cons_append]
  simp only [uq]
  split
  ·rfl
  ·split
   ·exact uq_app N V us ts _ _ _ _
   ·split
    ·exact uq_app N V us ts _ _ _ _
    ·exact uq_app N V us ts _ _ _ _
section
variable {N V : Nat} {st : SyT} {lits : List Int} {L : Nat} {out : List (List Int × Int × Int)}
theorem Run.snoc {s:Int} {p':Nat} {lits':List Int} {L':Nat} {out':List (List Int × Int × Int)} (h:Run N V st lits L out) (h1:uq N V [s] st.2.1 lits L out=some (out',p',lits',L')):uq N V (st.1++[s]) 0 [] 0 []=some (out',p',lits',L'):=by
 unfold Run at h
 rw [uq_app,h]
 exact h1
theorem ext_step {x w b v:Nat} (h:b+w≤N∧∃ g,V=(v+x*2 ^ b)+2 ^ (b+w)*g):b≤N∧∃ g,V=v+2 ^ b*g:=by
 obtain ⟨h1,g,hg⟩:=h
 refine ⟨by omega,x+2 ^ w*g,?_⟩
 rw [hg,Nat.pow_add,Nat.mul_add,Nat.mul_comm x,Nat.mul_assoc,Nat.add_assoc]
theorem Ext.putL {z:Int} (h:Ext (putL st z) N V):Ext st N V:=ext_step (x:=(z % 16).toNat) (w:=4) h
theorem Ext.putN {base n:Nat} (h:Ext (putN base n st) N V):Ext st N V:=ext_step (x:=n-2 ^ cl n) (w:=cl n) h
theorem Ext.putLs {ls:List Int}:∀ {st:SyT},Ext (putLs ls st) N V→Ext st N V:=by
 induction ls with
 | nil=>exact fun h=>h
 | cons z ls ih=>exact fun h=>(ih (st:=_) h).putL
theorem run_putL {z:Int} (h:Run N V st lits 0 out) (hz:0≤z∧z≤255) (hv:st.2.2<2 ^ st.2.1) (he:Ext (putL st z) N V):Run N V (putL st z) (lits++[z]) 0 out:=by
 obtain ⟨h1,g,hg⟩:=he
 simp only [Go.Proofs.YtfeokafkhnbdiaaGreatDoor.putL] at h1 hg
 have hx:(z % 16).toNat<2 ^ 4:=by omega
 have hb:bt V st.2.1 4=(z % 16).toNat:=by rw [hg];exact bt_top hv hx
 refine h.snoc ?_
 rw [uq_let h1 rfl (by omega),hb]
 simp only [uq]
 rw [show 16*(z / 16)+(((z % 16).toNat:Nat):Int)=z by omega]
 rfl
theorem putL_lt {z:Int} (hv:st.2.2<2 ^ st.2.1):(putL st z).2.2<2 ^ (putL st z).2.1:=put_lt _ _ 4 _ hv (by have:=Int.emod_lt_of_pos z (show (0:Int)<16 by omega);have:=Int.emod_nonneg z (show (16:Int)≠0 by omega);omega)
theorem run_putLs :∀ (ls:List Int) (st:SyT) (lits:List Int),Run N V st lits 0 out→(∀ z ∈ ls,0≤z∧z≤255)→st.2.2<2 ^ st.2.1→Ext (putLs ls st) N V→Run N V (putLs ls st) (lits++ls) 0 out∧(putLs ls st).2.2<2 ^ (putLs ls st).2.1
 | [],st,lits,h,_,hv,_=>by rw [List.append_nil];exact ⟨h,hv⟩
 | z :: ls,st,lits,h,hz,hv,he=>by
  have h1:=run_putL h (hz z (by simp)) hv (Ext.putLs (ls:=ls) he)
  have h2:=run_putLs ls (putL st z) (lits++[z]) h1 (fun y hy=>hz y (by simp [hy])) (putL_lt hv) he
  rw [List.append_assoc] at h2
  exact h2
theorem putN_lt' {base n:Nat} (hv:st.2.2<2 ^ st.2.1) (h1:1≤n) (h2:n<256):(putN base n st).2.2<2 ^ (putN base n st).2.1:=by
 have hc:=cl_fact h1 h2
 refine put_lt _ _ (cl n) _ hv ?_
 have:=hc.2.1
 rw [Nat.pow_succ] at this
 omega
theorem run_len {n:Nat} (h:Run N V st lits 0 out) (h1:1≤n) (h2:n<256) (hv:st.2.2<2 ^ st.2.1) (he:Ext (putN 16 n st) N V):Run N V (putN 16 n st) lits (n+2) out:=by
 obtain ⟨c1,c2,c3,-⟩:=cl_fact h1 h2
 obtain ⟨e1,g,hg⟩:=he
 simp only [Go.Proofs.YtfeokafkhnbdiaaGreatDoor.putN] at e1 hg
 rw [Nat.pow_succ] at c2
 have hb:bt V st.2.1 (cl n)=n-2 ^ cl n:=by rw [hg];exact bt_top hv (by omega)
 have hw:wid ((16+cl n:Nat):Int)=cl n:=by unfold wid;rw [if_neg (by omega),if_pos (by omega)];omega
 refine h.snoc ?_
 rw [uq_len (by rw [hw];exact e1) rfl (by omega) (by omega),hw,hb]
 simp only [uq]
 rw [show 2 ^ cl n+(n-2 ^ cl n)+2=n+2 by omega]
 rfl
theorem run_dst {n:Nat} (h:Run N V st lits L out) (hL:0<L) (h1:1≤n) (h2:n<256) (hv:st.2.2<2 ^ st.2.1) (he:Ext (putN 28 n st) N V):Run N V (putN 28 n st) [] 0 (out++[(lits,(L:Int),(n:Int))]):=by
 obtain ⟨c1,c2,c3,-⟩:=cl_fact h1 h2
 obtain ⟨e1,g,hg⟩:=he
 simp only [Go.Proofs.YtfeokafkhnbdiaaGreatDoor.putN] at e1 hg
 rw [Nat.pow_succ] at c2
 have hb:bt V st.2.1 (cl n)=n-2 ^ cl n:=by rw [hg];exact bt_top hv (by omega)
 have hw:wid ((28+cl n:Nat):Int)=cl n:=by unfold wid;rw [if_pos (by omega)];omega
 refine h.snoc ?_
 rw [uq_dst (by rw [hw];exact e1) hL (by omega),hw,hb]
 simp only [uq]
 rw [show 2 ^ cl n+(n-2 ^ cl n)=n by omega]
 rfl
end
def Ok4 :List Sq→Prop
 | []=>True
 | s :: t=>(∀ z ∈ s.ls,0≤z∧z≤255)∧((s.n=0∧s.d=0∧t=[]∧s.ls≠[])∨(3≤s.n∧s.n≤64∧1≤s.d∧s.d≤64∧Ok4 t))
theorem sq_form {ss:List Sq} {m:Nat} (h:sqn ss=some m) (k:Nat) (hk:k<ss.length):((ss.getD k dq).n=0∧(ss.getD k dq).d=0∧k+1=ss.length∧0<(ss.getD k dq).ls.length)∨(3≤(ss.getD k dq).n∧(ss.getD k dq).n≤64∧1≤(ss.getD k dq).d∧(ss.getD k dq).d≤64):=by
 unfold sqn at h
 split at h
 ·cases h
 ·cases h1:sqc ss (k+1) with
  | none=>rw [sqc_none h1 _ (by omega)] at h;cases h
  | some m1=>
   simp only [sqc,Option.bind_eq_some_iff] at h1
   obtain ⟨m0,g1,g2⟩:=h1
   unfold stp at g2
   split at g2
   ·cases g2
   ·split at g2
    ·split at g2
     ·rename_i q1 q2 q3
      exact .inl ⟨q2,q3.1,by simpa using q3.2.1,q3.2.2⟩
     ·cases g2
    ·split at g2
     ·rename_i q1 q2 q3
      exact .inr (by omega)
     ·cases g2
theorem ok4_of :∀ (ss:List Sq),(∀ s ∈ ss,∀ z ∈ s.ls,0≤z∧z≤255)→(∀ k,k<ss.length→((ss.getD k dq).n=0∧(ss.getD k dq).d=0∧k+1=ss.length∧0<(ss.getD k dq).ls.length)∨(3≤(ss.getD k dq).n∧(ss.getD k dq).n≤64∧1≤(ss.getD k dq).d∧(ss.getD k dq).d≤64))→Ok4 ss
 | [],_,_=>trivial
 | s :: t,hz,h=>by
  refine ⟨hz s (by simp),?_⟩
  rcases h 0 (by simp) with ⟨h1,h2,h3,h4⟩ | ⟨h1,h2,h3,h4⟩
  ·refine .inl ⟨h1,h2,?_,?_⟩
   ·simp only [List.length_cons] at h3
    exact List.eq_nil_of_length_eq_zero (by omega)
   ·intro e
    have:s.ls.length=0:=by rw [e];rfl
    simp only [List.getD_cons_zero] at h4
    omega
  ·refine .inr ⟨h1,h2,h3,h4,ok4_of t (fun x hx=>hz x (by simp [hx])) (fun k hk=>?_)⟩
   have h9:=h (k+1) (by simp;omega)
   simp only [List.getD_cons_succ,List.length_cons] at h9
   rcases h9 with ⟨a1,a2,a3,a4⟩ | h9
   ·exact .inl ⟨a1,a2,by omega,a4⟩
   ·exact .inr h9
theorem Ext.putQs {N V:Nat}:∀ {ss:List Sq} {st:SyT},Ext (ss.foldl putQ st) N V→Ext st N V
 | [],st,h=>h
 | s :: ss,st,h=>by
  have h1:Ext (putQ st s) N V:=Ext.putQs (ss:=ss) h
  unfold putQ at h1
  split at h1
  ·exact h1.putLs
  ·exact h1.putN.putN.putLs
theorem run_all {N V:Nat}:∀ (ss:List Sq) (st:SyT) (out:List (List Int × Int × Int)),Ok4 ss→Run N V st [] 0 out→st.2.2<2 ^ st.2.1→Ext (ss.foldl putQ st) N V→(ss.foldl putQ st).2.1=N→uqE N (uq N V (ss.foldl putQ st).1 0 [] 0 [])=some (out++ss.map Sq.ct)
 | [],st,out,_,hr,_,_,hN=>by
  have hr':uq N V st.1 0 [] 0 []=some (out,st.2.1,[],0):=hr
  simp only [List.foldl_nil] at hN ⊢
  rw [hr']
  simp [uqE,hN]
 | s :: t,st,out,hok,hr,hv,he,hN=>by
  obtain ⟨hz,hok⟩:=hok
  have hq:Ext (putQ st s) N V:=Ext.putQs (ss:=t) he
  rcases hok with ⟨h1,h2,rfl,h4⟩ | ⟨h1,h2,h3,h4,h5⟩
  ·have e:putQ st s=putLs s.ls st:=by unfold putQ;rw [if_pos h1]
   rw [e] at hq
   obtain ⟨r1,-⟩:=run_putLs s.ls st [] hr hz hv hq
   simp only [List.foldl_cons,List.foldl_nil,List.nil_append] at hN r1 ⊢
   rw [e] at hN ⊢
   have r1':uq N V (putLs s.ls st).1 0 [] 0 []=some (out,(putLs s.ls st).2.1,s.ls,0):=r1
   rw [r1']
   simp [uqE,hN,h4,Sq.ct,h1,h2]
  ·have e:putQ st s=putN 28 s.d.toNat (putN 16 (s.n.toNat-2) (putLs s.ls st)):=by unfold putQ;rw [if_neg (by omega)]
   rw [e] at hq
   obtain ⟨r1,v1⟩:=run_putLs s.ls st [] hr hz hv hq.putN.putN
   have r2:=run_len r1 (n:=s.n.toNat-2) (by omega) (by omega) v1 hq.putN
   have v2:=putN_lt' (base:=16) (n:=s.n.toNat-2) v1 (by omega) (by omega)
   have r3:=run_dst r2 (by omega) (n:=s.d.toNat) (by omega) (by omega) v2 hq
   have v3:=putN_lt' (base:=28) (n:=s.d.toNat) v2 (by omega) (by omega)
   rw [←e] at r3 v3
   have h9:=run_all t (putQ st s) _ h5 r3 v3 he hN
   rw [List.foldl_cons,h9,List.append_assoc]
   simp only [List.nil_append,List.map_cons,List.cons_append,Sq.ct]
   rw [show ((s.n.toNat-2+2:Nat):Int)=s.n by omega,show ((s.d.toNat:Nat):Int)=s.d by omega]
theorem uqF_sy {ss:List Sq} (h:(sqn ss).isSome=true) (hz:∀ s ∈ ss,∀ z ∈ s.ls,0≤z∧z≤255):uqF (syOf ss).2.1 (syOf ss).2.2 (syOf ss).1=some (ss.map Sq.ct):=by
 obtain ⟨m,hm⟩:=Option.isSome_iff_exists.1 h
 have:=run_all (N:=(syOf ss).2.1) (V:=(syOf ss).2.2) ss ([],0,0) [] (ok4_of ss hz (sq_form hm)) rfl (by decide) ⟨Nat.le_refl _,0,by simp [syOf]⟩ rfl
 rw [List.nil_append] at this
 exact this
/-! The other way round. -/
theorem putC_yes {st:SyT} {c:List Int × Int × Int} (h:c.2.1≠0):putC st c=putN 28 c.2.2.toNat (putN 16 (c.2.1.toNat-2) (putLs c.1 st)):=by unfold putC;rw [if_neg h]
theorem putC_no {st:SyT} {c:List Int × Int × Int} (h:c.2.1=0):putC st c=putLs c.1 st:=by unfold putC;rw [if_pos h]
def cur (lits:List Int) (L:Nat) (out:List (List Int × Int × Int)):SyT:=if L=0 then putLs lits (out.foldl putC ([],0,0)) else putN 16 (L-2) (putLs lits (out.foldl putC ([],0,0)))
theorem mod_more (V p w:Nat):V % 2 ^ (p+w)=V % 2 ^ p+bt V p w*2 ^ p:=by
 unfold bt
 rw [Nat.pow_add,Nat.mod_mul,Nat.mul_comm (2 ^ p)]
theorem uq_back {N V:Nat}:∀ (t:List Int) (ts:List Int) (p:Nat) (lits:List Int) (L:Nat) (out:List (List Int × Int × Int)) (out':List (List Int × Int × Int)) (p':Nat) (lits':List Int) (L':Nat),uq N V t p lits L out=some (out',p',lits',L')→cur lits L out=(ts,p,V % 2 ^ p)→(0<L→3≤L)→cur lits' L' out'=(ts++t,p',V % 2 ^ p')
 | [],ts,p,lits,L,out,out',p',lits',L',h,hc,_=>by
  simp only [uq,Option.some.injEq,Prod.mk.injEq] at h
  obtain ⟨rfl,rfl,rfl,rfl⟩:=h
  rw [List.append_nil]
  exact hc
 | s :: t,ts,p,lits,L,out,out',p',lits',L',h,hc,hL3=>by
  simp only [uq] at h
  split at h
  ·cases h
  ·rename_i hb
   have hL:0<L↔28≤s:=by
    by_cases hx:(0<L↔28≤s)
    ·exact hx
    ·exact absurd (.inr hx) hb
   split at h
   ·rename_i h16
    have hL0:L=0:=by omega
    subst hL0
    have hbt:=bt_lt V p 4
    have key:cur (lits++[16*s+(bt V p 4:Nat)]) 0 out=(ts++[s],p+4,V % 2 ^ (p+4)):=by
     unfold cur at hc ⊢
     rw [if_pos rfl] at hc ⊢
     unfold putLs at hc ⊢
     rw [List.foldl_append,hc]
     simp only [List.foldl_cons,List.foldl_nil,putL]
     rw [mod_more,show (16*s+((bt V p 4:Nat):Int)) / 16=s by omega,show ((16*s+((bt V p 4:Nat):Int)) % 16).toNat=bt V p 4 by omega]
    have:=uq_back t (ts++[s]) _ _ _ _ _ _ _ _ h key (by omega)
    rw [List.append_assoc] at this
    exact this
   ·split at h
    ·rename_i h16 h28
     have hL0:L=0:=by omega
     subst hL0
     have hw:wid s=(s-16).toNat:=by unfold wid;rw [if_neg (by omega),if_pos (by omega)]
     have hbt:=bt_lt V p (wid s)
     have hp:=Nat.two_pow_pos (wid s)
     have key:cur lits (2 ^ wid s+bt V p (wid s)+2) out=(ts++[s],p+wid s,V % 2 ^ (p+wid s)):=by
      unfold cur at hc ⊢
      rw [if_pos rfl] at hc
      rw [if_neg (by omega),hc,Nat.add_sub_cancel]
      unfold putN
      rw [cl_of hbt]
      simp only
      rw [mod_more,show ((16+wid s:Nat):Int)=s by omega,Nat.add_sub_cancel_left]
     have:=uq_back t (ts++[s]) _ _ _ _ _ _ _ _ h key (by omega)
     rw [List.append_assoc] at this
     exact this
    ·rename_i h16 h28
     have hL0:0<L:=by omega
     have hw:wid s=(s-28).toNat:=by unfold wid;rw [if_pos (by omega)]
     have hbt:=bt_lt V p (wid s)
     have hp:=Nat.two_pow_pos (wid s)
     have key:cur [] 0 (out++[(lits,(L:Int),((2 ^ wid s+bt V p (wid s):Nat):Int))])=(ts++[s],p+wid s,V % 2 ^ (p+wid s)):=by
      unfold cur at hc ⊢
      rw [if_neg (by omega)] at hc
      rw [if_pos rfl,List.foldl_append]
      simp only [List.foldl_cons,List.foldl_nil,putLs]
      rw [putC_yes (by simp only;omega)]
      simp only
      rw [Int.toNat_natCast,Int.toNat_natCast,hc]
      unfold putN
      rw [cl_of hbt]
      simp only
      rw [mod_more,show ((28+wid s:Nat):Int)=s by omega,Nat.add_sub_cancel_left]
     have:=uq_back t (ts++[s]) _ _ _ _ _ _ _ _ h key (by omega)
     rw [List.append_assoc] at this
     exact this
theorem sy_uqF {N V:Nat} {ts:List Int} {ss:List Sq} (hV:V<2 ^ N) (h:uqF N V ts=some (ss.map Sq.ct)):syOf ss=(ts,N,V):=by
 unfold uqF uqE at h
 split at h
 ·cases h
 ·rename_i out p lits L hr
  split at h
  ·rename_i hp
   obtain ⟨rfl,rfl⟩:=hp
   have hc:=uq_back ts [] 0 [] 0 [] _ _ _ _ hr (by simp [cur,putLs,Nat.mod_one]) (by omega)
   rw [List.nil_append,Nat.mod_eq_of_lt hV] at hc
   unfold cur at hc
   rw [if_pos rfl] at hc
   rw [syOf_cs]
   simp only [Option.some.injEq] at h
   rw [←h,←hc]
   split
   ·rename_i hl
    rw [hl]
    rfl
   ·rw [List.foldl_append]
    simp only [List.foldl_cons,List.foldl_nil]
    rw [putC_no rfl]
  ·cases h
end Go.Proofs.YtfeokafkhnbdiaaGreatDoor
