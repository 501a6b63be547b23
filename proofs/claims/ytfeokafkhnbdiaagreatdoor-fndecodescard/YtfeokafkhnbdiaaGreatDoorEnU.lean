/- Lemmas on the way. -/
import Derived.Test.YtfeokafkhnbdiaaGreatDoorBRep
import Derived.Test.YtfeokafkhnbdiaaGreatDoorSy1
import Derived.Test.YtfeokafkhnbdiaaGreatDoorPcN
import Derived.Test.YtfeokafkhnbdiaaGreatDoorCut
import Derived.Test.YtfeokafkhnbdiaaGreatDoorOpen3
import Derived.BigQuiet
set_option maxRecDepth 20000
set_option maxHeartbeats 16000000
namespace Go.Proofs.YtfeokafkhnbdiaaGreatDoor
open Go.RowKit
set_option linter.unusedVariables false
set_option linter.unusedSimpArgs false
def OpnP (zs:List Int):Option (Nat × Nat)→Prop
 | some q=>q.1≤4096∧q.2<2 ^ q.1 ∧
   (∀ (a:Option Addr) (cap:Nat) (w:World),Byt w a zs→Calls Tryz.prog 105 #[.slice a zs.length cap] w fun e w'=>
    ∃ a' cp,e=.returned (.tuple #[.agg #[.slice a' (enc q.1 q.2).length cp,.int .i64 (q.1:Nat)],.bool true])∧Mine w' w.heap.size w'.heap.size a' cp (enc q.1 q.2)∧Below w.heap.size w w')
 | none=>
   ∀ (a:Option Addr) (cap:Nat) (w:World),Byt w a zs→Calls Tryz.prog 105 #[.slice a zs.length cap] w fun e w'=>
    e=.returned (.tuple #[.agg #[.slice none 0 0,.int .i64 0],.bool false])∧Below w.heap.size w w'
theorem opnP (zs:List Int) (hl:zs.length≤1048576) (hr:∀ z ∈ zs,0≤z∧z≤255):∃ o,OpnP zs o:=by
 by_cases h0:zs=[]∨zs.getD (zs.length-1) 0=0
 ·exact ⟨none,fun a cap w hb=>implOpen_no a cap zs w hb hl (h0.elim .inl (fun h=>.inr (.inl h)))⟩
 ·have hne:zs≠[]:=fun h=>h0 (.inl h)
  have hp:0<zs.length:=List.length_pos_iff.2 hne
  obtain ⟨L,hL⟩:∃ L,zs.length=L+1:=⟨zs.length-1,by omega⟩
  have hrL:=getD_rng hr L
  have hnz:zs.getD L 0≠0:=fun h=>h0 (.inr (by rw [show zs.length-1=L from by omega];exact h))
  obtain ⟨t,ht⟩:=Int.eq_ofNat_of_zero_le hrL.1
  rw [ht] at hrL hnz
  obtain ⟨b,hb8,h1,h2⟩:=top_bitW t (by omega) (by omega)
  have hok:=okB_open zs L b t hL h1 h2 hb8
  have hrng:∀ z ∈ openY zs L b t,0≤z∧z≤255:=by
   intro z hzz
   unfold openY at hzz
   split at hzz
   ·exact hr z (List.mem_of_mem_take hzz)
   ·rcases List.mem_or_eq_of_mem_set hzz with h | rfl
    ·exact hr z h
    ·omega
  by_cases hn:8*L+b≤4096
  ·rw [decide_eq_true hn] at hok
   obtain ⟨m,hm1,hm2,hm3,hm4⟩:=okB_enc hok hrng
   obtain rfl:8*L+b=m:=by omega
   refine ⟨some (8*L+b,val (openY zs L b t)),hn,hm4,fun a cap w hb=>?_⟩
   have:=implOpen_yes a cap zs L b t w hb hL ht h1 h2 hb8 hn
   rw [hL,←hm3]
   exact this
  ·exact ⟨none,fun a cap w hb=>implOpen_no a cap zs w hb hl (.inr (.inr ⟨L,b,t,hL,ht,h1,h2,hb8,by omega⟩))⟩
def RbY (o:Option (Nat × Nat)) (m:Nat) (zs bs:List Int):Prop:=
 bs.length=64∧((m=0∧bs=zs)∨(m=1∧zs.length=1∧bs=dbl zs 6)∨((m=2∨m=3)∧∃ q,o=some q∧OsY q.1 q.2 m bs))
structure SentB (w:World):Prop where
 d:SentD w
 b0:Sent w 10
 b1:Sent w 3
 b2:Sent w 4
 b3:Sent w 2
 hB:10<w.heap.size∧3<w.heap.size∧4<w.heap.size∧2<w.heap.size
theorem SentB.below {w w':World} (h:SentB w) (hb:Below w.heap.size w w'):SentB w':=
 ⟨h.d.below hb,h.b0.below hb h.hB.1,h.b1.below hb h.hB.2.1,h.b2.below hb h.hB.2.2.1,h.b3.below hb h.hB.2.2.2,by have:=hb.size;have:=h.hB;omega⟩
theorem openedSymbols_any (m:Nat) (a:Option Addr) (cap:Nat) (zs:List Int) (o:Option (Nat × Nat)) (w:World) (hm:m≤255) (hb:Byt w a zs) (hO:OpnP zs o) (hS:SentB w) :
  Calls Tryz.prog 89 #[.int .i64 m,.slice a zs.length cap] w fun e w'=>Below w.heap.size w w' ∧
   ((∃ bs v,(∃ q,o=some q∧OsY q.1 q.2 m bs)∧OVB w' w.heap.size v bs∧e=.returned (.tuple #[v,.nilIface]))∨((¬∃ bs q,o=some q∧OsY q.1 q.2 m bs)∧∃ T x v,e=.returned (.tuple #[v,.iface T x]))):=by
 cases o with
 | none=>
  refine (openedSymbols_no m a cap zs w hS.b0 hS.hB.1 (hO a cap w hb)).mono ?_
  rintro e w' ⟨h1,h2⟩
  exact ⟨h1,.inr ⟨by simp,h2⟩⟩
 | some q=>
  refine (openedSymbols_ok m a cap zs q.1 q.2 w hm hO.1 hS.d (hO.2.2 a cap w hb)).mono ?_
  rintro e w' ⟨h1,⟨bs,v,h2,h3⟩ | ⟨h2,h3⟩⟩
  ·exact ⟨h1,.inl ⟨bs,v,⟨q,rfl,h2⟩,h3⟩⟩
  ·refine ⟨h1,.inr ⟨?_,h3⟩⟩
   rintro ⟨bs,q',hq,h⟩
   cases hq
   exact h2 ⟨bs,h⟩
theorem readBlock_raw (a:Option Addr) (cap:Nat) (zs:List Int) (o:Option (Nat × Nat)) (w:World) (hb:Byt w a zs) (h2:zs.length≤64) (hS:SentB w) :
  Calls Tryz.prog 75 #[.int .i64 0,.slice a zs.length cap] w fun e w'=>Below w.heap.size w w' ∧
   ((∃ bs v,RbY o 0 zs bs∧OVB w' w.heap.size v bs∧e=.returned (.tuple #[v,.nilIface]))∨((¬∃ bs,RbY o 0 zs bs)∧∃ T x v,e=.returned (.tuple #[v,.iface T x]))):=by
 have HS:Hid (SentB w):=hS
 have HC:=bytesClone_any a cap zs w hb (by omega)
 clear hS hb
 go_enter Tryz.func75,Tryz.ntmps75
 go_wp2_with fail
 refine HC.mono ?_
 clear HC
 rintro e w1 ⟨⟨v,rfl,hov⟩,hb1⟩
 obtain ⟨va,vc,rfl⟩:=hov.form
 have HO:Hid (OVB w1 w.heap.size (.slice va zs.length vc) zs∧Below w.heap.size w w1):=⟨hov,hb1⟩
 obtain ⟨T,x,hc⟩:=(HS.out.below hb1).b2
 have hl1:=(HS.out.below hb1).hB
 clear hov hb1
 by_cases h64:zs.length=64
 ·have HY:Hid (RbY o 0 zs zs∧OVB w1 w.heap.size (.slice va 64 vc) zs):=⟨⟨h64,.inl ⟨rfl,rfl⟩⟩,by rw [←h64];exact HO.out.1⟩
  have hz:(zs.length:Int)=64:=by omega
  go_wp2
  go_ret2
  exact ⟨HO.out.2,.inl ⟨zs,_,HY.out.1,HY.out.2,rfl⟩⟩
 ·have HN:Hid (¬∃ bs,RbY o 0 zs bs):=by
   rintro ⟨bs,h,⟨_,rfl⟩ | ⟨h0,_⟩ | ⟨h0,_⟩⟩
   ·exact h64 h
   ·omega
   ·omega
  have hz:¬(zs.length:Int)=64:=by omega
  go_wp2
  go_quiet (fail)
  go_wp2
  go_ret2
  exact ⟨below_drewN HO.out.2 _,.inr ⟨HN.out,_,_,_,rfl⟩⟩
theorem readBlock_run (a:Option Addr) (cap:Nat) (zs:List Int) (o:Option (Nat × Nat)) (w:World) (hb:Byt w a zs) (h1:1≤zs.length) (h2:zs.length≤64) (hS:SentB w) :
  Calls Tryz.prog 75 #[.int .i64 1,.slice a zs.length cap] w fun e w'=>Below w.heap.size w w' ∧
   ((∃ bs v,RbY o 1 zs bs∧OVB w' w.heap.size v bs∧e=.returned (.tuple #[v,.nilIface]))∨((¬∃ bs,RbY o 1 zs bs)∧∃ T x v,e=.returned (.tuple #[v,.iface T x]))):=by
 have HS:Hid (SentB w):=hS
 have HC:=repeat_any a cap zs w hb h1 h2
 have hdl:=dbl_len zs 6
 obtain ⟨ds,hds⟩:∃ ds,ds=dbl zs 6:=⟨_,rfl⟩
 rw [←hds] at HC hdl
 have HD:Hid (ds=dbl zs 6∧ds.length=zs.length*64):=⟨hds,hdl⟩
 clear hS hb hds hdl
 go_enter Tryz.func75,Tryz.ntmps75
 go_wp2_with fail
 refine HC.mono ?_
 clear HC
 rintro e w0 ⟨⟨da,dc,rfl,hbd⟩,hb0⟩
 have HC:=bytesClone_any da dc ds w0 hbd (by have:=HD.out.2;omega)
 have HB0:Hid (Below w.heap.size w w0):=hb0
 clear hbd hb0
 go_wp2_with fail
 refine HC.mono ?_
 clear HC
 rintro e w1 ⟨⟨v,rfl,hov⟩,hb1⟩
 obtain ⟨va,vc,rfl⟩:=hov.form
 have hb01:=HB0.out.trans (hb1.mono HB0.out.size)
 have HO:Hid (OVB w1 w.heap.size (.slice va ds.length vc) ds∧Below w.heap.size w w1):=⟨hov.weak HB0.out.size,hb01⟩
 obtain ⟨T,x,hc⟩:=(HS.out.below hb01).b2
 have hl1:=(HS.out.below hb01).hB
 clear hov hb1 hb01
 by_cases h64:ds.length=64
 ·have HY:Hid (RbY o 1 zs ds∧OVB w1 w.heap.size (.slice va 64 vc) ds):=⟨⟨h64,.inr (.inl ⟨rfl,by have:=HD.out.2;omega,HD.out.1⟩)⟩,by rw [←h64];exact HO.out.1⟩
  have hz:(ds.length:Int)=64:=by omega
  go_wp2
  go_ret2
  exact ⟨HO.out.2,.inl ⟨ds,_,HY.out.1,HY.out.2,rfl⟩⟩
 ·have HN:Hid (¬∃ bs,RbY o 1 zs bs):=by
   rintro ⟨bs,h,⟨h0,_⟩ | ⟨_,h0,rfl⟩ | ⟨h0,_⟩⟩
   ·omega
   ·have:=HD.out.2
    omega
   ·omega
  have hz:¬(ds.length:Int)=64:=by omega
  go_wp2
  go_quiet (fail)
  go_wp2
  go_ret2
  exact ⟨below_drewN HO.out.2 _,.inr ⟨HN.out,_,_,_,rfl⟩⟩
theorem readBlock_sym (m:Nat) (a:Option Addr) (cap:Nat) (zs:List Int) (o:Option (Nat × Nat)) (w:World) (hm:m=2∨m=3) (hb:Byt w a zs) (hO:OpnP zs o) (hS:SentB w) :
  Calls Tryz.prog 75 #[.int .i64 m,.slice a zs.length cap] w fun e w'=>Below w.heap.size w w' ∧
   ((∃ bs v,RbY o m zs bs∧OVB w' w.heap.size v bs∧e=.returned (.tuple #[v,.nilIface]))∨((¬∃ bs,RbY o m zs bs)∧∃ T x v,e=.returned (.tuple #[v,.iface T x]))):=by
 have HS:Hid (SentB w):=hS
 have HC:=openedSymbols_any m a cap zs o w (by omega) hb hO hS
 have HN2:Hid ((¬∃ bs q,o=some q∧OsY q.1 q.2 m bs)→¬∃ bs,RbY o m zs bs):=by
  rintro h ⟨bs,-,⟨h0,_⟩ | ⟨h0,_⟩ | ⟨_,q,hq,hy⟩⟩
  ·omega
  ·omega
  ·exact h ⟨bs,q,hq,hy⟩
 have HN3:Hid (∀ bs bs',(∃ q,o=some q∧OsY q.1 q.2 m bs)→RbY o m zs bs'→bs'=bs):=by
  rintro bs bs' ⟨q,hq,hy⟩ ⟨-,⟨h0,_⟩ | ⟨h0,_⟩ | ⟨_,q',hq',hy'⟩⟩
  ·omega
  ·omega
  ·rw [hq] at hq'
   cases hq'
   exact hy'.unique hy
 have HN5:Hid (∀ bs,(∃ q,o=some q∧OsY q.1 q.2 m bs)→¬bs.length=64→¬∃ bs,RbY o m zs bs):=by
  rintro bs hy h64 ⟨bs',h⟩
  have:=HN3.out bs bs' hy h
  subst this
  exact h64 h.1
 have HN4:Hid (∀ bs,bs.length=64→(∃ q,o=some q∧OsY q.1 q.2 m bs)→RbY o m zs bs):=fun bs h64 h=>⟨h64,.inr (.inr ⟨hm,h⟩)⟩
 clear hS hb hO
 go_enter Tryz.func75,Tryz.ntmps75
 rcases hm with rfl | rfl
 all_goals
  go_wp2_with fail
  refine HC.mono ?_
  clear HC
  rintro e w1 ⟨hb1,⟨bs,v,hy,hov,rfl⟩ | ⟨hno,T,x,v,rfl⟩⟩
  ·obtain ⟨va,vc,rfl⟩:=hov.form
   have HO:Hid (OVB w1 w.heap.size (.slice va bs.length vc) bs∧Below w.heap.size w w1):=⟨hov,hb1⟩
   have HYQ:Hid (∃ q,o=some q∧OsY q.1 q.2 _ bs):=hy
   obtain ⟨T,x,hc⟩:=(HS.out.below hb1).b2
   have hl1:=(HS.out.below hb1).hB
   clear hov hb1 hy
   by_cases h64:bs.length=64
   ·have HY:Hid (RbY o _ zs bs∧OVB w1 w.heap.size (.slice va 64 vc) bs):=⟨HN4.out bs h64 HYQ.out,by rw [←h64];exact HO.out.1⟩
    have hz:(bs.length:Int)=64:=by omega
    go_wp2
    go_ret2
    exact ⟨HO.out.2,.inl ⟨bs,_,HY.out.1,HY.out.2,rfl⟩⟩
   ·have HN:Hid (¬∃ bs,RbY o _ zs bs):=HN5.out bs HYQ.out h64
    have hz:¬(bs.length:Int)=64:=by omega
    go_wp2
    go_quiet (fail)
    go_wp2
    go_ret2
    exact ⟨below_drewN HO.out.2 _,.inr ⟨HN.out,_,_,_,rfl⟩⟩
  ·have HB1:Hid (Below w.heap.size w w1):=hb1
   have HN:=HN2.out hno
   clear hb1 hno
   have HNH:Hid (¬∃ bs,RbY o _ zs bs):=HN
   clear HN HN2 HN3 HN4 HN5
   go_wp2
   go_ret2
   exact ⟨HB1.out,.inr ⟨HNH.out,_,_,_,rfl⟩⟩
theorem readBlock_other (m:Nat) (a:Option Addr) (cap:Nat) (zs:List Int) (o:Option (Nat × Nat)) (w:World) (hm:4≤m) (hS:SentB w) :
  Calls Tryz.prog 75 #[.int .i64 m,.slice a zs.length cap] w fun e w'=>Below w.heap.size w w' ∧
   ((∃ bs v,RbY o m zs bs∧OVB w' w.heap.size v bs∧e=.returned (.tuple #[v,.nilIface]))∨((¬∃ bs,RbY o m zs bs)∧∃ T x v,e=.returned (.tuple #[v,.iface T x]))):=by
 obtain ⟨T,x,hc⟩:=hS.b1
 have hl1:=hS.hB
 have HN:Hid (¬∃ bs,RbY o m zs bs):=by
  rintro ⟨bs,-,⟨h0,_⟩ | ⟨h0,_⟩ | ⟨h0,_⟩⟩ <;> omega
 have e0:((m:Int) == 0)=false:=by simp;omega
 have e1:((m:Int) == 1)=false:=by simp;omega
 have e2:((m:Int) == 2)=false:=by simp;omega
 have e3:((m:Int) == 3)=false:=by simp;omega
 clear hS hm
 go_enter Tryz.func75,Tryz.ntmps75
 go_wp2
 go_ret2
 exact ⟨Below.refl _ _,.inr ⟨HN.out,_,_,_,rfl⟩⟩
theorem readBlock_any (m:Nat) (a:Option Addr) (cap:Nat) (zs:List Int) (o:Option (Nat × Nat)) (w:World) (hb:Byt w a zs) (h1:1≤zs.length) (h2:zs.length≤64) (hO:OpnP zs o) (hS:SentB w) :
  Calls Tryz.prog 75 #[.int .i64 m,.slice a zs.length cap] w fun e w'=>Below w.heap.size w w' ∧
   ((∃ bs v,RbY o m zs bs∧OVB w' w.heap.size v bs∧e=.returned (.tuple #[v,.nilIface]))∨((¬∃ bs,RbY o m zs bs)∧∃ T x v,e=.returned (.tuple #[v,.iface T x]))):=by
 rcases (by omega:m=0∨m=1∨(m=2∨m=3)∨4≤m) with rfl | rfl | hm | hm
 ·exact readBlock_raw a cap zs o w hb h2 hS
 ·exact readBlock_run a cap zs o w hb h1 h2 hS
 ·exact readBlock_sym m a cap zs o w hm hb hO hS
 ·exact readBlock_other m a cap zs o w hm hS
theorem Byt.head1 {w:World} {a:Option Addr} {z:Int} {zs:List Int} (h:Byt w a (z :: zs)):∃ b off,a=some ⟨b,off,none⟩∧b<w.heap.size∧w.cell? ⟨b,off,none⟩=some (.int .u8 z)∧Byt w (some ⟨b,off+1,none⟩) zs∧0≤z∧z≤255:=by
 obtain ⟨b,off,rfl,hb,hc⟩:=h.2 (by simp)
 have hz:=h.1 z (by simp)
 refine ⟨b,off,rfl,hb,by simpa using hc 0 (by simp),⟨fun x hx=>h.1 x (by simp [hx]),fun _=>⟨b,off+1,rfl,hb,fun i hi=>?_⟩⟩,hz⟩
 have:=hc (i+1) (by simp;omega)
 rw [show off+1+i=off+(i+1) by omega,this]
 simp
theorem readBlob_any (a:Option Addr) (cap m:Nat) (zs:List Int) (o:Option (Nat × Nat)) (w:World) (hb:Byt w a ((m:Int) :: zs)) (h1:1≤zs.length) (h2:zs.length≤64) (hcap:zs.length+1≤cap) (hO:OpnP zs o) (hS:SentB w) :
  Calls Tryz.prog 56 #[.slice a (zs.length+1) cap] w fun e w'=>Below w.heap.size w w' ∧
   ((∃ bs v,RbY o m zs bs∧OVB w' w.heap.size v bs∧e=.returned (.tuple #[v,.nilIface]))∨((¬∃ bs,RbY o m zs bs)∧∃ T x v,e=.returned (.tuple #[v,.iface T x]))):=by
 obtain ⟨b,off,rfl,hbl,c0,hbt,hm0,hm1⟩:=hb.head1
 have HRB:Hid (Calls Tryz.prog 75 #[.int .i64 m,.slice (some ⟨b,off+1,none⟩) zs.length (cap-1)] w.drew fun e w'=>Below w.drew.heap.size w.drew w' ∧
   ((∃ bs v,RbY o m zs bs∧OVB w' w.drew.heap.size v bs∧e=.returned (.tuple #[v,.nilIface]))∨((¬∃ bs,RbY o m zs bs)∧∃ T x v,e=.returned (.tuple #[v,.iface T x])))):=
  readBlock_any m _ _ zs o w.drew (hbt.drewN 1) h1 h2 hO (hS.below ((Below.refl _ _).drew))
 clear hb hbt hO hS
 have g1:¬((zs.length:Int)+1<2):=by omega
 have g2:¬((65:Int)<(zs.length:Int)+1):=by omega
 have g3:IntKind.i64.wrap (m:Int)=m:=by rw [IntKind.wrap_i64];omega
 have g6:(1:Int)≤(zs.length:Int)+1:=by omega
 have g4:¬cap=1:=by omega
 have g5:¬cap=0:=by omega
 go_enter Tryz.func56,Tryz.ntmps56
 go_wp2_with fail
 refine wp_region_cut (S:=fun W=>W.cell? ⟨b,off,none⟩=some (.int .u8 m)) 12 (by kernel_rfl) (by kernel_rfl) (by exact c0) (fun hHeld=>?_)
 refine tk 0 (v:=?_) ?_ ?_
 rotate_left
 ·(intro w hSw;(try dsimp only at hSw);go_simp;try (with_reducible rfl))
 try simp only [tkS]
 refine tk 1 (v:=?_) ?_ ?_
 rotate_left
 ·(intro w hSw;(try dsimp only at hSw);go_simp;try (with_reducible rfl))
 try simp only [tkS]
 refine tk 2 (v:=?_) ?_ ?_
 rotate_left
 ·(intro w hSw;(try dsimp only at hSw);go_simp;try (with_reducible rfl))
 try simp only [tkS]
 refine tk 3 (v:=?_) ?_ ?_
 rotate_left
 ·(intro w hSw;(try dsimp only at hSw);go_simp;try (with_reducible rfl))
 try simp only [tkS]
 refine tk 4 (v:=?_) ?_ ?_
 rotate_left
 ·(intro w hSw;(try dsimp only at hSw);go_simp;try (with_reducible rfl))
 try simp only [tkS]
 refine tk 5 (v:=?_) ?_ ?_
 rotate_left
 ·(intro w hSw;(try dsimp only at hSw);go_simp;try (with_reducible rfl))
 try simp only [tkS]
 refine wpAnyH_ready (rs:=[6]) (by kernel_rfl) (by simp) ?_
 refine AllReadyH.cons rfl (fun K hK=>?_) AllReadyH.nil
 go_simp
 refine (HRB.out).mono ?_
 rintro e w1 ⟨hb1',hd⟩
 have hb1:Below w.heap.size w w1:=Below.drewS hb1'
 obtain ⟨v,er,rfl,hd2⟩:∃ v er,e=.returned (.tuple #[v,er])∧((er=.nilIface∧∃ bs,RbY o m zs bs∧OVB w1 w.heap.size v bs)∨((¬∃ bs,RbY o m zs bs)∧∃ T x,er=.iface T x)):=by
  rcases hd with ⟨bs,v,h1,h2,rfl⟩ | ⟨h1,T,x,v,rfl⟩
  ·exact ⟨v,_,rfl,.inl ⟨rfl,bs,h1,h2⟩⟩
  ·exact ⟨v,_,rfl,.inr ⟨h1,T,x,rfl⟩⟩
 have HD:Hid ((er=.nilIface∧∃ bs,RbY o m zs bs∧OVB w1 w.heap.size v bs)∨((¬∃ bs,RbY o m zs bs)∧∃ T x,er=.iface T x)):=hd2
 have HB1:Hid (Below w.heap.size w w1):=hb1
 have HK:Hid (w1.cell? ⟨b,off,none⟩=some (.int .u8 m)):=keep hb1 hbl c0
 clear hd hd2 hb1 hb1'
 dsimp only
 refine hK.out _ _ (by exact HK.out) (fun hHeld=>?_)
 clear hK K
 try simp only [tkS]
 refine tk 7 (v:=?_) ?_ ?_
 rotate_left
 ·(intro w hSw;(try dsimp only at hSw);go_simp;try (with_reducible rfl))
 try simp only [tkS]
 refine tk 8 (v:=?_) ?_ ?_
 rotate_left
 ·(intro w hSw;(try dsimp only at hSw);go_simp;try (with_reducible rfl))
 try simp only [tkS]
 refine tk 9 (v:=?_) ?_ ?_
 rotate_left
 ·(intro w hSw;(try dsimp only at hSw);go_simp;try (with_reducible rfl))
 try simp only [tkS]
 refine tk 10 (v:=?_) ?_ ?_
 rotate_left
 ·(intro w hSw;(try dsimp only at hSw);go_simp;try (with_reducible rfl))
 try simp only [tkS]
 refine tk 11 (v:=?_) ?_ ?_
 rotate_left
 ·(intro w hSw;(try dsimp only at hSw);go_simp;try (with_reducible rfl))
 try simp only [tkS]
 refine wpAnyH_done (by kernel_rfl) ?_ _
 simp only [cutQ,List.drop_succ_cons,List.drop_zero]
 rcases HD.out with ⟨rfl,bs,hy,hov⟩ | ⟨hno,T,x,rfl⟩
 ·have HO:Hid (RbY o m zs bs∧OVB w1 w.heap.size v bs):=⟨hy,hov⟩
  obtain ⟨va,vc,rfl⟩:=hov.form
  clear hy hov HD HRB
  go_wp2
  go_ret2
  exact ⟨HB1.out,.inl ⟨bs,_,HO.out.1,HO.out.2,rfl⟩⟩
 ·have HN:Hid (¬∃ bs,RbY o m zs bs):=hno
  have hz1:=HB1.out.size
  clear hno HD HRB
  go_wp2
  go_ret2
  exact ⟨HB1.out.alloc (by omega) _,.inr ⟨HN.out,_,_,_,rfl⟩⟩
theorem readBlob_no (a:Option Addr) (cap n:Nat) (w:World) (hn:n<2∨65<n) (hS:SentB w) :
  Calls Tryz.prog 56 #[.slice a n cap] w fun e w'=>Below w.heap.size w w'∧∃ T x v,e=.returned (.tuple #[v,.iface T x]):=by
 obtain ⟨T,x,hc⟩:=hS.b3
 have hl1:=hS.hB
 clear hS
 go_enter Tryz.func56,Tryz.ntmps56
 rcases hn with hn | hn
 ·have g1:(n:Int)<2:=by omega
  go_wp2
  go_region
  all_goals
   go_wp2
   go_ret2
   exact ⟨((Below.refl w.heap.size w).drew).alloc (by simp) _,_,_,_,rfl⟩
 ·have g1:¬(n:Int)<2:=by omega
  have g2:(65:Int)<n:=by omega
  go_wp2
  go_region
  all_goals
   go_wp2
   go_ret2
   exact ⟨((Below.refl w.heap.size w).drew).alloc (by simp) _,_,_,_,rfl⟩
theorem decodeI_any (a:Option Addr) (cap m:Nat) (zs:List Int) (o:Option (Nat × Nat)) (w:World) (hb:Byt w a ((m:Int) :: zs)) (h1:1≤zs.length) (h2:zs.length≤64) (hcap:zs.length+1≤cap) (hO:OpnP zs o) (hS:SentB w) :
  Calls Tryz.prog 28 #[.slice a (zs.length+1) cap] w fun e w'=>Below w.heap.size w w' ∧
   ((∃ bs v,RbY o m zs bs∧OVB w' w.heap.size v bs∧e=.returned (.tuple #[v,.bool true]))∨((¬∃ bs,RbY o m zs bs)∧e=.returned (.tuple #[.slice none 0 0,.bool false]))):=by
 have HR:=readBlob_any a cap m zs o w hb h1 h2 hcap hO hS
 clear hb hO hS
 go_enter Tryz.func28,Tryz.ntmps28
 go_wp2_with fail
 refine HR.mono ?_
 clear HR
 rintro e w1 ⟨hb1,⟨bs,v,hy,hov,rfl⟩ | ⟨hno,T,x,v,rfl⟩⟩
 ·have HO:Hid (RbY o m zs bs∧OVB w1 w.heap.size v bs∧Below w.heap.size w w1):=⟨hy,hov,hb1⟩
  obtain ⟨va,vc,rfl⟩:=hov.form
  clear hy hov hb1
  go_wp2
  go_ret2
  exact ⟨HO.out.2.2,.inl ⟨bs,_,HO.out.1,HO.out.2.1,rfl⟩⟩
 ·have HO:Hid ((¬∃ bs,RbY o m zs bs)∧Below w.heap.size w w1):=⟨hno,hb1⟩
  clear hno hb1
  go_wp2
  go_ret2
  exact ⟨HO.out.2,.inr ⟨HO.out.1,rfl⟩⟩
theorem decodeI_no (a:Option Addr) (cap n:Nat) (w:World) (hn:n<2∨65<n) (hS:SentB w) :
  Calls Tryz.prog 28 #[.slice a n cap] w fun e w'=>Below w.heap.size w w'∧e=.returned (.tuple #[.slice none 0 0,.bool false]):=by
 have HR:=readBlob_no a cap n w hn hS
 clear hS
 go_enter Tryz.func28,Tryz.ntmps28
 go_wp2_with fail
 refine HR.mono ?_
 clear HR
 rintro e w1 ⟨hb1,T,x,v,rfl⟩
 have HO:Hid (Below w.heap.size w w1):=hb1
 clear hb1
 go_wp2
 go_ret2
 exact ⟨HO.out,rfl⟩
theorem Mine.capBl {w:World} {B U:Nat} {a:Option Addr} {c:Nat} {zs:List Int} (h:Mine w B U a c zs):zs.length≤c:=by
 rcases h with ⟨_,rfl,_⟩ | ⟨g,_,_,_,ho⟩
 ·simp
 ·rcases ho.1.2 with ⟨e,e2⟩ | ⟨_,_,_,e,_,_,h1,h2,_⟩
  ·simp at e
  ·simp at e
   omega
theorem dbl_noughts :dbl [0] 6=List.replicate 64 0:=by decide
theorem rby_noughts {o:Option (Nat × Nat)} {bs:List Int}:RbY o 1 [0] bs↔bs=List.replicate 64 0:=by
 unfold RbY
 rw [dbl_noughts]
 constructor
 ·rintro ⟨h,⟨h1,_⟩ | ⟨_,_,rfl⟩ | ⟨h1,_⟩⟩
  ·omega
  ·rfl
  ·omega
 ·rintro rfl
  exact ⟨by simp,.inr (.inl ⟨rfl,rfl,rfl⟩)⟩
theorem blobs_any (w:World) (hE:SentE w) (hD:SentB w) :
  Calls Tryz.prog 11 #[] w fun e w'=>e=.returned (.bool true)∧Below w.heap.size w w':=by
 obtain ⟨i0,hi,hz0,hz1,hz2⟩:=info_parts Tryz.infoU8
 obtain ⟨rs,hrs⟩:∃ rs:List Int,rs=List.replicate 64 0:=⟨_,rfl⟩
 have HL:Hid (rs.length=64∧rs=List.replicate 64 0):=⟨by rw [hrs,List.length_replicate],hrs⟩
 have HS:Hid (SentE w∧SentB w):=⟨hE,hD⟩
 clear hrs hE hD
 go_enter Tryz.func11,Tryz.ntmps11
 go_wp2_with (at_make;refine wpList_make_full _ rfl _ _ 22 rfl w.heap.size 5 i0 (.int .u8 0) 1 Tryz.underlying22 hi hz0 hz1 .i64 .i64 _ _ 64 rfl rfl rfl rfl (by rw [hz2];omega) (by unfold maxLen;omega) nl ?_;intro w1 hown hgrow)
 have h0:Own w1 w.heap.size w.heap.size 64 (part rs 0):=by
  rw [part_zero,HL.out.1]
  refine ⟨?_,by intro z hz;simp at hz;omega⟩
  rw [made_zero] at hown
  simpa using hown
 rw [part_zero,HL.out.1,←HL.out.2] at h0
 have hbw:Below w.heap.size w w1:=(Below.refl _ _).grown hgrow nl (by intro k hk;cases hk)
 have HB1:Hid (Below w.heap.size w w1):=hbw
 have HEN:Hid (Calls Tryz.prog 31 #[.slice (some ⟨w.heap.size,0,none⟩) 64 64] w1 fun e w'=>pkA w1 w' (some [1,0]) e):=by
  have h:=implEncode_any (some ⟨w.heap.size,0,none⟩) 64 rs w1 h0.mine.byt (by have:=HL.out.1;omega) (HS.out.1.below hbw)
  rw [HL.out.1,HL.out.2,enO_noughts] at h
  exact h
 clear h0 hbw hown hgrow hi hz0 hz1 hz2
 go_wp2_with fail
 refine HEN.out.mono ?_
 clear HEN
 rintro e w2 ⟨⟨a2,c2,rfl,hm2⟩,hb2⟩
 simp only [Option.getD_some,Option.isSome_some] at hm2 ⊢
 have hb02:=HB1.out.trans (hb2.mono HB1.out.size)
 obtain ⟨o,ho⟩:=opnP [0] (by simp) (by simp)
 have HB2:Hid (Below w.heap.size w w2):=hb02
 have HDC:=decodeI_any a2 c2 1 [0] o w2 hm2.byt (by simp) (by simp) hm2.capBl ho (HS.out.2.below hb02)
 clear hm2 hb2 hb02 HB1 ho
 simp only [rby_noughts] at HDC
 go_wp2_with fail
 refine HDC.mono ?_
 clear HDC
 rintro e w3 ⟨hb3,⟨bs,v,rfl,hov,rfl⟩ | ⟨hno,rfl⟩⟩
 ·obtain ⟨va,vc,rfl⟩:=hov.form
  have hbb:=hov.byt
  rw [List.length_replicate] at *
  obtain ⟨b,off,rfl,hbl,hc⟩:=hbb.2 (by simp)
  have h9:w3.cell? ⟨b,off+9,none⟩=some (.int .u8 0):=hc 9 (by simp)
  have HB3:Hid (Below w.heap.size w w3):=HB2.out.trans (hb3.mono HB2.out.size)
  clear hc hbb hov hb3 HB2
  go_wp2
  go_ret
  exact ⟨rfl,HB3.out⟩
 ·exact absurd ⟨_,rfl⟩ hno
def DcEP (Y:Option (List Int)) (w:World) (e:Ending) (w':World):Prop:=Below w.heap.size w w' ∧
 ((∃ bs v,Y=some bs∧OVB w' w.heap.size v bs∧e=.returned (.tuple #[v,.bool true]))∨(Y=none∧e=.returned (.tuple #[.slice none 0 0,.bool false])))
def DecP (xs:List Int) (Y:Option (List Int)):Prop:=(∀ bs,Y=some bs→bs.length=64∧2≤xs.length∧xs.length≤65) ∧
 (∀ (a:Option Addr) (cap:Nat) (w:World),xs.length≤cap→Byt w a xs→SentB w→Calls Tryz.prog 28 #[.slice a xs.length cap] w (DcEP Y w))
theorem rbY_uniqueP {o:Option (Nat × Nat)} {m:Nat} {zs bs bs':List Int} (h:RbY o m zs bs) (h':RbY o m zs bs'):bs=bs':=by
 obtain ⟨-,h⟩:=h
 obtain ⟨-,h'⟩:=h'
 rcases h with ⟨e0,rfl⟩ | ⟨e0,-,rfl⟩ | ⟨e0,q,rfl,hy⟩
 ·rcases h' with ⟨-,rfl⟩ | ⟨e1,-⟩ | ⟨e1,-⟩
  ·rfl
  ·omega
  ·omega
 ·rcases h' with ⟨e1,-⟩ | ⟨-,-,rfl⟩ | ⟨e1,-⟩
  ·omega
  ·rfl
  ·omega
 ·rcases h' with ⟨e1,-⟩ | ⟨e1,-⟩ | ⟨-,q',hq,hy'⟩
  ·omega
  ·omega
  ·cases hq
   exact hy.unique hy'
theorem decP_of {m:Nat} {zs:List Int} {o:Option (Nat × Nat)} (h1:1≤zs.length) (h64:zs.length≤64) (hO:OpnP zs o):∃ Y,DecP ((m:Int) :: zs) Y∧(∀ bs,Y=some bs↔RbY o m zs bs):=by
 obtain ⟨Y,hY,hN,hYr⟩:∃ Y:Option (List Int),(∀ bs,RbY o m zs bs→Y=some bs)∧((¬∃ bs,RbY o m zs bs)→Y=none)∧(∀ bs,Y=some bs→RbY o m zs bs):=by
  by_cases h:∃ bs,RbY o m zs bs
  ·obtain ⟨bs,hbs⟩:=h
   exact ⟨some bs,fun b hb=>by rw [rbY_uniqueP hbs hb],fun hn=>absurd ⟨bs,hbs⟩ hn,fun b hb=>by cases hb;exact hbs⟩
  ·exact ⟨none,fun b hb=>absurd ⟨b,hb⟩ h,fun _=>rfl,fun b hb=>by cases hb⟩
 refine ⟨Y,⟨fun bs hbs=>⟨(hYr bs hbs).1,by simp only [List.length_cons];omega,by simp only [List.length_cons];omega⟩,?_⟩,fun bs=>⟨hYr bs,hY bs⟩⟩
 intro a cap w hc hb hS
 simp only [List.length_cons] at hc ⊢
 refine (decodeI_any a cap m zs o w hb h1 h64 hc hO hS).mono ?_
 rintro e w' ⟨hb',⟨bs,v,h1,h2,h3⟩ | ⟨h1,h3⟩⟩
 ·exact ⟨hb',.inl ⟨bs,v,hY bs h1,h2,h3⟩⟩
 ·exact ⟨hb',.inr ⟨hN h1,h3⟩⟩
theorem decP_no {xs:List Int} (h:xs.length<2∨65<xs.length):DecP xs none:=by
 refine ⟨fun bs h=>(by cases h),?_⟩
 intro a cap w hc hb hS
 refine (decodeI_no a cap xs.length w h hS).mono ?_
 rintro e w' ⟨hb',rfl⟩
 exact ⟨hb',.inr ⟨rfl,rfl⟩⟩
theorem decP (xs:List Int) (hl:xs.length≤1048576) (hr:∀ z ∈ xs,0≤z∧z≤255):∃ Y,DecP xs Y:=by
 by_cases h2:xs.length<2∨65<xs.length
 ·exact ⟨none,decP_no h2⟩
 ·cases xs with
  | nil=>simp at h2
  | cons x zs=>
   simp only [List.length_cons] at h2
   obtain ⟨m,rfl⟩:=Int.eq_ofNat_of_zero_le (hr x (by simp)).1
   obtain ⟨o,hO⟩:=opnP zs (by omega) (fun z hz=>hr z (by simp [hz]))
   obtain ⟨Y,h,-⟩:=decP_of (m:=m) (by omega) (by omega) hO
   exact ⟨Y,h⟩
def moP (xs:List Int) (Y:Option (List Int)):Int:=if Y.isSome then xs.getD 0 0 else -1
theorem moP_some (xs bs:List Int):moP xs (some bs)=xs.getD 0 0:=rfl
theorem implModeOfP_any (xs:List Int) (Y:Option (List Int)) (h:DecP xs Y) (a:Option Addr) (cap:Nat) (w:World) (hc:xs.length≤cap) (hb:Byt w a xs) (hS:SentB w) :
  Calls Tryz.prog 29 #[.slice a xs.length cap] w fun e w'=>e=.returned (.int .i64 (moP xs Y))∧Below w.heap.size w w':=by
 have HR:=h.2 a cap w hc hb hS
 have HL:Hid (∀ bs,Y=some bs→2≤xs.length):=fun bs hy=>(h.1 bs hy).2.1
 have HB:Hid (Byt w a xs):=hb
 clear hb h hS
 go_enter Tryz.func29,Tryz.ntmps29
 go_wp2_with fail
 refine HR.mono ?_
 clear HR
 rintro e w1 ⟨hb1,⟨bs,v,hy,hov,rfl⟩ | ⟨hy,rfl⟩⟩
 ·have h2:=HL.out bs hy
  obtain ⟨b,off,rfl,hbl,hcl⟩:=HB.out.len_pos 0 (by omega)
  have c0:=hcl 0 (by omega)
  have hr:=getD_rng HB.out.1 0
  rw [Nat.add_zero] at c0
  have c1:=keep hb1 hbl c0
  have HM:Hid (moP xs Y=xs.getD 0 0∧Below w.heap.size w w1):=⟨by rw [hy];rfl,hb1⟩
  generalize xs.getD 0 0=x at *
  have hwx:IntKind.i64.wrap x=x:=by rw [IntKind.wrap_i64];omega
  have hl0:(0:Int)<(xs.length:Int):=by omega
  obtain ⟨va,vc,rfl⟩:=hov.form
  clear hy hov hb1 hcl c0
  go_wp2
  go_ret
  exact ⟨by rw [HM.out.1];simp [hwx],HM.out.2⟩
 ·have HM:Hid (moP xs Y=-1∧Below w.heap.size w w1):=⟨by rw [hy];rfl,hb1⟩
  clear hy hb1
  go_wp2
  go_ret
  exact ⟨by rw [HM.out.1];rfl,HM.out.2⟩
def pkV (k:Nat) (ys:List Int):List Int:=if k=0 then 0 :: ys else if k=1 then [1,ys.getD 0 0] else (k:Int) :: sqB k ys
theorem pkO_V {ys:List Int} (hn:ys.length=64) {k:Nat} (hk:k≤3) (h1:k=1→alikeB ys=true):pkO (k:Int) ys=some (pkV k ys):=by
 unfold pkO pkV
 rw [if_neg (by simpa using hn)]
 match k,hk with
 | 0,_=>rfl
 | 1,_=>simp [h1 rfl]
 | 2,_=>rfl
 | 3,_=>rfl
theorem l5alike_any (a:Option Addr) (c:Nat) (ys:List Int) (w:World) (hb:Byt w a ys) (hn:ys.length=64) :
  Calls Tryz.prog 77 #[.slice a 64 c] w fun e w'=>e=.returned (.bool (alikeB ys))∧Below w.heap.size w w':=by
 obtain ⟨b,o,rfl,hbl,hc0⟩:=hb.2 (by omega)
 have HC:Hid (∀ i,i<64→w.cell? ⟨b,o+i,none⟩=some (.int .u8 (ys.getD i 0))):=fun i hi=>hc0 i (by omega)
 have HT:Hid ((∀ j,j<64→ys.getD j 0=ys.getD 0 0)→alikeB ys=true):=fun h=>by
  simp only [alikeB,decide_eq_true_eq]
  intro z hz
  obtain ⟨j,hj,rfl⟩:=List.getElem_of_mem hz
  have:=h j (by omega)
  rw [List.getD_eq_getElem?_getD,List.getElem?_eq_getElem hj] at this
  exact this
 have HF:Hid (∀ j,j<64→ys.getD j 0≠ys.getD 0 0→alikeB ys=false):=fun j hj h=>by
  simp only [alikeB,decide_eq_false_iff_not]
  exact fun h2=>h (h2 _ (getD_mem (by omega)))
 have c00:=HC.out 0 (by omega)
 rw [Nat.add_zero] at c00
 clear hc0 hb
 generalize hy0:ys.getD 0 0=y0 at *
 have HY0:Hid (ys.getD 0 0=y0∧True):=⟨hy0,trivial⟩
 clear hy0
 go_enter Tryz.func77,Tryz.ntmps77
 go_wp2
 go_loopw [3] (fun i wr=>∃ k m:Nat,1≤k∧k≤64∧i=.int .i64 k∧(∀ j,j<k→ys.getD j 0=y0)∧wr=w.drewN m) (fun i _=>64-(intOf i).toNat)
 case atStart=>exact ⟨1,0,Nat.le_refl _,by omega,rfl,fun j hj=>by rw [show j=0 by omega];exact HY0.out.1,rfl⟩
 case round=>
  obtain ⟨k,m,hk1,hk,rfl,hal,rfl⟩:=hrel
  have HA:Hid (∀ j,j<k→ys.getD j 0=y0):=hal
  have HBD:Hid (∀ q,Below w.heap.size w (w.drewN q)):=fun q=>⟨rfl,rfl,rfl,Nat.le_refl _,fun _ _=>rfl⟩
  clear hal
  by_cases hlt:k<64
  ·have hc:=HC.out k hlt
   obtain ⟨z,hz⟩:∃ z,ys.getD k 0=z:=⟨_,rfl⟩
   have HZ:Hid (ys.getD k 0=z∧True):=⟨hz,trivial⟩
   rw [hz] at hc
   clear hz
   by_cases he:z=y0
   ·subst he
    have hd:(z != z)=false:=by simp
    have HN:Hid (∀ j,j<k+1→ys.getD j 0=z):=fun j hj=>by
     rcases Nat.lt_or_ge j k with h | h
     ·exact HA.out j h
     ·rw [show j=k by omega];exact HZ.out.1
    go_wp2
    go_quiet (fail)
    go_wp2
    go_roundw
    case rel=>exact ⟨k+1,_,by omega,by omega,by go_num,HN.out,rfl⟩
    case measure=>simp [intOf];omega
   ·have hd:(z != y0)=true:=by simpa using he
    have HE:Hid (alikeB ys=false):=HF.out k hlt (by rw [HZ.out.1];exact he)
    go_wp2
    go_quiet (fail)
    go_wp2
    go_ret
    exact ⟨by rw [HE.out];rfl,⟨rfl,rfl,rfl,Nat.le_refl _,fun _ _=>rfl⟩⟩
  ·have hkn:k=64:=by omega
   subst hkn
   have HE:Hid (alikeB ys=true):=HT.out HA.out
   go_wp2
   go_ret
   exact ⟨by rw [HE.out];rfl,HBD.out _⟩
def pkS (w w':World) (bs:List Int) (e:Ending):Prop:=(∃ a' c',e=.returned (.slice a' bs.length c')∧Mine w' w.heap.size w'.heap.size a' c' bs)∧Below w.heap.size w w'
theorem mine_two (w:World) (z:Int) (hz:0≤z∧z≤255):Mine (w.alloc (.cells #[.int .u8 1,.int .u8 z] 5)) w.heap.size (w.alloc (.cells #[.int .u8 1,.int .u8 z] 5)).heap.size (some ⟨w.heap.size,0,none⟩) 2 [1,z]:=by
 have ho:OVB (w.alloc (.cells #[.int .u8 1,.int .u8 z] 5)) w.heap.size (.slice (some ⟨w.heap.size,0,none⟩) 2 2) [1,z]:=
  ⟨⟨rfl,.inr ⟨w.heap.size,2,#[.int .u8 1,.int .u8 z],rfl,Nat.le_refl _,heap_alloc_new w _,by simp,by unfold maxLen;omega,rfl,rfl⟩⟩,by intro y hy;simp at hy;rcases hy with rfl | rfl <;> omega⟩
 obtain ⟨a',c',e,hm⟩:=ho.mine
 obtain ⟨rfl,rfl⟩:some ⟨w.heap.size,0,none⟩=a'∧2=c':=by simpa using e
 exact hm
theorem l5packed_any (k:Nat) (a:Option Addr) (c:Nat) (ys:List Int) (w:World) (hb:Byt w a ys) (hn:ys.length=64) (hk:k≤3) :
  Calls Tryz.prog 78 #[.slice a 64 c,.int .i64 (k:Nat)] w fun e w'=>pkS w w' (pkV k ys) e:=by
 have HL:Hid (ys.length=64∧Byt w a ys):=⟨hn,hb⟩
 match k,hk with
 | 0,_=>
  have HOV:=ovb_one w w.heap.size 0 nl (by omega)
  have HWA:Hid (Below w.heap.size w (w.alloc (.cells #[.int .u8 0] 5))):=bAw
  have HBY:=HL.out.2.below HWA.out nl
  clear hb
  go_enter Tryz.func78,Tryz.ntmps78
  go_wp2_with (at_builtin;(refine wpList_append_byt rfl (.tmp 8) (.tmp 9) rfl w.heap.size _ [0] rfl HOV a c ys (by rw [HL.out.1];rfl) HBY (by rw [HL.out.1];decide) (by simp) ?_);intro v4 w4 hown hgrow)
  have hF:=grown_pk HWA.out nl hown hgrow
  obtain ⟨⟨a4,c4,rfl,hm4⟩,hb4⟩:=hF
  have HF:Hid (Mine w4 w.heap.size w4.heap.size a4 c4 (0 :: ys)∧Below w.heap.size w w4):=⟨hm4,hb4⟩
  clear hown hgrow hm4 hb4 HOV HBY
  go_wp2
  go_ret
  exact ⟨⟨a4,c4,rfl,HF.out.1⟩,HF.out.2⟩
 | 1,_=>
  obtain ⟨b,o,rfl,hbl,hc0⟩:=hb.2 (by omega)
  have c0:=hc0 0 (by omega)
  rw [Nat.add_zero] at c0
  have hz:=hb.1 _ (getD_mem (zs:=ys) (k:=0) (by omega))
  have HM:=mine_two w (ys.getD 0 0) hz
  have HF:Hid (Mine (w.alloc (.cells #[.int .u8 1,.int .u8 (ys.getD 0 0)] 5)) w.heap.size (w.alloc (.cells #[.int .u8 1,.int .u8 (ys.getD 0 0)] 5)).heap.size (some ⟨w.heap.size,0,none⟩) 2 [1,ys.getD 0 0]∧Below w.heap.size w (w.alloc (.cells #[.int .u8 1,.int .u8 (ys.getD 0 0)] 5))):=⟨HM,(Below.refl _ _).alloc nl _⟩
  clear HM hc0 hb
  have HP:Hid (pkV 1 ys=[1,ys.getD 0 0]∧True):=⟨rfl,trivial⟩
  generalize ys.getD 0 0=z at *
  rw [HP.out.1]
  go_enter Tryz.func78,Tryz.ntmps78
  go_wp2
  go_ret
  exact ⟨⟨_,_,rfl,HF.out.1⟩,HF.out.2⟩
 | 2,_=>
  have HQ:=l5squeeze_any 2 a c ys w hb hn (.inl rfl)
  clear hb
  go_enter Tryz.func78,Tryz.ntmps78
  go_wp2_with fail
  refine HQ.mono ?_
  clear HQ
  rintro e w1 ⟨⟨a1,c1,rfl,hm1⟩,hb1⟩
  have HF:Hid (Mine w1 w.heap.size w1.heap.size a1 c1 (((2:Nat):Int) :: sqB 2 ys)∧Below w.heap.size w w1):=⟨hm1,hb1⟩
  clear hm1 hb1
  go_wp2
  go_ret
  exact ⟨⟨a1,c1,rfl,HF.out.1⟩,HF.out.2⟩
 | 3,_=>
  have HQ:=l5squeeze_any 3 a c ys w hb hn (.inr rfl)
  clear hb
  go_enter Tryz.func78,Tryz.ntmps78
  go_wp2_with fail
  refine HQ.mono ?_
  clear HQ
  rintro e w1 ⟨⟨a1,c1,rfl,hm1⟩,hb1⟩
  have HF:Hid (Mine w1 w.heap.size w1.heap.size a1 c1 (((3:Nat):Int) :: sqB 3 ys)∧Below w.heap.size w w1):=⟨hm1,hb1⟩
  clear hm1 hb1
  go_wp2
  go_ret
  exact ⟨⟨a1,c1,rfl,HF.out.1⟩,HF.out.2⟩
end Go.Proofs.YtfeokafkhnbdiaaGreatDoor
