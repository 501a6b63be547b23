/-
  PackOk of the model.
-/
import Derived.Test.YthngimdjjmhboaaGreatDoorPkJ
import Derived.Test.YthngimdjjmhboaaGreatDoorCut
namespace Go.Proofs.YthngimdjjmhboaaGreatDoor
open Go.RowKit
set_option linter.unusedVariables false
set_option linter.unusedSimpArgs false

set_option maxHeartbeats 1000000 in
theorem l7item_any (f:List Int→Option (List Int)) (hf:DecF f) (n:Int) (a:Option Addr) (c:Nat) (ls:List Int) (w:World) (hb:Byt w a ls) (hc:ls.length≤c) (hl:ls.length≤1048576) :
  Calls Tryz.prog 115 #[.agg #[.int .i64 n,.slice a ls.length c]] w fun r w'=>((itOk f ⟨n,a,c,ls⟩∧r=.returned (.bool true))∨(¬itOk f ⟨n,a,c,ls⟩∧r=.returned (.bool false)))∧Below w.heap.size w w':=by
 have hw:Below w.heap.size w (w.alloc (Obj.cells #[Value.int IntKind.i64 n,Value.slice a ls.length c] 113)):=(Below.refl _ _).alloc (Nat.le_refl _) _
 have HD:=(hf ls hl hb.1).2.1 a c _ hc (hb.below hw (Nat.le_refl _))
 have HI:Hid (itOk f ⟨n,a,c,ls⟩↔(0≤n∧n<16)∧(ls=[]∨(f ls).isSome=true)):=Iff.rfl
 generalize itOk f ⟨n,a,c,ls⟩=I at *
 clear hb
 go_enter Tryz.func115,Tryz.ntmps115
 by_cases h0:n<0
 ·go_wp2
  go_ret
  exact ⟨.inr ⟨fun h=>by have:=HI.out.1 h;omega,rfl⟩,hw⟩
 ·by_cases h1:(16:Int)≤n
  ·go_wp2
   go_ret
   exact ⟨.inr ⟨fun h=>by have:=HI.out.1 h;omega,rfl⟩,hw⟩
  ·by_cases h2:ls.length=0
   ·have h2':(ls.length:Int)=0:=by omega
    have HN:Hid (I):=HI.out.2 ⟨by omega,.inl (List.eq_nil_of_length_eq_zero h2)⟩
    clear HD
    go_wp2
    go_ret
    exact ⟨.inl ⟨HN.out,rfl⟩,(Below.refl _ _).alloc (Nat.le_refl _) _⟩
   ·have h2':¬((ls.length:Int)=0):=by omega
    have HN:Hid (I↔(f ls).isSome=true):=by
     constructor
     ·intro h
      rcases (HI.out.1 h).2 with h | h
      ·exact absurd (by rw [h];rfl) h2
      ·exact h
     ·intro h
      exact HI.out.2 ⟨by omega,.inr h⟩
    go_wp2_with fail
    refine HD.mono ?_
    clear HD
    rintro e w1 ⟨hb1,⟨bs,v,hy,hov,rfl⟩ | ⟨hy,v,rfl⟩⟩
    ·obtain ⟨va,vc,rfl⟩:=hov.form
     have HB1:Hid (Below w.heap.size w w1∧I):=⟨hw.trans (hb1.mono (by simp)),HN.out.2 (by rw [hy];rfl)⟩
     clear hb1 hy hov hw
     go_wp2
     go_ret
     exact ⟨.inl ⟨HB1.out.2,rfl⟩,HB1.out.1⟩
    ·have HB1:Hid (Below w.heap.size w w1∧¬I):=⟨hw.trans (hb1.mono (by simp)),fun h=>by have:=HN.out.1 h;rw [hy] at this;cases this⟩
     clear hb1 hy hw
     go_wp2
     go_ret
     exact ⟨.inr ⟨HB1.out.2,rfl⟩,HB1.out.1⟩

set_option maxHeartbeats 1000000 in
theorem l7size_any (E O:Int) (a:Option Addr) (cap:Nat) (es:List El) (w:World) (hb:Els true w a es) (hn:es.length≤1048576) (hl:elets es≤1048576) :
  Calls Tryz.prog 116 #[.agg #[.int .i64 E,.int .i64 O,.slice a es.length cap]] w fun r w'=>r=.returned (.int .i64 (szP es:Nat))∧Below w.heap.size w w':=by
 have HSZ:Hid (szP es=6+2 * es.length+elets es∧elets (es.take es.length)=elets es):=⟨rfl,by rw [List.take_length]⟩
 have HLE:Hid (∀ k,elets (es.take k)≤elets es):=elets_take_le es
 have hw:Below w.heap.size w (w.alloc (Obj.cells #[Value.int IntKind.i64 E,Value.int IntKind.i64 O,Value.slice a es.length cap] 47)):=(Below.refl _ _).alloc (Nat.le_refl _) _
 have HB:Hid (Els true (w.alloc (Obj.cells #[Value.int IntKind.i64 E,Value.int IntKind.i64 O,Value.slice a es.length cap] 47)) a es):=hb.below hw (Nat.le_refl _)
 obtain ⟨r0,r1,r2,-,-,-,rl⟩:Box3 (w.alloc (Obj.cells #[Value.int IntKind.i64 E,Value.int IntKind.i64 O,Value.slice a es.length cap] 47)) w.heap.size _ _ _:=Box3.new w (.int .i64 E) (.int .i64 O) (.slice a es.length cap) 47
 clear hb r0 r1
 generalize szP es=Z at *
 go_enter Tryz.func116,Tryz.ntmps116
 go_wp2
 generalize w.alloc (Obj.cells #[Value.int IntKind.i64 E,Value.int IntKind.i64 O,Value.slice a es.length cap] 47)=W at *
 generalize hlen:es.length=n at *
 have HL:Hid (es.length=n∧True):=⟨hlen,trivial⟩
 clear hlen
 go_loop [3,4] (fun s i=>∃ (k z:Nat),k≤n∧i=.int .i64 k∧s=.int .i64 z∧z=6+2 * k+elets (es.take k)) (fun _ i=>n - (intOf i).toNat)
 case atStart=>exact ⟨0,6,Nat.zero_le _,rfl,rfl,by simp [elets]⟩
 case round=>
  obtain ⟨k,z,hk,rfl,rfl,hz⟩:=hrel
  have HZ:Hid (z=6+2 * k+elets (es.take k)∧True):=⟨hz,trivial⟩
  have hzb:z≤4000000:=by have:=HLE.out k;omega
  clear hz
  by_cases hlt:k<n
  ·obtain ⟨b,off,rfl,hb1,c0,c1,hby,hrg⟩:=HB.out.pen k (by rw [HL.out.1];exact hlt)
   have HT:Hid (elets (es.take (k+1))=elets (es.take k)+(es.getD k de).ls.length∧(es.getD k de).ls.length≤1048576):=⟨elets_take_succ es k (by rw [HL.out.1];exact hlt),by have:=elets_mem (getD_memE (es:=es) (k:=k) (by rw [HL.out.1];exact hlt));omega⟩
   generalize es.getD k de=s at *
   obtain ⟨sn,sa,sc,sl⟩:=s
   simp only at c0 c1 HT
   have hsl:sl.length≤1048576:=HT.out.2
   have HZ2:Hid (z+2+sl.length=6+2 * (k+1)+elets (es.take (k+1))∧True):=⟨by have h1:=HZ.out.1;have h2:=HT.out.1;omega,trivial⟩
   clear hby hrg
   go_wp2
   go_round
   case rel=>exact ⟨k+1,z+2+sl.length,by omega,by go_num,by go_num,HZ2.out.1⟩
   case measure=>simp [intOf];omega
  ·have hkn:k=n:=by omega
   subst hkn
   have HZ2:Hid (z=Z∧True):=⟨by have h1:=HZ.out.1;have h2:=HSZ.out;omega,trivial⟩
   go_wp2
   go_ret
   exact ⟨by rw [←HZ2.out.1];rfl,hw⟩

def FndP (es:List El) (x z:Int):Prop:=(∃ k:Nat,k<es.length∧z=k∧(es.getD k de).n=x∧∀ j,j<k→(es.getD j de).n≠x)∨(z=-1∧∀ j,j<es.length→(es.getD j de).n≠x)
theorem FndP.unique {es:List El} {x z z':Int} (h:FndP es x z) (h':FndP es x z'):z=z':=by
 rcases h with ⟨k,h1,h2,h3,h4⟩ | ⟨h2,h4⟩
 ·rcases h' with ⟨k',g1,g2,g3,g4⟩ | ⟨g2,g4⟩
  ·rcases Nat.lt_trichotomy k k' with hh | hh | hh
   ·exact absurd h3 (g4 k hh)
   ·omega
   ·exact absurd g3 (h4 k' hh)
  ·exact absurd h3 (g4 k h1)
 ·rcases h' with ⟨k',g1,g2,g3,g4⟩ | ⟨g2,g4⟩
  ·exact absurd g3 (h4 k' g1)
  ·omega

set_option maxHeartbeats 1000000 in
theorem l7find_any (E O x:Int) (a:Option Addr) (cap:Nat) (es:List El) (w:World) (hb:Els true w a es) (hn:es.length≤1048576) :
  Calls Tryz.prog 109 #[.agg #[.int .i64 E,.int .i64 O,.slice a es.length cap],.int .i64 x] w fun r w'=>(∃ z,r=.returned (.int .i64 z)∧FndP es x z)∧Below w.heap.size w w':=by
 have hw:Below w.heap.size w (w.alloc (Obj.cells #[Value.int IntKind.i64 E,Value.int IntKind.i64 O,Value.slice a es.length cap] 47)):=(Below.refl _ _).alloc (Nat.le_refl _) _
 have HB:Hid (Els true (w.alloc (Obj.cells #[Value.int IntKind.i64 E,Value.int IntKind.i64 O,Value.slice a es.length cap] 47)) a es):=hb.below hw (Nat.le_refl _)
 obtain ⟨r0,r1,r2,-,-,-,rl⟩:Box3 (w.alloc (Obj.cells #[Value.int IntKind.i64 E,Value.int IntKind.i64 O,Value.slice a es.length cap] 47)) w.heap.size _ _ _:=Box3.new w (.int .i64 E) (.int .i64 O) (.slice a es.length cap) 47
 have HY:Hid (∀ k:Nat,k<es.length→(es.getD k de).n=x→(∀ j,j<k→(es.getD j de).n≠x)→FndP es x k):=fun k h1 h2 h3=>.inl ⟨k,h1,rfl,h2,h3⟩
 have HN:Hid ((∀ j,j<es.length→(es.getD j de).n≠x)→FndP es x (-1)):=fun h=>.inr ⟨rfl,h⟩
 clear hb r0 r1
 go_enter Tryz.func109,Tryz.ntmps109
 go_wp2
 generalize w.alloc (Obj.cells #[Value.int IntKind.i64 E,Value.int IntKind.i64 O,Value.slice a es.length cap] 47)=W at *
 generalize hlen:es.length=n at *
 have HL:Hid (es.length=n∧True):=⟨hlen,trivial⟩
 clear hlen
 go_loop [5] (fun i=>∃ k:Nat,k≤n∧i=.int .i64 k∧∀ j,j<k→(es.getD j de).n≠x) (fun i=>n - (intOf i).toNat)
 case atStart=>exact ⟨0,Nat.zero_le _,rfl,fun j hj=>by omega⟩
 case round=>
  obtain ⟨k,hk,rfl,hal⟩:=hrel
  have HAL:Hid (∀ j,j<k→(es.getD j de).n≠x):=hal
  clear hal
  by_cases hlt:k<n
  ·obtain ⟨b,off,rfl,hb1,c0,c1,hby,hrg⟩:=HB.out.pen k (by rw [HL.out.1];exact hlt)
   have HS:Hid (∃ s,es.getD k de=s∧True):=⟨_,rfl,trivial⟩
   generalize hs:es.getD k de=s at *
   obtain ⟨sn,sa,sc,sl⟩:=s
   simp only at c0 c1
   have HSN:Hid ((es.getD k de).n=sn∧True):=⟨by rw [hs],trivial⟩
   clear hby hrg hs HS
   by_cases hx:sn=x
   ·have hx2:(sn == x)=true:=by simpa using hx
    have HF:Hid (FndP es x k):=HY.out k hlt (by rw [HSN.out.1];exact hx) HAL.out
    clear hx
    go_wp2
    go_ret
    exact ⟨⟨_,rfl,HF.out⟩,hw⟩
   ·have hx2:(sn == x)=false:=by simpa using hx
    have HF:Hid (∀ j,j<k+1→(es.getD j de).n≠x):=by
     intro j hj
     by_cases e:j=k
     ·rw [e,HSN.out.1];exact hx
     ·exact HAL.out j (by omega)
    clear hx
    go_wp2
    go_round
    case rel=>exact ⟨k+1,by omega,by go_num,HF.out⟩
    case measure=>simp [intOf];omega
  ·have hkn:k=n:=by omega
   subst hkn
   have HF:Hid (FndP es x (-1)):=HN.out HAL.out
   go_wp2
   go_ret
   exact ⟨⟨_,rfl,HF.out⟩,hw⟩

set_option maxRecDepth 20000 in
set_option maxHeartbeats 4000000 in
theorem specPackOk_any (f:List Int→Option (List Int)) (hf:DecF f) (E O:Int) (a:Option Addr) (cap:Nat) (es:List El) (w:World) (hb:ItI w a es) (hx:FewJ es) :
  Calls Tryz.prog 80 #[.agg #[.int .i64 E,.int .i64 O,.slice a es.length cap]] w fun r w'=>((PkR f E O es∧r=.returned (.bool true))∨(¬PkR f E O es∧r=.returned (.bool false)))∧Below w.heap.size w w':=by
 have hw:Below w.heap.size w (w.alloc (Obj.cells #[Value.int IntKind.i64 E,Value.int IntKind.i64 O,Value.slice a es.length cap] 47)):=(Below.refl _ _).alloc (Nat.le_refl _) _
 have HP:Hid (PkR f E O es↔(0≤E∧E≤60000)∧(0≤O∧O≤60000)∧es.length≤16∧apT f es es.length∧szP es≤256):=
  ⟨fun h=>⟨⟨h.e0,h.e1⟩,⟨h.o0,h.o1⟩,h.n,h.ap,h.sz⟩,fun h=>⟨h.1.1,h.1.2,h.2.1.1,h.2.1.2,h.2.2.1,h.2.2.2.1,h.2.2.2.2⟩⟩
 generalize PkR f E O es=PK at *
 by_cases hE0:E<0
 ·have HR:Hid (¬PK):=fun h=>by have:=(HP.out.1 h).1;omega
  go_enter Tryz.func80,Tryz.ntmps80
  go_wp2
  go_ret
  exact ⟨.inr ⟨HR.out,rfl⟩,hw⟩
 by_cases hE1:60000<E
 ·have HR:Hid (¬PK):=fun h=>by have:=(HP.out.1 h).1;omega
  go_enter Tryz.func80,Tryz.ntmps80
  go_wp2
  go_ret
  exact ⟨.inr ⟨HR.out,rfl⟩,hw⟩
 by_cases hO0:O<0
 ·have HR:Hid (¬PK):=fun h=>by have:=(HP.out.1 h).2.1;omega
  go_enter Tryz.func80,Tryz.ntmps80
  go_wp2
  go_ret
  exact ⟨.inr ⟨HR.out,rfl⟩,hw⟩
 by_cases hO1:60000<O
 ·have HR:Hid (¬PK):=fun h=>by have:=(HP.out.1 h).2.1;omega
  go_enter Tryz.func80,Tryz.ntmps80
  go_wp2
  go_ret
  exact ⟨.inr ⟨HR.out,rfl⟩,hw⟩
 by_cases h16:16<es.length
 ·have h16':(16:Int)<(es.length:Int):=by omega
  have HR:Hid (¬PK):=fun h=>by have:=(HP.out.1 h).2.2.1;omega
  go_enter Tryz.func80,Tryz.ntmps80
  go_wp2
  go_ret
  exact ⟨.inr ⟨HR.out,rfl⟩,hw⟩
 have h16':¬((16:Int)<(es.length:Int)):=by omega
 have hszb:szP es≤4000000:=by have:=hx.n;have:=hx.s;unfold szP;omega
 have HB:Hid (ItI w a es∧FewJ es∧DecF f):=⟨hb,hx,hf⟩
 have HX:Hid (Box3 (w.alloc (Obj.cells #[Value.int IntKind.i64 E,Value.int IntKind.i64 O,Value.slice a es.length cap] 47)) w.heap.size _ _ _):=Box3.new w (.int .i64 E) (.int .i64 O) (.slice a es.length cap) 47
 have HPY:Hid (apT f es es.length→szP es≤256→PK):=fun h1 h2=>HP.out.2 ⟨by omega,by omega,by omega,h1,h2⟩
 have HPN:Hid (PK→apT f es es.length∧szP es≤256):=fun h=>(HP.out.1 h).2.2.2
 have hn2:=hx.n
 clear hb hx hf HP
 go_enter Tryz.func80,Tryz.ntmps80
 go_wp2
 generalize hW0:w.alloc (Obj.cells #[Value.int IntKind.i64 E,Value.int IntKind.i64 O,Value.slice a es.length cap] 47)=W0 at *
 clear hW0
 generalize hlen:es.length=n at *
 have HL:Hid (es.length=n∧True):=⟨hlen,trivial⟩
 clear hlen
 have HZB:Hid (szP es≤4000000):=hszb
 clear hszb
 go_loopw [3] (fun i wr=>∃ k:Nat,k≤n∧i=.int .i64 k∧apT f es k∧Box3 wr w.heap.size (.int .i64 E) (.int .i64 O) (.slice a n cap)∧Below w.heap.size w wr) (fun i _=>n - (intOf i).toNat)
 case atStart=>exact ⟨0,Nat.zero_le _,rfl,apT_zero f es,HX.out,hw⟩
 case round=>
  clear HX hw
  obtain ⟨k,hk,rfl,hap,hbx,hbel⟩:=hrel
  have HAP:Hid (apT f es k∧Box3 wr w.heap.size (.int .i64 E) (.int .i64 O) (.slice a n cap)):=⟨hap,hbx⟩
  obtain ⟨r0,r1,r2,-,-,-,rl⟩:=hbx
  clear hap
  by_cases hlt:k<n
  ·obtain ⟨b,off,rfl,hb1,c0,c1,hby,hrg⟩:=(HB.out.1.els.below hbel (Nat.le_refl _)).pen k (by rw [HL.out.1];exact hlt)
   have hmem:=getD_memE (es:=es) (k:=k) (by rw [HL.out.1];exact hlt)
   have hcp:=HB.out.1.cap _ hmem
   have hll:=HB.out.2.1.l _ hmem
   generalize hs:es.getD k de=s at *
   obtain ⟨sn,sa,sc,sl⟩:=s
   simp only at c0 c1 hcp hll hby
   have HS:Hid (es.getD k de=⟨sn,sa,sc,sl⟩∧True):=⟨hs,trivial⟩
   have HFI:Hid (∀ W,Below w.heap.size w W→Calls Tryz.prog 109 #[.agg #[.int .i64 E,.int .i64 O,.slice (some ⟨b,off,none⟩) n cap],.int .i64 sn] W fun r w'=>(∃ z,r=.returned (.int .i64 z)∧FndP es sn z)∧Below W.heap.size W w'):=fun W hW=>by
    have:=l7find_any E O sn (some ⟨b,off,none⟩) cap es W (HB.out.1.els.below hW (Nat.le_refl _)) (by rw [HL.out.1];exact hn2)
    rw [HL.out.1] at this
    exact this
   have HITA:Hid (∀ W,Below w.heap.size w W→Calls Tryz.prog 115 #[.agg #[.int .i64 sn,.slice sa sl.length sc]] W fun r w'=>((itOk f ⟨sn,sa,sc,sl⟩∧r=.returned (.bool true))∨(¬itOk f ⟨sn,sa,sc,sl⟩∧r=.returned (.bool false)))∧Below W.heap.size W w'):=fun W hW=>by
    have h9:=(HB.out.1.els.below hW (Nat.le_refl _)).at k (by rw [HL.out.1];exact hlt)
    rw [hs] at h9
    exact l7item_any f HB.out.2.2 sn sa sc sl W h9.2 hcp hll
   have HCL:Hid (∀ W,Below wr.heap.size wr W→W.cell? ⟨w.heap.size,0,none⟩=some (.int .i64 E)∧W.cell? ⟨w.heap.size,1,none⟩=some (.int .i64 O)∧W.cell? ⟨w.heap.size,2,none⟩=some (.slice (some ⟨b,off,none⟩) n cap)∧W.cell? ⟨b,off+k * 2,none⟩=some (.int .i64 sn)∧W.cell? ⟨b,off+k * 2+1,none⟩=some (.slice sa sl.length sc)):=fun W h=>⟨keep h rl r0,keep h rl r1,keep h rl r2,keep h hb1 c0,keep h hb1 c1⟩
   have hbD:Below w.heap.size w wr.drew:=hbel.drew
   clear hmem hcp hll hby hrg hs r0 r1 c0 c1
   by_cases hok:itOk f ⟨sn,sa,sc,sl⟩
   ·have HIT:Hid (∀ W,Below w.heap.size w W→Calls Tryz.prog 115 #[.agg #[.int .i64 sn,.slice sa sl.length sc]] W fun r w'=>r=.returned (.bool true)∧Below W.heap.size W w'):=fun W hW=>(HITA.out W hW).mono fun r w' h=>by
     obtain ⟨⟨_,h1⟩ | ⟨h0,_⟩,h2⟩:=h
     ·exact ⟨h1,h2⟩
     ·exact absurd hok h0
    have HOK:Hid (itOk f ⟨sn,sa,sc,sl⟩):=hok
    clear HITA hok
    go_wp2_with fail
    refine wp_region_cut (S:=fun W=>W.cell? ⟨w.heap.size,0,none⟩=some (.int .i64 E)∧W.cell? ⟨w.heap.size,1,none⟩=some (.int .i64 O)∧W.cell? ⟨w.heap.size,2,none⟩=some (.slice (some ⟨b,off,none⟩) n cap)∧W.cell? ⟨b,off+k * 2,none⟩=some (.int .i64 sn)∧W.cell? ⟨b,off+k * 2+1,none⟩=some (.slice sa sl.length sc)) 19 (by kernel_rfl) (by kernel_rfl) (HCL.out _ (Below.refl _ _).drew) (fun hHeld=>?_)
    refine wpAnyH_take (i:=0) (v:=?_) rfl (by kernel_rfl) (by kernel_rfl) (by kernel_rfl) (fun _ _ _ h=>h) (Or.inl ⟨by rfl,?_⟩) (by assumption) ?_
    rotate_left 1
    ·(intro w hSw;(try dsimp only at hSw);go_simp;try (with_reducible rfl))
    try simp only [List.getElem_toArray,List.getElem_cons_zero,List.getElem_cons_succ,Act.put,List.setIfInBounds_toArray,List.set_cons_zero,List.set_cons_succ]
    refine wpAnyH_take (i:=1) (v:=?_) rfl (by kernel_rfl) (by kernel_rfl) (by kernel_rfl) (fun _ _ _ h=>h) (Or.inl ⟨by rfl,?_⟩) (by assumption) ?_
    rotate_left 1
    ·(intro w hSw;(try dsimp only at hSw);go_simp;try (with_reducible rfl))
    try simp only [List.getElem_toArray,List.getElem_cons_zero,List.getElem_cons_succ,Act.put,List.setIfInBounds_toArray,List.set_cons_zero,List.set_cons_succ]
    refine wpAnyH_take (i:=2) (v:=?_) rfl (by kernel_rfl) (by kernel_rfl) (by kernel_rfl) (fun _ _ _ h=>h) (Or.inl ⟨by rfl,?_⟩) (by assumption) ?_
    rotate_left 1
    ·(intro w hSw;(try dsimp only at hSw);go_simp;try (with_reducible rfl))
    try simp only [List.getElem_toArray,List.getElem_cons_zero,List.getElem_cons_succ,Act.put,List.setIfInBounds_toArray,List.set_cons_zero,List.set_cons_succ]
    refine wpAnyH_take (i:=3) (v:=?_) rfl (by kernel_rfl) (by kernel_rfl) (by kernel_rfl) (fun _ _ _ h=>h) (Or.inl ⟨by rfl,?_⟩) (by assumption) ?_
    rotate_left 1
    ·(intro w hSw;(try dsimp only at hSw);go_simp;try (with_reducible rfl))
    try simp only [List.getElem_toArray,List.getElem_cons_zero,List.getElem_cons_succ,Act.put,List.setIfInBounds_toArray,List.set_cons_zero,List.set_cons_succ]
    refine wpAnyH_take (i:=4) (v:=?_) rfl (by kernel_rfl) (by kernel_rfl) (by kernel_rfl) (fun _ _ _ h=>h) (Or.inl ⟨by rfl,?_⟩) (by assumption) ?_
    rotate_left 1
    ·(intro w hSw;(try dsimp only at hSw);go_simp;try (with_reducible rfl))
    try simp only [List.getElem_toArray,List.getElem_cons_zero,List.getElem_cons_succ,Act.put,List.setIfInBounds_toArray,List.set_cons_zero,List.set_cons_succ]
    refine wpAnyH_ready (rs:=[5]) (by kernel_rfl) (by simp) ?_
    refine AllReadyH.cons rfl (fun K hK=>?_) AllReadyH.nil
    go_simp
    refine (HIT.out _ hbD).mono ?_
    rintro e w2 ⟨rfl,hb2'⟩
    have hb2:Below wr.heap.size wr w2:=Below.drewS hb2'
    have HB2:Hid (Below w.heap.size w w2∧Below wr.heap.size wr w2):=⟨hbel.trans (hb2.mono hbel.size),hb2⟩
    clear hb2 hb2'
    dsimp only
    refine hK.out _ _ (HCL.out _ HB2.out.2) (fun hHeld=>?_)
    clear hK K
    try simp only [List.getElem_toArray,List.getElem_cons_zero,List.getElem_cons_succ,Act.put,List.setIfInBounds_toArray,List.set_cons_zero,List.set_cons_succ]
    refine wpAnyH_take (i:=6) (v:=?_) rfl (by kernel_rfl) (by kernel_rfl) (by kernel_rfl) (fun _ _ _ h=>h) (Or.inl ⟨by rfl,?_⟩) (by assumption) ?_
    rotate_left 1
    ·(intro w hSw;(try dsimp only at hSw);go_simp;try (with_reducible rfl))
    try simp only [List.getElem_toArray,List.getElem_cons_zero,List.getElem_cons_succ,Act.put,List.setIfInBounds_toArray,List.set_cons_zero,List.set_cons_succ]
    refine wpAnyH_take (i:=7) (v:=?_) rfl (by kernel_rfl) (by kernel_rfl) (by kernel_rfl) (fun _ _ _ h=>h) (Or.inl ⟨by rfl,?_⟩) (by assumption) ?_
    rotate_left 1
    ·(intro w hSw;(try dsimp only at hSw);go_simp;try (with_reducible rfl))
    try simp only [List.getElem_toArray,List.getElem_cons_zero,List.getElem_cons_succ,Act.put,List.setIfInBounds_toArray,List.set_cons_zero,List.set_cons_succ]
    refine wpAnyH_take (i:=8) (v:=?_) rfl (by kernel_rfl) (by kernel_rfl) (by kernel_rfl) (fun _ _ _ h=>h) (Or.inl ⟨by rfl,?_⟩) (by assumption) ?_
    rotate_left 1
    ·(intro w hSw;(try dsimp only at hSw);go_simp;try (with_reducible rfl))
    try simp only [List.getElem_toArray,List.getElem_cons_zero,List.getElem_cons_succ,Act.put,List.setIfInBounds_toArray,List.set_cons_zero,List.set_cons_succ]
    refine wpAnyH_take (i:=9) (v:=?_) rfl (by kernel_rfl) (by kernel_rfl) (by kernel_rfl) (fun _ _ _ h=>h) (Or.inl ⟨by rfl,?_⟩) (by assumption) ?_
    rotate_left 1
    ·(intro w hSw;(try dsimp only at hSw);go_simp;try (with_reducible rfl))
    try simp only [List.getElem_toArray,List.getElem_cons_zero,List.getElem_cons_succ,Act.put,List.setIfInBounds_toArray,List.set_cons_zero,List.set_cons_succ]
    refine wpAnyH_take (i:=10) (v:=?_) rfl (by kernel_rfl) (by kernel_rfl) (by kernel_rfl) (fun _ _ _ h=>h) (Or.inl ⟨by rfl,?_⟩) (by assumption) ?_
    rotate_left 1
    ·(intro w hSw;(try dsimp only at hSw);go_simp;try (with_reducible rfl))
    try simp only [List.getElem_toArray,List.getElem_cons_zero,List.getElem_cons_succ,Act.put,List.setIfInBounds_toArray,List.set_cons_zero,List.set_cons_succ]
    refine wpAnyH_take (i:=11) (v:=?_) rfl (by kernel_rfl) (by kernel_rfl) (by kernel_rfl) (fun _ _ _ h=>h) (Or.inl ⟨by rfl,?_⟩) (by assumption) ?_
    rotate_left 1
    ·(intro w hSw;(try dsimp only at hSw);go_simp;try (with_reducible rfl))
    try simp only [List.getElem_toArray,List.getElem_cons_zero,List.getElem_cons_succ,Act.put,List.setIfInBounds_toArray,List.set_cons_zero,List.set_cons_succ]
    refine wpAnyH_take (i:=12) (v:=?_) rfl (by kernel_rfl) (by kernel_rfl) (by kernel_rfl) (fun _ _ _ h=>h) (Or.inl ⟨by rfl,?_⟩) (by assumption) ?_
    rotate_left 1
    ·(intro w hSw;(try dsimp only at hSw);go_simp;try (with_reducible rfl))
    try simp only [List.getElem_toArray,List.getElem_cons_zero,List.getElem_cons_succ,Act.put,List.setIfInBounds_toArray,List.set_cons_zero,List.set_cons_succ]
    refine wpAnyH_take (i:=13) (v:=?_) rfl (by kernel_rfl) (by kernel_rfl) (by kernel_rfl) (fun _ _ _ h=>h) (Or.inl ⟨by rfl,?_⟩) (by assumption) ?_
    rotate_left 1
    ·(intro w hSw;(try dsimp only at hSw);go_simp;try (with_reducible rfl))
    try simp only [List.getElem_toArray,List.getElem_cons_zero,List.getElem_cons_succ,Act.put,List.setIfInBounds_toArray,List.set_cons_zero,List.set_cons_succ]
    refine wpAnyH_take (i:=14) (v:=?_) rfl (by kernel_rfl) (by kernel_rfl) (by kernel_rfl) (fun _ _ _ h=>h) (Or.inl ⟨by rfl,?_⟩) (by assumption) ?_
    rotate_left 1
    ·(intro w hSw;(try dsimp only at hSw);go_simp;try (with_reducible rfl))
    try simp only [List.getElem_toArray,List.getElem_cons_zero,List.getElem_cons_succ,Act.put,List.setIfInBounds_toArray,List.set_cons_zero,List.set_cons_succ]
    refine wpAnyH_take (i:=16) (v:=?_) rfl (by kernel_rfl) (by kernel_rfl) (by kernel_rfl) (fun _ _ _ h=>h) (Or.inl ⟨by rfl,?_⟩) (by assumption) ?_
    rotate_left 1
    ·(intro w hSw;(try dsimp only at hSw);go_simp;try (with_reducible rfl))
    try simp only [List.getElem_toArray,List.getElem_cons_zero,List.getElem_cons_succ,Act.put,List.setIfInBounds_toArray,List.set_cons_zero,List.set_cons_succ]
    refine wpAnyH_ready (rs:=[15]) (by kernel_rfl) (by simp) ?_
    refine AllReadyH.cons rfl (fun K hK=>?_) AllReadyH.nil
    go_simp
    refine (HFI.out _ HB2.out.1).mono ?_
    rintro e w3 ⟨⟨z,rfl,hz⟩,hb3⟩
    have HB3:Hid (Below w.heap.size w w3∧Below wr.heap.size wr w3∧FndP es sn z):=⟨HB2.out.1.trans (hb3.mono HB2.out.1.size),HB2.out.2.trans (hb3.mono HB2.out.2.size),hz⟩
    clear hb3 hz
    dsimp only
    refine hK.out _ _ (HCL.out _ HB3.out.2.1) (fun hHeld=>?_)
    clear hK K
    try simp only [List.getElem_toArray,List.getElem_cons_zero,List.getElem_cons_succ,Act.put,List.setIfInBounds_toArray,List.set_cons_zero,List.set_cons_succ]
    refine wpAnyH_take (i:=17) (v:=?_) rfl (by kernel_rfl) (by kernel_rfl) (by kernel_rfl) (fun _ _ _ h=>h) (Or.inl ⟨by rfl,?_⟩) (by assumption) ?_
    rotate_left 1
    ·(intro w hSw;(try dsimp only at hSw);go_simp;try (with_reducible rfl))
    try simp only [List.getElem_toArray,List.getElem_cons_zero,List.getElem_cons_succ,Act.put,List.setIfInBounds_toArray,List.set_cons_zero,List.set_cons_succ]
    refine wpAnyH_take (i:=18) (v:=?_) rfl (by kernel_rfl) (by kernel_rfl) (by kernel_rfl) (fun _ _ _ h=>h) (Or.inl ⟨by rfl,?_⟩) (by assumption) ?_
    rotate_left 1
    ·(intro w hSw;(try dsimp only at hSw);go_simp;try (with_reducible rfl))
    try simp only [List.getElem_toArray,List.getElem_cons_zero,List.getElem_cons_succ,Act.put,List.setIfInBounds_toArray,List.set_cons_zero,List.set_cons_succ]
    refine wpAnyH_done (by kernel_rfl) ?_ _
    simp only [cutQ,List.drop_succ_cons,List.drop_zero]
    by_cases hzk:z=(k:Int)
    ·have hz2:(z != (k:Int))=false:=by simpa using hzk
     have HN:Hid (apT f es (k+1)∧Box3 w3 w.heap.size (.int .i64 E) (.int .i64 O) (.slice (some ⟨b,off,none⟩) n cap)):=by
      refine ⟨apT_succ HAP.out.1 (by rw [HS.out.1];exact HOK.out) ?_,HAP.out.2.step HB3.out.2.1⟩
      rw [HS.out.1]
      rcases HB3.out.2.2 with ⟨k',h1,h2,h3,h4⟩ | ⟨h2,_⟩
      ·obtain rfl:k'=k:=by omega
       exact h4
      ·omega
     clear hzk
     go_wp2
     go_roundw
     case rel=>exact ⟨k+1,by omega,by go_num,HN.out.1,HN.out.2,HB3.out.1⟩
     case measure=>simp [intOf];omega
    ·have hz2:(z != (k:Int))=true:=by simpa using hzk
     have HN:Hid (¬PK):=by
      intro h
      have h9:=(HPN.out h).1 k hlt
      rw [HS.out.1] at h9
      apply hzk
      rcases HB3.out.2.2 with ⟨k',h1,h2,h3,h4⟩ | ⟨h2,h4⟩
      ·rcases Nat.lt_trichotomy k' k with hh | hh | hh
       ·exact absurd h3 (h9.2 k' hh)
       ·omega
       ·exact absurd (by rw [HS.out.1]) (h4 k hh)
      ·exact absurd (by rw [HS.out.1]) (h4 k (by rw [HL.out.1];exact hlt))
     clear hzk
     go_wp2
     go_ret
     exact ⟨.inr ⟨HN.out,rfl⟩,HB3.out.1⟩
   ·have HIT:Hid (∀ W,Below w.heap.size w W→Calls Tryz.prog 115 #[.agg #[.int .i64 sn,.slice sa sl.length sc]] W fun r w'=>r=.returned (.bool false)∧Below W.heap.size W w'):=fun W hW=>(HITA.out W hW).mono fun r w' h=>by
     obtain ⟨⟨h0,_⟩ | ⟨_,h1⟩,h2⟩:=h
     ·exact absurd h0 hok
     ·exact ⟨h1,h2⟩
    have HN:Hid (¬PK):=by
     intro h
     have h9:=((HPN.out h).1 k hlt).1
     rw [HS.out.1] at h9
     exact hok h9
    clear HITA hok
    go_wp2_with fail
    refine wp_region_cut (S:=fun W=>W.cell? ⟨w.heap.size,0,none⟩=some (.int .i64 E)∧W.cell? ⟨w.heap.size,1,none⟩=some (.int .i64 O)∧W.cell? ⟨w.heap.size,2,none⟩=some (.slice (some ⟨b,off,none⟩) n cap)∧W.cell? ⟨b,off+k * 2,none⟩=some (.int .i64 sn)∧W.cell? ⟨b,off+k * 2+1,none⟩=some (.slice sa sl.length sc)) 19 (by kernel_rfl) (by kernel_rfl) (HCL.out _ (Below.refl _ _).drew) (fun hHeld=>?_)
    refine wpAnyH_take (i:=0) (v:=?_) rfl (by kernel_rfl) (by kernel_rfl) (by kernel_rfl) (fun _ _ _ h=>h) (Or.inl ⟨by rfl,?_⟩) (by assumption) ?_
    rotate_left 1
    ·(intro w hSw;(try dsimp only at hSw);go_simp;try (with_reducible rfl))
    try simp only [List.getElem_toArray,List.getElem_cons_zero,List.getElem_cons_succ,Act.put,List.setIfInBounds_toArray,List.set_cons_zero,List.set_cons_succ]
    refine wpAnyH_take (i:=1) (v:=?_) rfl (by kernel_rfl) (by kernel_rfl) (by kernel_rfl) (fun _ _ _ h=>h) (Or.inl ⟨by rfl,?_⟩) (by assumption) ?_
    rotate_left 1
    ·(intro w hSw;(try dsimp only at hSw);go_simp;try (with_reducible rfl))
    try simp only [List.getElem_toArray,List.getElem_cons_zero,List.getElem_cons_succ,Act.put,List.setIfInBounds_toArray,List.set_cons_zero,List.set_cons_succ]
    refine wpAnyH_take (i:=2) (v:=?_) rfl (by kernel_rfl) (by kernel_rfl) (by kernel_rfl) (fun _ _ _ h=>h) (Or.inl ⟨by rfl,?_⟩) (by assumption) ?_
    rotate_left 1
    ·(intro w hSw;(try dsimp only at hSw);go_simp;try (with_reducible rfl))
    try simp only [List.getElem_toArray,List.getElem_cons_zero,List.getElem_cons_succ,Act.put,List.setIfInBounds_toArray,List.set_cons_zero,List.set_cons_succ]
    refine wpAnyH_take (i:=3) (v:=?_) rfl (by kernel_rfl) (by kernel_rfl) (by kernel_rfl) (fun _ _ _ h=>h) (Or.inl ⟨by rfl,?_⟩) (by assumption) ?_
    rotate_left 1
    ·(intro w hSw;(try dsimp only at hSw);go_simp;try (with_reducible rfl))
    try simp only [List.getElem_toArray,List.getElem_cons_zero,List.getElem_cons_succ,Act.put,List.setIfInBounds_toArray,List.set_cons_zero,List.set_cons_succ]
    refine wpAnyH_take (i:=4) (v:=?_) rfl (by kernel_rfl) (by kernel_rfl) (by kernel_rfl) (fun _ _ _ h=>h) (Or.inl ⟨by rfl,?_⟩) (by assumption) ?_
    rotate_left 1
    ·(intro w hSw;(try dsimp only at hSw);go_simp;try (with_reducible rfl))
    try simp only [List.getElem_toArray,List.getElem_cons_zero,List.getElem_cons_succ,Act.put,List.setIfInBounds_toArray,List.set_cons_zero,List.set_cons_succ]
    refine wpAnyH_ready (rs:=[5]) (by kernel_rfl) (by simp) ?_
    refine AllReadyH.cons rfl (fun K hK=>?_) AllReadyH.nil
    go_simp
    refine (HIT.out _ hbD).mono ?_
    rintro e w2 ⟨rfl,hb2'⟩
    have hb2:Below wr.heap.size wr w2:=Below.drewS hb2'
    have HB2:Hid (Below w.heap.size w w2∧Below wr.heap.size wr w2):=⟨hbel.trans (hb2.mono hbel.size),hb2⟩
    clear hb2 hb2'
    dsimp only
    refine hK.out _ _ (HCL.out _ HB2.out.2) (fun hHeld=>?_)
    clear hK K
    try simp only [List.getElem_toArray,List.getElem_cons_zero,List.getElem_cons_succ,Act.put,List.setIfInBounds_toArray,List.set_cons_zero,List.set_cons_succ]
    refine wpAnyH_take (i:=6) (v:=?_) rfl (by kernel_rfl) (by kernel_rfl) (by kernel_rfl) (fun _ _ _ h=>h) (Or.inl ⟨by rfl,?_⟩) (by assumption) ?_
    rotate_left 1
    ·(intro w hSw;(try dsimp only at hSw);go_simp;try (with_reducible rfl))
    try simp only [List.getElem_toArray,List.getElem_cons_zero,List.getElem_cons_succ,Act.put,List.setIfInBounds_toArray,List.set_cons_zero,List.set_cons_succ]
    refine wpAnyH_take (i:=7) (v:=?_) rfl (by kernel_rfl) (by kernel_rfl) (by kernel_rfl) (fun _ _ _ h=>h) (Or.inl ⟨by rfl,?_⟩) (by assumption) ?_
    rotate_left 1
    ·(intro w hSw;(try dsimp only at hSw);go_simp;try (with_reducible rfl))
    try simp only [List.getElem_toArray,List.getElem_cons_zero,List.getElem_cons_succ,Act.put,List.setIfInBounds_toArray,List.set_cons_zero,List.set_cons_succ]
    refine wpAnyH_take (i:=8) (v:=undef) rfl (by kernel_rfl) (by kernel_rfl) (by kernel_rfl) (fun _ _ _ h=>h) (Or.inr ⟨by rfl,rfl⟩) (by assumption) ?_
    try simp only [List.getElem_toArray,List.getElem_cons_zero,List.getElem_cons_succ,Act.put,List.setIfInBounds_toArray,List.set_cons_zero,List.set_cons_succ]
    refine wpAnyH_take (i:=9) (v:=undef) rfl (by kernel_rfl) (by kernel_rfl) (by kernel_rfl) (fun _ _ _ h=>h) (Or.inr ⟨by rfl,rfl⟩) (by assumption) ?_
    try simp only [List.getElem_toArray,List.getElem_cons_zero,List.getElem_cons_succ,Act.put,List.setIfInBounds_toArray,List.set_cons_zero,List.set_cons_succ]
    refine wpAnyH_take (i:=10) (v:=undef) rfl (by kernel_rfl) (by kernel_rfl) (by kernel_rfl) (fun _ _ _ h=>h) (Or.inr ⟨by rfl,rfl⟩) (by assumption) ?_
    try simp only [List.getElem_toArray,List.getElem_cons_zero,List.getElem_cons_succ,Act.put,List.setIfInBounds_toArray,List.set_cons_zero,List.set_cons_succ]
    refine wpAnyH_take (i:=11) (v:=undef) rfl (by kernel_rfl) (by kernel_rfl) (by kernel_rfl) (fun _ _ _ h=>h) (Or.inr ⟨by rfl,rfl⟩) (by assumption) ?_
    try simp only [List.getElem_toArray,List.getElem_cons_zero,List.getElem_cons_succ,Act.put,List.setIfInBounds_toArray,List.set_cons_zero,List.set_cons_succ]
    refine wpAnyH_take (i:=12) (v:=undef) rfl (by kernel_rfl) (by kernel_rfl) (by kernel_rfl) (fun _ _ _ h=>h) (Or.inr ⟨by rfl,rfl⟩) (by assumption) ?_
    try simp only [List.getElem_toArray,List.getElem_cons_zero,List.getElem_cons_succ,Act.put,List.setIfInBounds_toArray,List.set_cons_zero,List.set_cons_succ]
    refine wpAnyH_take (i:=13) (v:=undef) rfl (by kernel_rfl) (by kernel_rfl) (by kernel_rfl) (fun _ _ _ h=>h) (Or.inr ⟨by rfl,rfl⟩) (by assumption) ?_
    try simp only [List.getElem_toArray,List.getElem_cons_zero,List.getElem_cons_succ,Act.put,List.setIfInBounds_toArray,List.set_cons_zero,List.set_cons_succ]
    refine wpAnyH_take (i:=14) (v:=undef) rfl (by kernel_rfl) (by kernel_rfl) (by kernel_rfl) (fun _ _ _ h=>h) (Or.inr ⟨by rfl,rfl⟩) (by assumption) ?_
    try simp only [List.getElem_toArray,List.getElem_cons_zero,List.getElem_cons_succ,Act.put,List.setIfInBounds_toArray,List.set_cons_zero,List.set_cons_succ]
    refine wpAnyH_take (i:=16) (v:=undef) rfl (by kernel_rfl) (by kernel_rfl) (by kernel_rfl) (fun _ _ _ h=>h) (Or.inr ⟨by rfl,rfl⟩) (by assumption) ?_
    try simp only [List.getElem_toArray,List.getElem_cons_zero,List.getElem_cons_succ,Act.put,List.setIfInBounds_toArray,List.set_cons_zero,List.set_cons_succ]
    refine wpAnyH_take (i:=15) (v:=undef) rfl (by kernel_rfl) (by kernel_rfl) (by kernel_rfl) (fun _ _ _ h=>h) (Or.inr ⟨by rfl,rfl⟩) (by assumption) ?_
    try simp only [List.getElem_toArray,List.getElem_cons_zero,List.getElem_cons_succ,Act.put,List.setIfInBounds_toArray,List.set_cons_zero,List.set_cons_succ]
    refine wpAnyH_take (i:=17) (v:=undef) rfl (by kernel_rfl) (by kernel_rfl) (by kernel_rfl) (fun _ _ _ h=>h) (Or.inr ⟨by rfl,rfl⟩) (by assumption) ?_
    try simp only [List.getElem_toArray,List.getElem_cons_zero,List.getElem_cons_succ,Act.put,List.setIfInBounds_toArray,List.set_cons_zero,List.set_cons_succ]
    refine wpAnyH_take (i:=18) (v:=?_) rfl (by kernel_rfl) (by kernel_rfl) (by kernel_rfl) (fun _ _ _ h=>h) (Or.inl ⟨by rfl,?_⟩) (by assumption) ?_
    rotate_left 1
    ·(intro w hSw;(try dsimp only at hSw);go_simp;try (with_reducible rfl))
    try simp only [List.getElem_toArray,List.getElem_cons_zero,List.getElem_cons_succ,Act.put,List.setIfInBounds_toArray,List.set_cons_zero,List.set_cons_succ]
    refine wpAnyH_done (by kernel_rfl) ?_ _
    simp only [cutQ,List.drop_succ_cons,List.drop_zero]
    go_wp2
    go_ret
    exact ⟨.inr ⟨HN.out,rfl⟩,HB2.out.1⟩
  ·have hkn:k=n:=by omega
   subst hkn
   have HSZ:=l7size_any E O a cap es wr (HB.out.1.els.below hbel (Nat.le_refl _)) (by rw [HL.out.1];exact hn2) HB.out.2.1.s
   rw [HL.out.1] at HSZ
   have HBE:Hid (Below w.heap.size w wr):=hbel
   have hzb:=HZB.out
   clear hbel
   go_wp2_with fail
   refine HSZ.mono ?_
   clear HSZ
   rintro e w2 ⟨rfl,hb2⟩
   have HB2:Hid (Below w.heap.size w w2):=HBE.out.trans (hb2.mono HBE.out.size)
   clear hb2
   by_cases hz:szP es≤256
   ·have HR:Hid PK:=HPY.out HAP.out.1 hz
    clear HPY HPN HZB
    generalize szP es=Z at *
    have hz2:decide ((Z:Int)≤256)=true:=by simp;omega
    go_wp2
    go_ret
    exact ⟨.inl ⟨HR.out,by simp [hz2] <;> omega⟩,HB2.out⟩
   ·have HR:Hid (¬PK):=fun h=>hz (HPN.out h).2
    clear HPY HPN HZB
    generalize szP es=Z at *
    have hz2:decide ((Z:Int)≤256)=false:=by simp;omega
    go_wp2
    go_ret
    exact ⟨.inr ⟨HR.out,by simp [hz2] <;> omega⟩,HB2.out⟩
end Go.Proofs.YthngimdjjmhboaaGreatDoor
