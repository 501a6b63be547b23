import Derived.Test.YtjmcjbmjgpponaaGreatDoorPkI
set_option maxRecDepth 20000
set_option maxHeartbeats 16000000
namespace Go.Proofs.YtjmcjbmjgpponaaGreatDoor
open Go.RowKit
set_option linter.unusedVariables false
set_option linter.unusedSimpArgs false
def ThB (W:World) (X:Nat) (es:List El) (k:Nat):Prop:=X<W.heap.size/\∀ i:Nat,i<16->W.frozen? ⟨X,i,none⟩=false/\∃ t,W.cell? ⟨X,i,none⟩=some (.bool t)/\(t=true↔∃ j,j<k/\(es.getD j de).n=(i:Nat))
theorem ThB.below {W W':World} {X:Nat} {es:List El} {k:Nat} (h:ThB W X es k) (hb:Below W.heap.size W W'):ThB W' X es k:=
 ⟨Nat.lt_of_lt_of_le h.1 hb.size,fun i hi=>⟨(hb.frozen (p:=⟨X,i,none⟩) h.1).trans (h.2 i hi).1,by
  obtain ⟨t,h1,h2⟩:=(h.2 i hi).2;exact ⟨t,keep hb h.1 h1,h2⟩⟩⟩
theorem ThB.put {W:World} {X q:Nat} {es:List El} {k:Nat} (h:ThB W X es k) (hq:(es.getD k de).n=(q:Nat)) (hq16:q<16):ThB (W.setCell ⟨X,q,none⟩ (.bool true)) X es (k+1):=by
 refine ⟨by simpa using h.1,fun i hi=>⟨by have:=(h.2 i hi).1;simpa using this,?_⟩⟩
 obtain ⟨t,h1,h2⟩:=(h.2 i hi).2
 by_cases e:i=q
 ·subst e
  exact ⟨true,World.cell?_setCell_same W _ _ h1,by simpa using ⟨k,by omega,hq⟩⟩
 ·refine ⟨t,(World.cell?_setCell_other W _ _ _ (by simp <;> omega)).trans h1,h2.trans ⟨?_,?_⟩⟩
  ·rintro ⟨j,h3,h4⟩
   exact ⟨j,by omega,h4⟩
  ·rintro ⟨j,h3,h4⟩
   by_cases e2:j=k
   ·subst e2
    rw [hq] at h4;exact absurd (by omega) e
   ·exact ⟨j,by omega,h4⟩
theorem ThB.new (W:World) (T:TypeId) (es:List El):ThB (W.alloc (Obj.cells #[.bool false,.bool false,.bool false,.bool false,.bool false,.bool false,.bool false,.bool false,.bool false,.bool false,.bool false,.bool false,.bool false,.bool false,.bool false,.bool false] T)) W.heap.size es 0:=by
 refine ⟨by simp,fun i hi=>⟨by simp,false,?_,by simp⟩⟩
 have h:i=0\/i=1\/i=2\/i=3\/i=4\/i=5\/i=6\/i=7\/i=8\/i=9\/i=10\/i=11\/i=12\/i=13\/i=14\/i=15:=by omega
 rcases h with rfl | rfl | rfl | rfl | rfl | rfl | rfl | rfl | rfl | rfl | rfl | rfl | rfl | rfl | rfl | rfl <;> simp
theorem zah (f:List Int->Option (List Int)) (hf:z2w f) (E O:Int) (a:Option Addr) (cap:Nat) (es:List El) (w:World) (hb:ItI w a es) (hx:z29 es) (hS:SentB w) :
  Calls Tryz.prog 32 #[.agg #[.int .i64 E,.int .i64 O,.slice a es.length cap]] w fun r w'=>((apT f es es.length/\r=.returned (.bool true))\/(¬apT f es es.length/\r=.returned (.bool false)))/\Below w.heap.size w w':=by
 have HB:Hid (ItI w a es/\z29 es/\SentB w/\z2w f):=⟨hb,hx,hS,hf⟩;have hn:=hx.n;clear hb hx hS hf;generalize hlen:es.length=n at *;have HL:Hid (es.length=n/\True):=⟨hlen,trivial⟩;clear hlen;have hw:Bw w (w.alloc (Obj.cells #[.int .i64 E,.int .i64 O,.slice a n cap] 25)):=bAw
 go_enter Tryz.func32,Tryz.ntmps32
 have hT0:=ThB.new (w.alloc (Obj.cells #[.int .i64 E,.int .i64 O,.slice a n cap] 25)) 94 es
 simp only [World.size_alloc] at hT0
 have HT0:Hid _:=hT0;clear hT0;go_wp2
 go_loopw [9] (fun i wr=>∃ k:Nat,k<=n/\i=.int .i64 k/\apT f es k/\ThB wr (w.heap.size+1) es k/\Below w.heap.size w wr) (fun i _=>n-(intOf i).toNat)
 case atStart=>exact ⟨0,Nat.zero_le _,rfl,zdh f es,HT0.out,hw.alloc (by simp) _⟩
 case round=>
  clear HT0 hw;obtain ⟨k,hk,rfl,hap,hth,hbel⟩:=hrel;have HAP:Hid (apT f es k/\ThB wr (w.heap.size+1) es k/\Bw w wr):=⟨hap,hth,hbel⟩;clear hap hth
  by_cases hlt:k<n
  ·obtain ⟨b,off,rfl,hb1,c0,c1,hby,hrg⟩:=(HB.out.1.els.below hbel nl).pen k (by rw [HL.out.1];exact hlt)
   have hmem:=z1m (es:=es) (k:=k) (by rw [HL.out.1];exact hlt)
   have hcp:=HB.out.1.cap _ hmem;have hll:=HB.out.2.1.l _ hmem;have HE:Hid (∃ s,es.getD k de=s/\True):=⟨_,rfl,trivial⟩;generalize hs:es.getD k de=s at *;obtain ⟨sn,sa,sc,sl⟩:=s
   simp only at c0 c1 hcp hll hby
   have HS:Hid (es.getD k de=⟨sn,sa,sc,sl⟩/\True):=⟨hs,trivial⟩;have hbx:Bw wr (wr.alloc (Obj.cells #[.int .i64 sn,.slice sa sl.length sc] 39)):=bAw;have hbw:Bw w (wr.alloc (Obj.cells #[.int .i64 sn,.slice sa sl.length sc] 39)):=hbel.trans (hbx.mono hbel.size);have HIT:=zc5 f HB.out.2.2.2 sn sa sc sl _ (hby.below hbx nl) hcp hll (HB.out.2.2.1.below hbw);have q0:(wr.alloc (Obj.cells #[.int .i64 sn,.slice sa sl.length sc] 39)).cell? ⟨wr.heap.size,0,none⟩=some (.int .i64 sn):=by simp
   have HQ:Hid (ThB (wr.alloc (Obj.cells #[.int .i64 sn,.slice sa sl.length sc] 39)) (w.heap.size+1) es k/\Bw w (wr.alloc (Obj.cells #[.int .i64 sn,.slice sa sl.length sc] 39))/\wr.heap.size<(wr.alloc (Obj.cells #[.int .i64 sn,.slice sa sl.length sc] 39)).heap.size):=⟨HAP.out.2.1.below hbx,hbw,by simp⟩
   clear hmem hcp hll hby hrg hs hbx hbw HE;go_wp2_with fail
   generalize wr.alloc (Obj.cells #[.int .i64 sn,.slice sa sl.length sc] 39)=W at *;refine HIT.mono ?_;clear HIT;rintro e w2 ⟨⟨hit,rfl⟩ | ⟨hit,rfl⟩,hb2⟩
   ·obtain ⟨q,hq⟩:=Int.eq_ofNat_of_zero_le hit.1.1
    have hq16:=hit.1.2
    simp only at hq hq16
    have hq0:(0:Int)<=sn:=hit.1.1;subst hq;have hth2:ThB w2 (w.heap.size+1) es k:=HQ.out.1.below hb2;obtain ⟨hfz,t,hct,hti⟩:=hth2.2 q (by omega)
    have p0:w2.cell? ⟨wr.heap.size,0,none⟩=some (.int .i64 (q:Nat)):=keep hb2 HQ.out.2.2 q0;have HW2:Hid (ThB w2 (w.heap.size+1) es k/\Bw w w2/\z1t f ⟨(q:Nat),sa,sc,sl⟩/\(t=true↔∃ j,j<k/\(es.getD j de).n=(q:Nat))):=⟨hth2,HQ.out.2.1.trans (hb2.mono HQ.out.2.1.size),hit,hti⟩;clear hth2 hb2 hit hti q0 c0 c1
    cases t with
    | true=>
     have HNO:Hid (¬apT f es n):=by
      intro h
      obtain ⟨j,hj,hn2⟩:=HW2.out.2.2.2.1 rfl;refine (h k hlt).2 j hj ?_;rw [hn2,HS.out.1]
     go_wp2
     go_ret;exact ⟨.inr ⟨HNO.out,rfl⟩,HW2.out.2.1⟩
    | false=>
     have HN:Hid (apT f es (k+1)/\ThB (w2.setCell ⟨w.heap.size+1,q,none⟩ (.bool true)) (w.heap.size+1) es (k+1)/\Bw w (w2.setCell ⟨w.heap.size+1,q,none⟩ (.bool true))):=by
      refine ⟨zd0 HAP.out.1 (by rw [HS.out.1];exact HW2.out.2.2.1) ?_,HW2.out.1.put (by rw [HS.out.1]) (by omega),HW2.out.2.1.setCell (by simp) _⟩
      intro j hj e
      rw [HS.out.1] at e;have:=HW2.out.2.2.2.2 ⟨j,hj,e⟩
      cases this
     go_wp2
     go_roundw
     case rel=>exact ⟨k+1,by omega,by go_num,HN.out.1,by simpa using HN.out.2.1,by simpa using HN.out.2.2⟩
     case measure=>simp [intOf];omega
   ·have HNO:Hid (¬apT f es n/\Bw w w2):=by
     refine ⟨fun h=>hit ?_,HQ.out.2.1.trans (hb2.mono HQ.out.2.1.size)⟩
     have:=(h k hlt).1;rw [HS.out.1] at this;exact this
    clear hb2 hit q0 c0 c1;go_wp2;go_ret;exact ⟨.inr ⟨HNO.out.1,rfl⟩,HNO.out.2⟩
  ·have hkn:k=n:=by omega
   subst hkn;go_wp2;go_ret;exact ⟨.inl ⟨HAP.out.1,rfl⟩,HAP.out.2.2⟩
theorem zac (f:List Int->Option (List Int)) (hf:z2w f) (E O:Int) (a:Option Addr) (cap:Nat) (es:List El) (w:World) (hb:ItI w a es) (hx:z29 es) (hS:SentB w) :
  Calls Tryz.prog 9 #[.agg #[.int .i64 E,.int .i64 O,.slice a es.length cap]] w fun r w'=>((PkR f E O es/\r=.returned (.bool true))\/(¬PkR f E O es/\r=.returned (.bool false)))/\Below w.heap.size w w':=by
 have hw:Bw w (w.alloc (Obj.cells #[.int .i64 E,.int .i64 O,.slice a es.length cap] 25)):=bAw;have HX:Box3 (w.alloc (Obj.cells #[.int .i64 E,.int .i64 O,.slice a es.length cap] 25)) w.heap.size _ _ _:=Box3.new w (.int .i64 E) (.int .i64 O) (.slice a es.length cap) 25;have HIA:=zah f hf E O a cap es _ (hb.below hw nl) hx (hS.below hw);have HB:Hid (ItI w a es/\z29 es):=⟨hb,hx⟩;have HP:Hid (PkR f E O es↔(0<=E/\E<=60000)/\(0<=O/\O<=60000)/\es.length<=16/\apT f es es.length/\szP es<=256):=
  ⟨fun h=>⟨⟨h.e0,h.e1⟩,⟨h.o0,h.o1⟩,h.n,h.ap,h.sz⟩,fun h=>⟨h.1.1,h.1.2,h.2.1.1,h.2.1.2,h.2.2.1,h.2.2.2.1,h.2.2.2.2⟩⟩
 generalize PkR f E O es=PK at *;generalize apT f es es.length=AP at *;have hszb:szP es<=4000000:=by have:=hx.n;have:=hx.s;unfold szP;omega
 have hn2:=hx.n;clear hb hx hS
 by_cases hE:0<=E/\E<=60000
 ·by_cases hO:0<=O/\O<=60000
  ·by_cases h16:es.length<=16
   ·have g16:¬((16:Int)<(es.length:Int)):=by omega
    go_enter Tryz.func9,Tryz.ntmps9
    obtain ⟨r0,r1,r2,-,-,-,rl⟩:=HX;go_wp2_with fail
    generalize w.alloc (Obj.cells #[.int .i64 E,.int .i64 O,.slice a es.length cap] 25)=W at *;refine (z0z E _).mono ?_;rintro e w1 ⟨rfl,rfl⟩;rw [decide_eq_true hE];go_wp2_with fail
    refine (z0z O _).mono ?_;rintro e w2 ⟨rfl,rfl⟩;rw [decide_eq_true hO];go_wp2_with fail
    refine HIA.mono ?_;clear HIA;rintro e w3 ⟨⟨hap,rfl⟩ | ⟨hap,rfl⟩,hb3⟩
    ·have HW3:Hid (Bw w w3/\AP):=⟨hw.trans (hb3.mono (by have:=hw.size;omega)),hap⟩
     have s0:=keep hb3 rl r0;have s1:=keep hb3 rl r1;have s2:=keep hb3 rl r2;have HSZ:=zbo E O a cap es w3 (HB.out.1.els.below HW3.out.1 nl) (by omega) HB.out.2.s
     clear hap hb3 r0 r1 r2 rl;go_wp2_with fail
     refine HSZ.mono ?_;clear HSZ;rintro e w4 ⟨rfl,hb4⟩;have HW4:Hid (Bw w w4):=HW3.out.1.trans (hb4.mono HW3.out.1.size);clear hb4 s0 s1 s2
     by_cases hz:szP es<=256
     ·have HR:Hid PK:=HP.out.2 ⟨hE,hO,h16,HW3.out.2,hz⟩
      generalize szP es=Z at *;have hz2:decide ((Z:Int)<=256)=true:=by simp;omega
      go_wp2
      go_ret;exact ⟨.inl ⟨HR.out,by simp [hz2] <;> omega⟩,HW4.out⟩
     ·have HR:Hid (¬PK):=fun h=>hz (HP.out.1 h).2.2.2.2
      generalize szP es=Z at *;have hz2:decide ((Z:Int)<=256)=false:=by simp;omega
      go_wp2
      go_ret;exact ⟨.inr ⟨HR.out,by simp [hz2] <;> omega⟩,HW4.out⟩
    ·have HW3:Hid (Bw w w3/\¬PK):=⟨hw.trans (hb3.mono (by have:=hw.size;omega)),fun h=>hap (HP.out.1 h).2.2.2.1⟩
     clear hap hb3 r0 r1 r2 rl;go_wp2;go_ret;exact ⟨.inr ⟨HW3.out.2,rfl⟩,HW3.out.1⟩
   ·have g16:(16:Int)<(es.length:Int):=by omega
    have HR:Hid (¬PK):=fun h=>h16 (HP.out.1 h).2.2.1
    go_enter Tryz.func9,Tryz.ntmps9
    clear HIA HX;go_wp2_with fail
    refine (z0z E _).mono ?_;rintro e w1 ⟨rfl,rfl⟩;rw [decide_eq_true hE];go_wp2_with fail
    refine (z0z O _).mono ?_;rintro e w2 ⟨rfl,rfl⟩;rw [decide_eq_true hO];go_wp2;go_ret;exact ⟨.inr ⟨HR.out,rfl⟩,hw⟩
  ·have HR:Hid (¬PK):=fun h=>hO (HP.out.1 h).2.1
   go_enter Tryz.func9,Tryz.ntmps9
   clear HIA HX;go_wp2_with fail
   refine (z0z E _).mono ?_;rintro e w1 ⟨rfl,rfl⟩;rw [decide_eq_true hE];go_wp2_with fail
   refine (z0z O _).mono ?_;rintro e w2 ⟨rfl,rfl⟩;rw [decide_eq_false hO];go_wp2;go_ret;exact ⟨.inr ⟨HR.out,rfl⟩,hw⟩
 ·have HR:Hid (¬PK):=fun h=>hE (HP.out.1 h).1
  go_enter Tryz.func9,Tryz.ntmps9
  clear HIA HX;go_wp2_with fail
  refine (z0z E _).mono ?_;rintro e w1 ⟨rfl,rfl⟩;rw [decide_eq_false hE];go_wp2;go_ret;exact ⟨.inr ⟨HR.out,rfl⟩,hw⟩
theorem zh5 (f:List Int->Option (List Int)) (hf:z2w f) (n:Int) (a:Option Addr) (c:Nat) (ls:List Int) (w:World) (hb:Byt w a ls) (hc:ls.length<=c) (hl:ls.length<=1048576) :
  Calls Tryz.prog 28 #[.agg #[.int .i64 n,.slice a ls.length c]] w fun r w'=>((z1t f ⟨n,a,c,ls⟩/\r=.returned (.bool true))\/(¬z1t f ⟨n,a,c,ls⟩/\r=.returned (.bool false)))/\Below w.heap.size w w':=by
 have hw:Bw w (w.alloc (Obj.cells #[.int .i64 n,.slice a ls.length c] 39)):=bAw;have HD:=(hf ls hl hb.1).2.1 a c _ hc (hb.below hw nl);have HI:Hid (z1t f ⟨n,a,c,ls⟩↔(0<=n/\n<16)/\(ls=[]\/(f ls).isSome=true)):=Iff.rfl;generalize z1t f ⟨n,a,c,ls⟩=I at *;clear hb
 go_enter Tryz.func28,Tryz.ntmps28
 by_cases h0:n<0
 ·go_wp2
  go_ret;exact ⟨.inr ⟨fun h=>by have:=HI.out.1 h;omega,rfl⟩,hw⟩
 ·by_cases h1:(16:Int)<=n
  ·go_wp2
   go_ret;exact ⟨.inr ⟨fun h=>by have:=HI.out.1 h;omega,rfl⟩,hw⟩
  ·by_cases h2:ls.length=0
   ·have h2':(ls.length:Int)=0:=by omega
    have HN:Hid (I):=HI.out.2 ⟨by omega,.inl (List.eq_nil_of_length_eq_zero h2)⟩
    clear HD;go_wp2;go_ret;exact ⟨.inl ⟨HN.out,rfl⟩,(Below.refl _ _).alloc nl _⟩
   ·have h2':¬((ls.length:Int)=0):=by omega
    have HN:Hid (I↔(f ls).isSome=true):=by
     constructor
     ·intro h
      rcases (HI.out.1 h).2 with h | h
      ·exact absurd (by rw [h];rfl) h2
      ·exact h
     ·intro h
      exact HI.out.2 ⟨by omega,.inr h⟩
    go_wp2_with fail
    refine HD.mono ?_;clear HD;rintro e w1 ⟨hb1,⟨bs,v,hy,hov,rfl⟩ | ⟨hy,v,rfl⟩⟩
    ·obtain ⟨va,vc,rfl⟩:=hov.form
     have HB1:Hid (Bw w w1/\I):=⟨hw.trans (hb1.mono (by simp)),HN.out.2 (by rw [hy];rfl)⟩
     clear hb1 hy hov hw;go_wp2;go_ret;exact ⟨.inl ⟨HB1.out.2,rfl⟩,HB1.out.1⟩
    ·have HB1:Hid (Bw w w1/\¬I):=⟨hw.trans (hb1.mono (by simp)),fun h=>by have:=HN.out.1 h;rw [hy] at this;cases this⟩
     clear hb1 hy hw;go_wp2;go_ret;exact ⟨.inr ⟨HB1.out.2,rfl⟩,HB1.out.1⟩
theorem z5j (E O:Int) (a:Option Addr) (cap:Nat) (es:List El) (w:World) (hb:Els true w a es) (hn:es.length<=1048576) (hl:zl es<=1048576) :
  Calls Tryz.prog 30 #[.agg #[.int .i64 E,.int .i64 O,.slice a es.length cap]] w fun r w'=>r=.returned (.int .i64 (szP es:Nat))/\Below w.heap.size w w':=by
 have HSZ:Hid (szP es=6+2*es.length+zl es/\zl (es.take es.length)=zl es):=⟨rfl,by rw [List.take_length]⟩
 have HLE:Hid (∀ k,zl (es.take k)<=zl es):=z5s es;have hw:Bw w (w.alloc (Obj.cells #[.int .i64 E,.int .i64 O,.slice a es.length cap] 25)):=bAw;have HB:Hid (Els true (w.alloc (Obj.cells #[.int .i64 E,.int .i64 O,.slice a es.length cap] 25)) a es):=hb.below hw nl;obtain ⟨r0,r1,r2,-,-,-,rl⟩:Box3 (w.alloc (Obj.cells #[.int .i64 E,.int .i64 O,.slice a es.length cap] 25)) w.heap.size _ _ _:=Box3.new w (.int .i64 E) (.int .i64 O) (.slice a es.length cap) 25
 clear hb r0 r1;generalize szP es=Z at *
 go_enter Tryz.func30,Tryz.ntmps30
 go_wp2
 generalize w.alloc (Obj.cells #[.int .i64 E,.int .i64 O,.slice a es.length cap] 25)=W at *;generalize hlen:es.length=n at *;have HL:Hid (es.length=n/\True):=⟨hlen,trivial⟩;clear hlen
 go_loop [3,4] (fun s i=>∃ (k z:Nat),k<=n/\i=.int .i64 k/\s=.int .i64 z/\z=6+2*k+zl (es.take k)) (fun _ i=>n-(intOf i).toNat)
 case atStart=>exact ⟨0,6,Nat.zero_le _,rfl,rfl,by simp [zl]⟩
 case round=>
  obtain ⟨k,z,hk,rfl,rfl,hz⟩:=hrel;have HZ:Hid (z=6+2*k+zl (es.take k)/\True):=⟨hz,trivial⟩;have hzb:z<=4000000:=by have:=HLE.out k;omega
  clear hz
  by_cases hlt:k<n
  ·obtain ⟨b,off,rfl,hb1,c0,c1,hby,hrg⟩:=HB.out.pen k (by rw [HL.out.1];exact hlt)
   have HT:Hid (zl (es.take (k+1))=zl (es.take k)+(es.getD k de).ls.length/\(es.getD k de).ls.length<=1048576):=⟨z3j es k (by rw [HL.out.1];exact hlt),by have:=zaw (z1m (es:=es) (k:=k) (by rw [HL.out.1];exact hlt));omega⟩
   generalize es.getD k de=s at *;obtain ⟨sn,sa,sc,sl⟩:=s
   simp only at c0 c1 HT
   have hsl:sl.length<=1048576:=HT.out.2;have HZ2:Hid (z+2+sl.length=6+2*(k+1)+zl (es.take (k+1))/\True):=⟨by have h1:=HZ.out.1;have h2:=HT.out.1;omega,trivial⟩
   clear hby hrg;go_wp2;go_round
   case rel=>exact ⟨k+1,z+2+sl.length,by omega,by go_num,by go_num,HZ2.out.1⟩
   case measure=>simp [intOf];omega
  ·have hkn:k=n:=by omega
   subst hkn;have HZ2:Hid (z=Z/\True):=⟨by have h1:=HZ.out.1;have h2:=HSZ.out;omega,trivial⟩
   go_wp2
   go_ret;exact ⟨by rw [<-HZ2.out.1];rfl,hw⟩
def z4a (es:List El) (x z:Int):Prop:=(∃ k:Nat,k<es.length/\z=k/\(es.getD k de).n=x/\∀ j,j<k->(es.getD j de).n≠x)\/(z=-1/\∀ j,j<es.length->(es.getD j de).n≠x)
theorem z9c (E O x:Int) (a:Option Addr) (cap:Nat) (es:List El) (w:World) (hb:Els true w a es) (hn:es.length<=1048576) :
  Calls Tryz.prog 29 #[.agg #[.int .i64 E,.int .i64 O,.slice a es.length cap],.int .i64 x] w fun r w'=>(∃ z,r=.returned (.int .i64 z)/\z4a es x z)/\Below w.heap.size w w':=by
 have hw:Bw w (w.alloc (Obj.cells #[.int .i64 E,.int .i64 O,.slice a es.length cap] 25)):=bAw;have HB:Hid (Els true (w.alloc (Obj.cells #[.int .i64 E,.int .i64 O,.slice a es.length cap] 25)) a es):=hb.below hw nl;obtain ⟨r0,r1,r2,-,-,-,rl⟩:Box3 (w.alloc (Obj.cells #[.int .i64 E,.int .i64 O,.slice a es.length cap] 25)) w.heap.size _ _ _:=Box3.new w (.int .i64 E) (.int .i64 O) (.slice a es.length cap) 25
 have HY:Hid (∀ k:Nat,k<es.length->(es.getD k de).n=x->(∀ j,j<k->(es.getD j de).n≠x)->z4a es x k):=fun k h1 h2 h3=>.inl ⟨k,h1,rfl,h2,h3⟩
 have HN:Hid ((∀ j,j<es.length->(es.getD j de).n≠x)->z4a es x (-1)):=fun h=>.inr ⟨rfl,h⟩
 clear hb r0 r1
 go_enter Tryz.func29,Tryz.ntmps29
 go_wp2
 generalize w.alloc (Obj.cells #[.int .i64 E,.int .i64 O,.slice a es.length cap] 25)=W at *;generalize hlen:es.length=n at *;have HL:Hid (es.length=n/\True):=⟨hlen,trivial⟩;clear hlen
 go_loop [5] (fun i=>∃ k:Nat,k<=n/\i=.int .i64 k/\∀ j,j<k->(es.getD j de).n≠x) (fun i=>n-(intOf i).toNat)
 case atStart=>exact ⟨0,Nat.zero_le _,rfl,fun j hj=>by omega⟩
 case round=>
  obtain ⟨k,hk,rfl,hal⟩:=hrel;have HAL:Hid (∀ j,j<k->(es.getD j de).n≠x):=hal;clear hal
  by_cases hlt:k<n
  ·obtain ⟨b,off,rfl,hb1,c0,c1,hby,hrg⟩:=HB.out.pen k (by rw [HL.out.1];exact hlt)
   have HS:Hid (∃ s,es.getD k de=s/\True):=⟨_,rfl,trivial⟩;generalize hs:es.getD k de=s at *;obtain ⟨sn,sa,sc,sl⟩:=s
   simp only at c0 c1
   have HSN:Hid ((es.getD k de).n=sn/\True):=⟨by rw [hs],trivial⟩
   clear hby hrg hs HS
   by_cases hx:sn=x
   ·have hx2:(sn == x)=true:=by simpa using hx
    have HF:Hid (z4a es x k):=HY.out k hlt (by rw [HSN.out.1];exact hx) HAL.out
    clear hx;go_wp2;go_ret;exact ⟨⟨_,rfl,HF.out⟩,hw⟩
   ·have hx2:(sn == x)=false:=by simpa using hx
    have HF:Hid (∀ j,j<k+1->(es.getD j de).n≠x):=by
     intro j hj
     by_cases e:j=k
     ·rw [e,HSN.out.1];exact hx
     ·exact HAL.out j (by omega)
    clear hx;go_wp2;go_round
    case rel=>exact ⟨k+1,by omega,by go_num,HF.out⟩
    case measure=>simp [intOf];omega
  ·have hkn:k=n:=by omega
   subst hkn;have HF:Hid (z4a es x (-1)):=HN.out HAL.out;go_wp2;go_ret;exact ⟨⟨_,rfl,HF.out⟩,hw⟩
theorem zab (f:List Int->Option (List Int)) (hf:z2w f) (E O:Int) (a:Option Addr) (cap:Nat) (es:List El) (w:World) (hb:ItI w a es) (hx:z29 es) :
  Calls Tryz.prog 8 #[.agg #[.int .i64 E,.int .i64 O,.slice a es.length cap]] w fun r w'=>((PkR f E O es/\r=.returned (.bool true))\/(¬PkR f E O es/\r=.returned (.bool false)))/\Below w.heap.size w w':=by
 have hw:Bw w (w.alloc (Obj.cells #[.int .i64 E,.int .i64 O,.slice a es.length cap] 25)):=bAw;have HP:Hid (PkR f E O es↔(0<=E/\E<=60000)/\(0<=O/\O<=60000)/\es.length<=16/\apT f es es.length/\szP es<=256):=
  ⟨fun h=>⟨⟨h.e0,h.e1⟩,⟨h.o0,h.o1⟩,h.n,h.ap,h.sz⟩,fun h=>⟨h.1.1,h.1.2,h.2.1.1,h.2.1.2,h.2.2.1,h.2.2.2.1,h.2.2.2.2⟩⟩
 generalize PkR f E O es=PK at *
 by_cases hE0:E<0
 ·have HR:Hid (¬PK):=fun h=>by have:=(HP.out.1 h).1;omega
  go_enter Tryz.func8,Tryz.ntmps8
  go_wp2
  go_ret;exact ⟨.inr ⟨HR.out,rfl⟩,hw⟩
 by_cases hE1:60000<E
 ·have HR:Hid (¬PK):=fun h=>by have:=(HP.out.1 h).1;omega
  go_enter Tryz.func8,Tryz.ntmps8
  go_wp2
  go_ret;exact ⟨.inr ⟨HR.out,rfl⟩,hw⟩
 by_cases hO0:O<0
 ·have HR:Hid (¬PK):=fun h=>by have:=(HP.out.1 h).2.1;omega
  go_enter Tryz.func8,Tryz.ntmps8
  go_wp2
  go_ret;exact ⟨.inr ⟨HR.out,rfl⟩,hw⟩
 by_cases hO1:60000<O
 ·have HR:Hid (¬PK):=fun h=>by have:=(HP.out.1 h).2.1;omega
  go_enter Tryz.func8,Tryz.ntmps8
  go_wp2
  go_ret;exact ⟨.inr ⟨HR.out,rfl⟩,hw⟩
 by_cases h16:16<es.length
 ·have h16':(16:Int)<(es.length:Int):=by omega
  have HR:Hid (¬PK):=fun h=>by have:=(HP.out.1 h).2.2.1;omega
  go_enter Tryz.func8,Tryz.ntmps8
  go_wp2
  go_ret;exact ⟨.inr ⟨HR.out,rfl⟩,hw⟩
 have h16':¬((16:Int)<(es.length:Int)):=by omega
 have hszb:szP es<=4000000:=by have:=hx.n;have:=hx.s;unfold szP;omega
 have HB:Hid (ItI w a es/\z29 es/\z2w f):=⟨hb,hx,hf⟩;have HX:Hid (Box3 (w.alloc (Obj.cells #[.int .i64 E,.int .i64 O,.slice a es.length cap] 25)) w.heap.size _ _ _):=Box3.new w (.int .i64 E) (.int .i64 O) (.slice a es.length cap) 25;have HPY:Hid (apT f es es.length->szP es<=256->PK):=fun h1 h2=>HP.out.2 ⟨by omega,by omega,by omega,h1,h2⟩
 have HPN:Hid (PK->apT f es es.length/\szP es<=256):=fun h=>(HP.out.1 h).2.2.2
 have hn2:=hx.n;clear hb hx hf HP
 go_enter Tryz.func8,Tryz.ntmps8
 go_wp2
 generalize hW0:w.alloc (Obj.cells #[.int .i64 E,.int .i64 O,.slice a es.length cap] 25)=W0 at *;clear hW0;generalize hlen:es.length=n at *;have HL:Hid (es.length=n/\True):=⟨hlen,trivial⟩;clear hlen;have HZB:Hid (szP es<=4000000):=hszb;clear hszb
 go_loopw [3] (fun i wr=>∃ k:Nat,k<=n/\i=.int .i64 k/\apT f es k/\Box3 wr w.heap.size (.int .i64 E) (.int .i64 O) (.slice a n cap)/\Below w.heap.size w wr) (fun i _=>n-(intOf i).toNat)
 case atStart=>exact ⟨0,Nat.zero_le _,rfl,zdh f es,HX.out,hw⟩
 case round=>
  clear HX hw;obtain ⟨k,hk,rfl,hap,hbx,hbel⟩:=hrel;have HAP:Hid (apT f es k/\Box3 wr w.heap.size (.int .i64 E) (.int .i64 O) (.slice a n cap)):=⟨hap,hbx⟩;obtain ⟨r0,r1,r2,-,-,-,rl⟩:=hbx;clear hap
  by_cases hlt:k<n
  ·obtain ⟨b,off,rfl,hb1,c0,c1,hby,hrg⟩:=(HB.out.1.els.below hbel nl).pen k (by rw [HL.out.1];exact hlt)
   have hmem:=z1m (es:=es) (k:=k) (by rw [HL.out.1];exact hlt)
   have hcp:=HB.out.1.cap _ hmem;have hll:=HB.out.2.1.l _ hmem;generalize hs:es.getD k de=s at *;obtain ⟨sn,sa,sc,sl⟩:=s
   simp only at c0 c1 hcp hll hby
   have HS:Hid (es.getD k de=⟨sn,sa,sc,sl⟩/\True):=⟨hs,trivial⟩;have HFI:Hid (∀ W,Bw w W->Calls Tryz.prog 29 #[.agg #[.int .i64 E,.int .i64 O,.slice (some ⟨b,off,none⟩) n cap],.int .i64 sn] W fun r w'=>(∃ z,r=.returned (.int .i64 z)/\z4a es sn z)/\Bw W w'):=fun W hW=>by
    have:=z9c E O sn (some ⟨b,off,none⟩) cap es W (HB.out.1.els.below hW nl) (by rw [HL.out.1];exact hn2)
    rw [HL.out.1] at this;exact this
   have HITA:Hid (∀ W,Bw w W->Calls Tryz.prog 28 #[.agg #[.int .i64 sn,.slice sa sl.length sc]] W fun r w'=>((z1t f ⟨sn,sa,sc,sl⟩/\r=.returned (.bool true))\/(¬z1t f ⟨sn,sa,sc,sl⟩/\r=.returned (.bool false)))/\Bw W w'):=fun W hW=>by
    have h9:=(HB.out.1.els.below hW nl).at k (by rw [HL.out.1];exact hlt)
    rw [hs] at h9;exact zh5 f HB.out.2.2 sn sa sc sl W h9.2 hcp hll
   have HCL:Hid (∀ W,Bw wr W->W.cell? ⟨w.heap.size,0,none⟩=some (.int .i64 E)/\W.cell? ⟨w.heap.size,1,none⟩=some (.int .i64 O)/\W.cell? ⟨w.heap.size,2,none⟩=some (.slice (some ⟨b,off,none⟩) n cap)/\W.cell? ⟨b,off+k*2,none⟩=some (.int .i64 sn)/\W.cell? ⟨b,off+k*2+1,none⟩=some (.slice sa sl.length sc)):=fun W h=>⟨keep h rl r0,keep h rl r1,keep h rl r2,keep h hb1 c0,keep h hb1 c1⟩
   have hbD:Bw w wr.drew:=hbel.drew;clear hmem hcp hll hby hrg hs r0 r1 c0 c1
   by_cases hok:z1t f ⟨sn,sa,sc,sl⟩
   ·have HIT:Hid (∀ W,Bw w W->Calls Tryz.prog 28 #[.agg #[.int .i64 sn,.slice sa sl.length sc]] W fun r w'=>r=.returned (.bool true)/\Bw W w'):=fun W hW=>(HITA.out W hW).mono fun r w' h=>by
     obtain ⟨⟨_,h1⟩ | ⟨h0,_⟩,h2⟩:=h
     ·exact ⟨h1,h2⟩
     ·exact absurd hok h0
    have HOK:Hid (z1t f ⟨sn,sa,sc,sl⟩):=hok;clear HITA hok;go_wp2_with fail
    refine zj (S:=fun W=>W.cell? ⟨w.heap.size,0,none⟩=some (.int .i64 E)/\W.cell? ⟨w.heap.size,1,none⟩=some (.int .i64 O)/\W.cell? ⟨w.heap.size,2,none⟩=some (.slice (some ⟨b,off,none⟩) n cap)/\W.cell? ⟨b,off+k*2,none⟩=some (.int .i64 sn)/\W.cell? ⟨b,off+k*2+1,none⟩=some (.slice sa sl.length sc)) 19 (by kernel_rfl) (by kernel_rfl) (HCL.out _ (Below.refl _ _).drew) (fun hHeld=>?_)
    refine tk 0 ?_
    try simp only [tkS]
    refine tk 1 ?_
    try simp only [tkS]
    refine tk 2 ?_
    try simp only [tkS]
    refine tk 3 ?_
    try simp only [tkS]
    refine tk 4 ?_
    try simp only [tkS]
    refine wpAnyH_ready (rs:=[5]) (by kernel_rfl) (by simp) ?_
    refine AllReadyH.cons rfl (fun K hK=>?_) AllReadyH.nil
    go_simp
    refine (HIT.out _ hbD).mono ?_;rintro e w2 ⟨rfl,hb2'⟩;have hb2:Bw wr w2:=Below.drewS hb2';have HB2:Hid (Bw w w2/\Bw wr w2):=⟨hbel.trans (hb2.mono hbel.size),hb2⟩;clear hb2 hb2'
    dsimp only
    refine hK.out _ _ (HCL.out _ HB2.out.2) (fun hHeld=>?_)
    clear hK K
    try simp only [tkS]
    refine tk 6 ?_
    try simp only [tkS]
    refine tk 7 ?_
    try simp only [tkS]
    refine tk 8 ?_
    try simp only [tkS]
    refine tk 9 ?_
    try simp only [tkS]
    refine tk 10 ?_
    try simp only [tkS]
    refine tk 11 ?_
    try simp only [tkS]
    refine tk 12 ?_
    try simp only [tkS]
    refine tk 13 ?_
    try simp only [tkS]
    refine tk 14 ?_
    try simp only [tkS]
    refine tk 16 ?_
    try simp only [tkS]
    refine wpAnyH_ready (rs:=[15]) (by kernel_rfl) (by simp) ?_
    refine AllReadyH.cons rfl (fun K hK=>?_) AllReadyH.nil
    go_simp
    refine (HFI.out _ HB2.out.1).mono ?_;rintro e w3 ⟨⟨z,rfl,hz⟩,hb3⟩;have HB3:Hid (Bw w w3/\Bw wr w3/\z4a es sn z):=⟨HB2.out.1.trans (hb3.mono HB2.out.1.size),HB2.out.2.trans (hb3.mono HB2.out.2.size),hz⟩;clear hb3 hz
    dsimp only
    refine hK.out _ _ (HCL.out _ HB3.out.2.1) (fun hHeld=>?_)
    clear hK K
    try simp only [tkS]
    refine tk 17 ?_
    try simp only [tkS]
    refine tk 18 ?_
    try simp only [tkS]
    refine wpAnyH_done (by kernel_rfl) ?_ _
    simp only [z0d,List.drop_succ_cons,List.drop_zero]
    by_cases hzk:z=(k:Int)
    ·have hz2:(z != (k:Int))=false:=by simpa using hzk
     have HN:Hid (apT f es (k+1)/\Box3 w3 w.heap.size (.int .i64 E) (.int .i64 O) (.slice (some ⟨b,off,none⟩) n cap)):=by
      refine ⟨zd0 HAP.out.1 (by rw [HS.out.1];exact HOK.out) ?_,HAP.out.2.step HB3.out.2.1⟩
      rw [HS.out.1];rcases HB3.out.2.2 with ⟨k',h1,h2,h3,h4⟩ | ⟨h2,_⟩
      ·obtain rfl:k'=k:=by omega
       exact h4
      ·omega
     clear hzk;go_wp2;go_roundw
     case rel=>exact ⟨k+1,by omega,by go_num,HN.out.1,HN.out.2,HB3.out.1⟩
     case measure=>simp [intOf];omega
    ·have hz2:(z != (k:Int))=true:=by simpa using hzk
     have HN:Hid (¬PK):=by
      intro h
      have h9:=(HPN.out h).1 k hlt;rw [HS.out.1] at h9
      apply hzk
      rcases HB3.out.2.2 with ⟨k',h1,h2,h3,h4⟩ | ⟨h2,h4⟩
      ·rcases Nat.lt_trichotomy k' k with hh | hh | hh
       ·exact absurd h3 (h9.2 k' hh)
       ·omega
       ·exact absurd (by rw [HS.out.1]) (h4 k hh)
      ·exact absurd (by rw [HS.out.1]) (h4 k (by rw [HL.out.1];exact hlt))
     clear hzk;go_wp2;go_ret;exact ⟨.inr ⟨HN.out,rfl⟩,HB3.out.1⟩
   ·have HIT:Hid (∀ W,Bw w W->Calls Tryz.prog 28 #[.agg #[.int .i64 sn,.slice sa sl.length sc]] W fun r w'=>r=.returned (.bool false)/\Bw W w'):=fun W hW=>(HITA.out W hW).mono fun r w' h=>by
     obtain ⟨⟨h0,_⟩ | ⟨_,h1⟩,h2⟩:=h
     ·exact absurd h0 hok
     ·exact ⟨h1,h2⟩
    have HN:Hid (¬PK):=by
     intro h
     have h9:=((HPN.out h).1 k hlt).1;rw [HS.out.1] at h9;exact hok h9
    clear HITA hok;go_wp2_with fail
    refine zj (S:=fun W=>W.cell? ⟨w.heap.size,0,none⟩=some (.int .i64 E)/\W.cell? ⟨w.heap.size,1,none⟩=some (.int .i64 O)/\W.cell? ⟨w.heap.size,2,none⟩=some (.slice (some ⟨b,off,none⟩) n cap)/\W.cell? ⟨b,off+k*2,none⟩=some (.int .i64 sn)/\W.cell? ⟨b,off+k*2+1,none⟩=some (.slice sa sl.length sc)) 19 (by kernel_rfl) (by kernel_rfl) (HCL.out _ (Below.refl _ _).drew) (fun hHeld=>?_)
    refine tk 0 ?_
    try simp only [tkS]
    refine tk 1 ?_
    try simp only [tkS]
    refine tk 2 ?_
    try simp only [tkS]
    refine tk 3 ?_
    try simp only [tkS]
    refine tk 4 ?_
    try simp only [tkS]
    refine wpAnyH_ready (rs:=[5]) (by kernel_rfl) (by simp) ?_
    refine AllReadyH.cons rfl (fun K hK=>?_) AllReadyH.nil
    go_simp
    refine (HIT.out _ hbD).mono ?_;rintro e w2 ⟨rfl,hb2'⟩;have hb2:Bw wr w2:=Below.drewS hb2';have HB2:Hid (Bw w w2/\Bw wr w2):=⟨hbel.trans (hb2.mono hbel.size),hb2⟩;clear hb2 hb2'
    dsimp only
    refine hK.out _ _ (HCL.out _ HB2.out.2) (fun hHeld=>?_)
    clear hK K
    try simp only [tkS]
    refine tk 6 ?_
    try simp only [tkS]
    refine tk 7 ?_
    try simp only [tkS]
    refine tu 8 ?_
    try simp only [tkS]
    refine tu 9 ?_
    try simp only [tkS]
    refine tu 10 ?_
    try simp only [tkS]
    refine tu 11 ?_
    try simp only [tkS]
    refine tu 12 ?_
    try simp only [tkS]
    refine tu 13 ?_
    try simp only [tkS]
    refine tu 14 ?_
    try simp only [tkS]
    refine tu 16 ?_
    try simp only [tkS]
    refine tu 15 ?_
    try simp only [tkS]
    refine tu 17 ?_
    try simp only [tkS]
    refine tk 18 ?_
    try simp only [tkS]
    refine wpAnyH_done (by kernel_rfl) ?_ _
    simp only [z0d,List.drop_succ_cons,List.drop_zero]
    go_wp2
    go_ret;exact ⟨.inr ⟨HN.out,rfl⟩,HB2.out.1⟩
  ·have hkn:k=n:=by omega
   subst hkn;have HSZ:=z5j E O a cap es wr (HB.out.1.els.below hbel nl) (by rw [HL.out.1];exact hn2) HB.out.2.1.s
   rw [HL.out.1] at HSZ;have HBE:Hid (Bw w wr):=hbel;have hzb:=HZB.out;clear hbel;go_wp2_with fail
   refine HSZ.mono ?_;clear HSZ;rintro e w2 ⟨rfl,hb2⟩;have HB2:Hid (Bw w w2):=HBE.out.trans (hb2.mono HBE.out.size);clear hb2
   by_cases hz:szP es<=256
   ·have HR:Hid PK:=HPY.out HAP.out.1 hz
    clear HPY HPN HZB;generalize szP es=Z at *;have hz2:decide ((Z:Int)<=256)=true:=by simp;omega
    go_wp2
    go_ret;exact ⟨.inl ⟨HR.out,by simp [hz2] <;> omega⟩,HB2.out⟩
   ·have HR:Hid (¬PK):=fun h=>hz (HPN.out h).2
    clear HPY HPN HZB;generalize szP es=Z at *;have hz2:decide ((Z:Int)<=256)=false:=by simp;omega
    go_wp2
    go_ret;exact ⟨.inr ⟨HR.out,by simp [hz2] <;> omega⟩,HB2.out⟩
structure zrj (es:List El):Prop where
 n:es.length<=1048576
 l:∀ s ∈ es,s.ls.length<=1048576
 sum:es.length+zl es<=1048576
def pbH (E O:Int) (n:Nat):List Int:=[80,E / 256,E % 256,O / 256,O % 256,n]
def pbI (es:List El):List Int:=es.flatMap (fun e=>[e.n,(e.ls.length:Int)])
def pbB (es:List El):List Int:=es.flatMap (fun e=>e.ls)
def pkL (E O:Int) (es:List El):List Int:=pbH E O es.length++pbI es++pbB es++List.replicate (256-szP es) 0
structure PbR (E O:Int) (es:List El):Prop where
 e:0<=E/\E<=60000
 o:0<=O/\O<=60000
 n:es.length<=16
 r:∀ k,k<es.length->(0<=(es.getD k de).n/\(es.getD k de).n<16)/\(es.getD k de).ls.length<=65
 z:szP es<=256
end Go.Proofs.YtjmcjbmjgpponaaGreatDoor
