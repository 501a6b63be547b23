/- Lemmas on the way. -/
import Derived.Test.YtaibkchbkedjnaaGreatDoorDcY
import Derived.Test.YtaibkchbkedjnaaGreatDoorL5R
import Derived.Test.YtaibkchbkedjnaaGreatDoorBox2
import Derived.Test.YtaibkchbkedjnaaGreatDoorElD
set_option maxRecDepth 20000
set_option maxHeartbeats 16000000
namespace Go.Proofs.YtaibkchbkedjnaaGreatDoor
open Go.RowKit
set_option linter.unusedVariables false
set_option linter.unusedSimpArgs false
def DcA (Y:Option (List Int)) (w:World) (e:Ending) (w':World):Prop:=Below w.heap.size w w' ∧
 ((∃ bs v,Y=some bs∧OVB w' w.heap.size v bs∧e=.returned (.tuple #[v,.bool true]))∨(Y=none∧∃ v,e=.returned (.tuple #[v,.bool false])))
def DcE (Y:Option (List Int)) (w:World) (e:Ending) (w':World):Prop:=Below w.heap.size w w' ∧
 ((∃ bs v,Y=some bs∧OVB w' w.heap.size v bs∧e=.returned (.tuple #[v,.bool true]))∨(Y=none∧e=.returned (.tuple #[.slice none 0 0,.bool false])))
def DecW (xs:List Int) (Y:Option (List Int)):Prop:=(∀ bs,Y=some bs→bs.length=64∧2≤xs.length∧xs.length≤65) ∧
 (∀ (a:Option Addr) (cap:Nat) (w:World),xs.length≤cap→Byt w a xs→Calls Tryz.prog 82 #[.slice a xs.length cap] w (DcA Y w)) ∧
 (∀ (a:Option Addr) (cap:Nat) (w:World),xs.length≤cap→Byt w a xs→SentB w→Calls Tryz.prog 93 #[.slice a xs.length cap] w (DcE Y w))
theorem rbY_unique {o:Option (Nat × Nat)} {m:Nat} {zs bs bs':List Int} (h:RbY o m zs bs) (h':RbY o m zs bs'):bs=bs':=by
 obtain ⟨-,h⟩:=h
 obtain ⟨-,h'⟩:=h'
 rcases h with ⟨e0,rfl⟩ | ⟨e0,-,rfl⟩ | ⟨e0,q,rfl,hy⟩
 ·rcases h' with ⟨-,rfl⟩ | ⟨e1,-⟩ | ⟨e1,-⟩
  ·rfl
  ·omega
  ·omega
 ·rcases h' with ⟨e1,-⟩ | ⟨-,-,rfl⟩ | ⟨e1,-⟩
  ·omega
  ·rfl
  ·omega
 ·rcases h' with ⟨e1,-⟩ | ⟨e1,-⟩ | ⟨-,q',hq,hy'⟩
  ·omega
  ·omega
  ·cases hq
   exact hy.unique hy'
theorem DcP.ans {o:Option (Nat × Nat)} {m:Nat} {zs:List Int} {w w':World} {e:Ending} {Y:Option (List Int)} (hy:∀ bs,RbY o m zs bs→Y=some bs) (hn:(¬∃ bs,RbY o m zs bs)→Y=none) (h:DcP o m zs w e w'):DcA Y w e w':=by
 obtain ⟨hb,⟨bs,v,h1,h2,h3⟩ | ⟨h1,v,h3⟩⟩:=h
 ·exact ⟨hb,.inl ⟨bs,v,hy bs h1,h2,h3⟩⟩
 ·exact ⟨hb,.inr ⟨hn h1,v,h3⟩⟩
theorem decW (xs:List Int) (hl:xs.length≤1048576) (hr:∀ z ∈ xs,0≤z∧z≤255):∃ Y,DecW xs Y:=by
 by_cases h2:xs.length<2∨65<xs.length
 ·refine ⟨none,⟨fun bs h=>(by cases h),?_,?_⟩⟩
  ·intro a cap w hc hb
   refine (l5decode_no a cap xs.length w h2).mono ?_
   rintro e w' ⟨rfl,rfl⟩
   exact ⟨Below.refl _ _,.inr ⟨rfl,_,rfl⟩⟩
  ·intro a cap w hc hb hS
   refine (decodeI_no a cap xs.length w h2 hS).mono ?_
   rintro e w' ⟨hb',rfl⟩
   exact ⟨hb',.inr ⟨rfl,rfl⟩⟩
 ·cases xs with
  | nil=>simp at h2
  | cons x zs=>
   simp only [List.length_cons] at h2
   have h1:1≤zs.length:=by omega
   have h64:zs.length≤64:=by omega
   obtain ⟨m,rfl⟩:=Int.eq_ofNat_of_zero_le (hr x (by simp)).1
   obtain ⟨o,hO⟩:=opnW zs (by omega) (fun z hz=>hr z (by simp [hz]))
   obtain ⟨Y,hY,hN,hYr⟩:∃ Y:Option (List Int),(∀ bs,RbY o m zs bs→Y=some bs)∧((¬∃ bs,RbY o m zs bs)→Y=none)∧(∀ bs,Y=some bs→RbY o m zs bs):=by
    by_cases h:∃ bs,RbY o m zs bs
    ·obtain ⟨bs,hbs⟩:=h
     exact ⟨some bs,fun b hb=>by rw [rbY_unique hbs hb],fun hn=>absurd ⟨bs,hbs⟩ hn,fun b hb=>by cases hb;exact hbs⟩
    ·exact ⟨none,fun b hb=>absurd ⟨b,hb⟩ h,fun _=>rfl,fun b hb=>by cases hb⟩
   refine ⟨Y,⟨fun bs hbs=>⟨(hYr bs hbs).1,by simp only [List.length_cons];omega,by simp only [List.length_cons];omega⟩,?_,?_⟩⟩
   ·intro a cap w hc hb
    simp only [List.length_cons] at hc ⊢
    have key:Calls Tryz.prog 82 #[.slice a (zs.length+1) cap] w (DcP o m zs w):=by
     have cs:m=0∨m=1∨m=2∨m=3∨4≤m:=by omega
     rcases cs with rfl | rfl | rfl | rfl | h4
     ·exact l5decode_raw a cap zs o w hb h1 h64 hc
     ·exact l5decode_run a cap zs o w hb h1 h64 hc
     ·cases o with
      | none=>exact l5decode_symN a cap 2 zs w (.inl rfl) hb h1 h64 hc hO
      | some q=>exact l5decode_sym2 a cap zs q.1 q.2 w hb h1 h64 hc hO rdC
     ·cases o with
      | none=>exact l5decode_symN a cap 3 zs w (.inr rfl) hb h1 h64 hc hO
      | some q=>exact l5decode_sym3 a cap zs q.1 q.2 w hb h1 h64 hc hO rdC
     ·exact l5decode_other a cap m zs o w hb h1 h64 h4
    exact key.mono fun e w' h=>h.ans hY hN
   ·intro a cap w hc hb hS
    simp only [List.length_cons] at hc ⊢
    refine (decodeI_any a cap m zs o w hb h1 h64 hc hO hS).mono ?_
    rintro e w' ⟨hb',⟨bs,v,h1,h2,h3⟩ | ⟨h1,h3⟩⟩
    ·exact ⟨hb',.inl ⟨bs,v,hY bs h1,h2,h3⟩⟩
    ·exact ⟨hb',.inr ⟨hN h1,h3⟩⟩
def DecF (f:List Int→Option (List Int)):Prop:=∀ ls:List Int,ls.length≤1048576→(∀ z ∈ ls,0≤z∧z≤255)→DecW ls (f ls)
theorem decF_ex :∃ f,DecF f:=by
 have h:∀ ls:List Int,∃ Y,(ls.length≤1048576∧∀ z ∈ ls,0≤z∧z≤255)→DecW ls Y:=by
  intro ls
  by_cases hg:ls.length≤1048576∧∀ z ∈ ls,0≤z∧z≤255
  ·obtain ⟨Y,hY⟩:=decW ls hg.1 hg.2
   exact ⟨Y,fun _=>hY⟩
  ·exact ⟨none,fun h=>absurd h hg⟩
 obtain ⟨f,hf⟩:=Classical.skolem.1 h
 exact ⟨f,fun ls h1 h2=>hf ls ⟨h1,h2⟩⟩
structure FewJ (es:List El):Prop where
 n:es.length≤1048576
 l:∀ s ∈ es,s.ls.length≤1048576
 s:elets es≤1048576
def itOk (f:List Int→Option (List Int)) (e:El):Prop:=(0≤e.n∧e.n<16)∧(e.ls=[]∨(f e.ls).isSome=true)
def apT (f:List Int→Option (List Int)) (es:List El) (k:Nat):Prop:=∀ i,i<k→itOk f (es.getD i de)∧∀ j,j<i→(es.getD j de).n≠(es.getD i de).n
def szP (es:List El):Nat:=6+2*es.length+elets es
structure PkR (f:List Int→Option (List Int)) (E O:Int) (es:List El):Prop where
 e0:0≤E
 e1:E≤60000
 o0:0≤O
 o1:O≤60000
 n:es.length≤16
 ap:apT f es es.length
 sz:szP es≤256
theorem apT_succ {f:List Int→Option (List Int)} {es:List El} {k:Nat} (h:apT f es k) (h1:itOk f (es.getD k de)) (h2:∀ j,j<k→(es.getD j de).n≠(es.getD k de).n):apT f es (k+1):=by
 intro i hi
 by_cases e:i=k
 ·subst e;exact ⟨h1,h2⟩
 ·exact h i (by omega)
theorem apT_zero (f:List Int→Option (List Int)) (es:List El):apT f es 0:=fun i hi=>by omega
theorem itOk_ct {f:List Int→Option (List Int)} {e e':El} (h:e.ct=e'.ct):itOk f e↔itOk f e':=by
 obtain ⟨n,a,c,ls⟩:=e
 obtain ⟨n',a',c',ls'⟩:=e'
 simp only [El.ct,Prod.mk.injEq] at h
 obtain ⟨rfl,rfl⟩:=h
 exact Iff.rfl
theorem n_ct {es ts:List El} (h:es.map El.ct=ts.map El.ct) (k:Nat):(es.getD k de).n=(ts.getD k de).n:=by
 have:=congrArg Prod.fst (ctE_get h k)
 exact this
theorem apT_ct {f:List Int→Option (List Int)} {es ts:List El} (h:es.map El.ct=ts.map El.ct) (k:Nat) (ha:apT f es k):apT f ts k:=by
 intro i hi
 obtain ⟨h1,h2⟩:=ha i hi
 refine ⟨(itOk_ct (ctE_get h i)).1 h1,fun j hj=>?_⟩
 rw [←n_ct h j,←n_ct h i]
 exact h2 j hj
theorem PkR.ct {f:List Int→Option (List Int)} {E O:Int} {es ts:List El} (h:es.map El.ct=ts.map El.ct) (hp:PkR f E O es):PkR f E O ts:=by
 have hl:=len_ctE h
 refine ⟨hp.e0,hp.e1,hp.o0,hp.o1,by rw [←hl];exact hp.n,by rw [←hl];exact apT_ct h _ hp.ap,?_⟩
 have:=hp.sz
 unfold szP at *
 rw [←hl,←elets_ct es ts h]
 exact this
theorem apT_short {f:List Int→Option (List Int)} (hf:DecF f) {es:List El} {k:Nat} (ha:apT f es k) (hk:k≤es.length) (hl:∀ e ∈ es,e.ls.length≤1048576) (hr:∀ e ∈ es,∀ z ∈ e.ls,0≤z∧z≤255):∀ i,i<k→(es.getD i de).ls.length≤65:=by
 intro i hi
 have hm:=getD_memE (es:=es) (k:=i) (by omega)
 rcases (ha i hi).1.2 with h | h
 ·rw [h];simp
 ·obtain ⟨bs,hbs⟩:=Option.isSome_iff_exists.1 h
  exact ((hf _ (hl _ hm) (hr _ hm)).1 bs hbs).2.2
theorem epochOk_any (x:Int) (w:World) :
  Calls Tryz.prog 88 #[.int .i64 x] w fun e w'=>e=.returned (.bool (decide (0≤x∧x≤60000)))∧w'=w:=by
 have key:(0≤x∧x≤60000)∨¬0≤x∨(0≤x∧¬x≤60000):=by omega
 rcases key with ⟨h1,h2⟩ | h1 | ⟨h1,h2⟩
 ·rw [decide_eq_true ⟨h1,h2⟩]
  go_enter Tryz.func88,Tryz.ntmps88
  go_wp2
  go_ret
  exact ⟨by simp [h1,h2],rfl⟩
 ·rw [decide_eq_false (fun hh=>h1 hh.1)]
  go_enter Tryz.func88,Tryz.ntmps88
  go_wp2
  go_ret
  exact ⟨by simp [h1],rfl⟩
 ·rw [decide_eq_false (fun hh=>h2 hh.2)]
  go_enter Tryz.func88,Tryz.ntmps88
  go_wp2
  go_ret
  exact ⟨by simp [h1,h2],rfl⟩
theorem itemRight_any (f:List Int→Option (List Int)) (hf:DecF f) (n:Int) (a:Option Addr) (c:Nat) (ls:List Int) (w:World) (hb:Byt w a ls) (hc:ls.length≤c) (hl:ls.length≤1048576) (hS:SentB w) :
  Calls Tryz.prog 184 #[.agg #[.int .i64 n,.slice a ls.length c]] w fun r w'=>((itOk f ⟨n,a,c,ls⟩∧r=.returned (.bool true))∨(¬itOk f ⟨n,a,c,ls⟩∧r=.returned (.bool false)))∧Below w.heap.size w w':=by
 have hw:Below w.heap.size w (w.alloc (Obj.cells #[.int .i64 n,.slice a ls.length c] 113)):=ba
 have HD:=(hf ls hl hb.1).2.2 a c _ hc (hb.below hw nl) (hS.below hw)
 have HI:Hid (itOk f ⟨n,a,c,ls⟩↔(0≤n∧n<16)∧(ls=[]∨(f ls).isSome=true)):=Iff.rfl
 generalize itOk f ⟨n,a,c,ls⟩=I at *
 clear hb hS
 go_enter Tryz.func184,Tryz.ntmps184
 by_cases h0:n<0
 ·go_wp2
  go_ret
  exact ⟨.inr ⟨fun h=>by have:=HI.out.1 h;omega,rfl⟩,hw⟩
 ·by_cases h1:(16:Int)≤n
  ·go_wp2
   go_ret
   exact ⟨.inr ⟨fun h=>by have:=HI.out.1 h;omega,rfl⟩,hw⟩
  ·by_cases h2:ls.length=0
   ·have h2':(ls.length:Int)=0:=by omega
    have HN:Hid (I):=HI.out.2 ⟨by omega,.inl (List.eq_nil_of_length_eq_zero h2)⟩
    clear HD
    go_wp2
    go_ret
    exact ⟨.inl ⟨HN.out,rfl⟩,(Below.refl _ _).alloc nl _⟩
   ·have h2':¬((ls.length:Int)=0):=by omega
    have HN:Hid (I↔(f ls).isSome=true):=by
     constructor
     ·intro h
      rcases (HI.out.1 h).2 with h | h
      ·exact absurd (by rw [h];rfl) h2
      ·exact h
     ·intro h
      exact HI.out.2 ⟨by omega,.inr h⟩
    go_wp2_with fail
    refine HD.mono ?_
    clear HD
    rintro e w1 ⟨hb1,⟨bs,v,hy,hov,rfl⟩ | ⟨hy,rfl⟩⟩
    ·obtain ⟨va,vc,rfl⟩:=hov.form
     have HB1:Hid (Below w.heap.size w w1∧I):=⟨hw.trans (hb1.mono (by simp)),HN.out.2 (by rw [hy];rfl)⟩
     clear hb1 hy hov hw
     go_wp2
     go_ret
     exact ⟨.inl ⟨HB1.out.2,rfl⟩,HB1.out.1⟩
    ·have HB1:Hid (Below w.heap.size w w1∧¬I):=⟨hw.trans (hb1.mono (by simp)),fun h=>by have:=HN.out.1 h;rw [hy] at this;cases this⟩
     clear hb1 hy hw
     go_wp2
     go_ret
     exact ⟨.inr ⟨HB1.out.2,rfl⟩,HB1.out.1⟩
theorem packSizeI_any (E O:Int) (a:Option Addr) (cap:Nat) (es:List El) (w:World) (hb:Els true w a es) (hn:es.length≤1048576) (hl:elets es≤1048576) :
  Calls Tryz.prog 165 #[.agg #[.int .i64 E,.int .i64 O,.slice a es.length cap]] w fun r w'=>r=.returned (.int .i64 (szP es:Nat))∧Below w.heap.size w w':=by
 have HB:Hid (Els true w a es):=hb
 have HSZ:Hid (szP es=6+2*es.length+elets es∧elets (es.take es.length)=elets es):=⟨rfl,by rw [List.take_length]⟩
 have HLE:Hid (∀ k,elets (es.take k)≤elets es):=elets_take_le es
 clear hb
 generalize szP es=Z at *
 generalize hlen:es.length=n at *
 have HL:Hid (es.length=n∧True):=⟨hlen,trivial⟩
 clear hlen
 have hw:Below w.heap.size w (w.alloc (Obj.cells #[.int .i64 E,.int .i64 O,.slice a n cap] 47)):=ba
 go_enter Tryz.func165,Tryz.ntmps165
 go_wp2
 go_loopw [3,9] (fun s i wr=>∃ (k z:Nat),k≤n∧i=.int .i64 k∧s=.int .i64 z∧z=6+2*k+elets (es.take k)∧Below w.heap.size w wr) (fun _ i _=>n-(intOf i).toNat)
 case atStart=>exact ⟨0,6,Nat.zero_le _,rfl,rfl,by simp [elets],hw⟩
 case round=>
  obtain ⟨k,z,hk,rfl,rfl,hz,hbel⟩:=hrel
  have HZ:Hid (z=6+2*k+elets (es.take k)∧True):=⟨hz,trivial⟩
  have hzb:z≤4000000:=by have:=HLE.out k;omega
  clear hz
  by_cases hlt:k<n
  ·obtain ⟨b,off,rfl,hb1,c0,c1,hby,hrg⟩:=(HB.out.below hbel nl).pen k (by rw [HL.out.1];exact hlt)
   have HT:Hid (elets (es.take (k+1))=elets (es.take k)+(es.getD k de).ls.length∧(es.getD k de).ls.length≤1048576):=⟨elets_take_succ es k (by rw [HL.out.1];exact hlt),by have:=elets_mem (getD_memE (es:=es) (k:=k) (by rw [HL.out.1];exact hlt));omega⟩
   generalize es.getD k de=s at *
   obtain ⟨sn,sa,sc,sl⟩:=s
   simp only at c0 c1 HT
   have hsl:sl.length≤1048576:=HT.out.2
   have HZ2:Hid (z+(2+sl.length)=6+2*(k+1)+elets (es.take (k+1))∧True):=⟨by have h1:=HZ.out.1;have h2:=HT.out.1;omega,trivial⟩
   have HBW:Hid (Below w.heap.size w wr):=hbel
   clear hby hrg hbel
   go_wp2
   go_roundw
   case rel=>exact ⟨k+1,z+(2+sl.length),by omega,by go_num,by go_num,HZ2.out.1,HBW.out.alloc (by have:=HBW.out.size;omega) _⟩
   case measure=>simp [intOf];omega
  ·have hkn:k=n:=by omega
   subst hkn
   have HZ2:Hid (z=Z∧True):=⟨by have h1:=HZ.out.1;have h2:=HSZ.out;omega,trivial⟩
   go_wp2
   go_ret
   exact ⟨by rw [←HZ2.out.1];rfl,hbel⟩
def ThB (W:World) (X:Nat) (es:List El) (k:Nat):Prop:=X<W.heap.size∧∀ i:Nat,i<16→W.frozen? ⟨X,i,none⟩=false∧∃ t,W.cell? ⟨X,i,none⟩=some (.bool t)∧(t=true↔∃ j,j<k∧(es.getD j de).n=(i:Nat))
theorem ThB.below {W W':World} {X:Nat} {es:List El} {k:Nat} (h:ThB W X es k) (hb:Below W.heap.size W W'):ThB W' X es k:=
 ⟨Nat.lt_of_lt_of_le h.1 hb.size,fun i hi=>⟨(hb.frozen (p:=⟨X,i,none⟩) h.1).trans (h.2 i hi).1,by
  obtain ⟨t,h1,h2⟩:=(h.2 i hi).2
  exact ⟨t,keep hb h.1 h1,h2⟩⟩⟩
theorem ThB.put {W:World} {X q:Nat} {es:List El} {k:Nat} (h:ThB W X es k) (hq:(es.getD k de).n=(q:Nat)) (hq16:q<16):ThB (W.setCell ⟨X,q,none⟩ (.bool true)) X es (k+1):=by
 refine ⟨by simpa using h.1,fun i hi=>⟨by have:=(h.2 i hi).1;simpa using this,?_⟩⟩
 obtain ⟨t,h1,h2⟩:=(h.2 i hi).2
 by_cases e:i=q
 ·subst e
  exact ⟨true,World.cell?_setCell_same W _ _ h1,by simpa using ⟨k,by omega,hq⟩⟩
 ·refine ⟨t,(World.cell?_setCell_other W _ _ _ (by simp <;> omega)).trans h1,h2.trans ⟨?_,?_⟩⟩
  ·rintro ⟨j,h3,h4⟩
   exact ⟨j,by omega,h4⟩
  ·rintro ⟨j,h3,h4⟩
   by_cases e2:j=k
   ·subst e2
    rw [hq] at h4
    exact absurd (by omega) e
   ·exact ⟨j,by omega,h4⟩
theorem ThB.new (W:World) (T:TypeId) (es:List El):ThB (W.alloc (Obj.cells #[.bool false,.bool false,.bool false,.bool false,.bool false,.bool false,.bool false,.bool false,.bool false,.bool false,.bool false,.bool false,.bool false,.bool false,.bool false,.bool false] T)) W.heap.size es 0:=by
 refine ⟨by simp,fun i hi=>⟨by simp,false,?_,by simp⟩⟩
 have h:i=0∨i=1∨i=2∨i=3∨i=4∨i=5∨i=6∨i=7∨i=8∨i=9∨i=10∨i=11∨i=12∨i=13∨i=14∨i=15:=by omega
 rcases h with rfl | rfl | rfl | rfl | rfl | rfl | rfl | rfl | rfl | rfl | rfl | rfl | rfl | rfl | rfl | rfl <;> simp
theorem itemsApart_any (f:List Int→Option (List Int)) (hf:DecF f) (E O:Int) (a:Option Addr) (cap:Nat) (es:List El) (w:World) (hb:ItI w a es) (hx:FewJ es) (hS:SentB w) :
  Calls Tryz.prog 164 #[.agg #[.int .i64 E,.int .i64 O,.slice a es.length cap]] w fun r w'=>((apT f es es.length∧r=.returned (.bool true))∨(¬apT f es es.length∧r=.returned (.bool false)))∧Below w.heap.size w w':=by
 have HB:Hid (ItI w a es∧FewJ es∧SentB w∧DecF f):=⟨hb,hx,hS,hf⟩
 have hn:=hx.n
 clear hb hx hS hf
 generalize hlen:es.length=n at *
 have HL:Hid (es.length=n∧True):=⟨hlen,trivial⟩
 clear hlen
 have hw:Below w.heap.size w (w.alloc (Obj.cells #[.int .i64 E,.int .i64 O,.slice a n cap] 47)):=ba
 go_enter Tryz.func164,Tryz.ntmps164
 have hT0:=ThB.new (w.alloc (Obj.cells #[.int .i64 E,.int .i64 O,.slice a n cap] 47)) 249 es
 simp only [World.size_alloc] at hT0
 have HT0:Hid _:=hT0
 clear hT0
 go_wp2
 go_loopw [9] (fun i wr=>∃ k:Nat,k≤n∧i=.int .i64 k∧apT f es k∧ThB wr (w.heap.size+1) es k∧Below w.heap.size w wr) (fun i _=>n-(intOf i).toNat)
 case atStart=>exact ⟨0,Nat.zero_le _,rfl,apT_zero f es,HT0.out,hw.alloc (by simp) _⟩
 case round=>
  clear HT0 hw
  obtain ⟨k,hk,rfl,hap,hth,hbel⟩:=hrel
  have HAP:Hid (apT f es k∧ThB wr (w.heap.size+1) es k∧Below w.heap.size w wr):=⟨hap,hth,hbel⟩
  clear hap hth
  by_cases hlt:k<n
  ·obtain ⟨b,off,rfl,hb1,c0,c1,hby,hrg⟩:=(HB.out.1.els.below hbel nl).pen k (by rw [HL.out.1];exact hlt)
   have hmem:=getD_memE (es:=es) (k:=k) (by rw [HL.out.1];exact hlt)
   have hcp:=HB.out.1.cap _ hmem
   have hll:=HB.out.2.1.l _ hmem
   have HE:Hid (∃ s,es.getD k de=s∧True):=⟨_,rfl,trivial⟩
   generalize hs:es.getD k de=s at *
   obtain ⟨sn,sa,sc,sl⟩:=s
   simp only at c0 c1 hcp hll hby
   have HS:Hid (es.getD k de=⟨sn,sa,sc,sl⟩∧True):=⟨hs,trivial⟩
   have hbx:Below wr.heap.size wr (wr.alloc (Obj.cells #[.int .i64 sn,.slice sa sl.length sc] 113)):=ba
   have hbw:Below w.heap.size w (wr.alloc (Obj.cells #[.int .i64 sn,.slice sa sl.length sc] 113)):=hbel.trans (hbx.mono hbel.size)
   have HIT:=itemRight_any f HB.out.2.2.2 sn sa sc sl _ (hby.below hbx nl) hcp hll (HB.out.2.2.1.below hbw)
   have q0:(wr.alloc (Obj.cells #[.int .i64 sn,.slice sa sl.length sc] 113)).cell? ⟨wr.heap.size,0,none⟩=some (.int .i64 sn):=by simp
   have HQ:Hid (ThB (wr.alloc (Obj.cells #[.int .i64 sn,.slice sa sl.length sc] 113)) (w.heap.size+1) es k∧Below w.heap.size w (wr.alloc (Obj.cells #[.int .i64 sn,.slice sa sl.length sc] 113))∧wr.heap.size<(wr.alloc (Obj.cells #[.int .i64 sn,.slice sa sl.length sc] 113)).heap.size):=⟨HAP.out.2.1.below hbx,hbw,by simp⟩
   clear hmem hcp hll hby hrg hs hbx hbw HE
   go_wp2_with fail
   generalize wr.alloc (Obj.cells #[.int .i64 sn,.slice sa sl.length sc] 113)=W at *
   refine HIT.mono ?_
   clear HIT
   rintro e w2 ⟨⟨hit,rfl⟩ | ⟨hit,rfl⟩,hb2⟩
   ·obtain ⟨q,hq⟩:=Int.eq_ofNat_of_zero_le hit.1.1
    have hq16:=hit.1.2
    simp only at hq hq16
    have hq0:(0:Int)≤sn:=hit.1.1
    subst hq
    have hth2:ThB w2 (w.heap.size+1) es k:=HQ.out.1.below hb2
    obtain ⟨hfz,t,hct,hti⟩:=hth2.2 q (by omega)
    have p0:w2.cell? ⟨wr.heap.size,0,none⟩=some (.int .i64 (q:Nat)):=keep hb2 HQ.out.2.2 q0
    have HW2:Hid (ThB w2 (w.heap.size+1) es k∧Below w.heap.size w w2∧itOk f ⟨(q:Nat),sa,sc,sl⟩∧(t=true↔∃ j,j<k∧(es.getD j de).n=(q:Nat))):=⟨hth2,HQ.out.2.1.trans (hb2.mono HQ.out.2.1.size),hit,hti⟩
    clear hth2 hb2 hit hti q0 c0 c1
    cases t with
    | true=>
     have HNO:Hid (¬apT f es n):=by
      intro h
      obtain ⟨j,hj,hn2⟩:=HW2.out.2.2.2.1 rfl
      refine (h k hlt).2 j hj ?_
      rw [hn2,HS.out.1]
     go_wp2
     go_ret
     exact ⟨.inr ⟨HNO.out,rfl⟩,HW2.out.2.1⟩
    | false=>
     have HN:Hid (apT f es (k+1)∧ThB (w2.setCell ⟨w.heap.size+1,q,none⟩ (.bool true)) (w.heap.size+1) es (k+1)∧Below w.heap.size w (w2.setCell ⟨w.heap.size+1,q,none⟩ (.bool true))):=by
      refine ⟨apT_succ HAP.out.1 (by rw [HS.out.1];exact HW2.out.2.2.1) ?_,HW2.out.1.put (by rw [HS.out.1]) (by omega),HW2.out.2.1.setCell (by simp) _⟩
      intro j hj e
      rw [HS.out.1] at e
      have:=HW2.out.2.2.2.2 ⟨j,hj,e⟩
      cases this
     go_wp2
     go_roundw
     case rel=>exact ⟨k+1,by omega,by go_num,HN.out.1,by simpa using HN.out.2.1,by simpa using HN.out.2.2⟩
     case measure=>simp [intOf];omega
   ·have HNO:Hid (¬apT f es n∧Below w.heap.size w w2):=by
     refine ⟨fun h=>hit ?_,HQ.out.2.1.trans (hb2.mono HQ.out.2.1.size)⟩
     have:=(h k hlt).1
     rw [HS.out.1] at this
     exact this
    clear hb2 hit q0 c0 c1
    go_wp2
    go_ret
    exact ⟨.inr ⟨HNO.out.1,rfl⟩,HNO.out.2⟩
  ·have hkn:k=n:=by omega
   subst hkn
   go_wp2
   go_ret
   exact ⟨.inl ⟨HAP.out.1,rfl⟩,HAP.out.2.2⟩
theorem implPackOk_any (f:List Int→Option (List Int)) (hf:DecF f) (E O:Int) (a:Option Addr) (cap:Nat) (es:List El) (w:World) (hb:ItI w a es) (hx:FewJ es) (hS:SentB w) :
  Calls Tryz.prog 130 #[.agg #[.int .i64 E,.int .i64 O,.slice a es.length cap]] w fun r w'=>((PkR f E O es∧r=.returned (.bool true))∨(¬PkR f E O es∧r=.returned (.bool false)))∧Below w.heap.size w w':=by
 have hw:Below w.heap.size w (w.alloc (Obj.cells #[.int .i64 E,.int .i64 O,.slice a es.length cap] 47)):=ba
 have HX:Box3 (w.alloc (Obj.cells #[.int .i64 E,.int .i64 O,.slice a es.length cap] 47)) w.heap.size _ _ _:=Box3.new w (.int .i64 E) (.int .i64 O) (.slice a es.length cap) 47
 have HIA:=itemsApart_any f hf E O a cap es _ (hb.below hw nl) hx (hS.below hw)
 have HB:Hid (ItI w a es∧FewJ es):=⟨hb,hx⟩
 have HP:Hid (PkR f E O es↔(0≤E∧E≤60000)∧(0≤O∧O≤60000)∧es.length≤16∧apT f es es.length∧szP es≤256):=
  ⟨fun h=>⟨⟨h.e0,h.e1⟩,⟨h.o0,h.o1⟩,h.n,h.ap,h.sz⟩,fun h=>⟨h.1.1,h.1.2,h.2.1.1,h.2.1.2,h.2.2.1,h.2.2.2.1,h.2.2.2.2⟩⟩
 generalize PkR f E O es=PK at *
 generalize apT f es es.length=AP at *
 have hszb:szP es≤4000000:=by have:=hx.n;have:=hx.s;unfold szP;omega
 have hn2:=hx.n
 clear hb hx hS
 by_cases hE:0≤E∧E≤60000
 ·by_cases hO:0≤O∧O≤60000
  ·by_cases h16:es.length≤16
   ·have g16:¬((16:Int)<(es.length:Int)):=by omega
    go_enter Tryz.func130,Tryz.ntmps130
    obtain ⟨r0,r1,r2,-,-,-,rl⟩:=HX
    go_wp2_with fail
    generalize w.alloc (Obj.cells #[.int .i64 E,.int .i64 O,.slice a es.length cap] 47)=W at *
    refine (epochOk_any E _).mono ?_
    rintro e w1 ⟨rfl,rfl⟩
    rw [decide_eq_true hE]
    go_wp2_with fail
    refine (epochOk_any O _).mono ?_
    rintro e w2 ⟨rfl,rfl⟩
    rw [decide_eq_true hO]
    go_wp2_with fail
    refine HIA.mono ?_
    clear HIA
    rintro e w3 ⟨⟨hap,rfl⟩ | ⟨hap,rfl⟩,hb3⟩
    ·have HW3:Hid (Below w.heap.size w w3∧AP):=⟨hw.trans (hb3.mono (by have:=hw.size;omega)),hap⟩
     have s0:=keep hb3 rl r0
     have s1:=keep hb3 rl r1
     have s2:=keep hb3 rl r2
     have HSZ:=packSizeI_any E O a cap es w3 (HB.out.1.els.below HW3.out.1 nl) (by omega) HB.out.2.s
     clear hap hb3 r0 r1 r2 rl
     go_wp2_with fail
     refine HSZ.mono ?_
     clear HSZ
     rintro e w4 ⟨rfl,hb4⟩
     have HW4:Hid (Below w.heap.size w w4):=HW3.out.1.trans (hb4.mono HW3.out.1.size)
     clear hb4 s0 s1 s2
     by_cases hz:szP es≤256
     ·have HR:Hid PK:=HP.out.2 ⟨hE,hO,h16,HW3.out.2,hz⟩
      generalize szP es=Z at *
      have hz2:decide ((Z:Int)≤256)=true:=by simp;omega
      go_wp2
      go_ret
      exact ⟨.inl ⟨HR.out,by simp [hz2] <;> omega⟩,HW4.out⟩
     ·have HR:Hid (¬PK):=fun h=>hz (HP.out.1 h).2.2.2.2
      generalize szP es=Z at *
      have hz2:decide ((Z:Int)≤256)=false:=by simp;omega
      go_wp2
      go_ret
      exact ⟨.inr ⟨HR.out,by simp [hz2] <;> omega⟩,HW4.out⟩
    ·have HW3:Hid (Below w.heap.size w w3∧¬PK):=⟨hw.trans (hb3.mono (by have:=hw.size;omega)),fun h=>hap (HP.out.1 h).2.2.2.1⟩
     clear hap hb3 r0 r1 r2 rl
     go_wp2
     go_ret
     exact ⟨.inr ⟨HW3.out.2,rfl⟩,HW3.out.1⟩
   ·have g16:(16:Int)<(es.length:Int):=by omega
    have HR:Hid (¬PK):=fun h=>h16 (HP.out.1 h).2.2.1
    go_enter Tryz.func130,Tryz.ntmps130
    clear HIA HX
    go_wp2_with fail
    refine (epochOk_any E _).mono ?_
    rintro e w1 ⟨rfl,rfl⟩
    rw [decide_eq_true hE]
    go_wp2_with fail
    refine (epochOk_any O _).mono ?_
    rintro e w2 ⟨rfl,rfl⟩
    rw [decide_eq_true hO]
    go_wp2
    go_ret
    exact ⟨.inr ⟨HR.out,rfl⟩,hw⟩
  ·have HR:Hid (¬PK):=fun h=>hO (HP.out.1 h).2.1
   go_enter Tryz.func130,Tryz.ntmps130
   clear HIA HX
   go_wp2_with fail
   refine (epochOk_any E _).mono ?_
   rintro e w1 ⟨rfl,rfl⟩
   rw [decide_eq_true hE]
   go_wp2_with fail
   refine (epochOk_any O _).mono ?_
   rintro e w2 ⟨rfl,rfl⟩
   rw [decide_eq_false hO]
   go_wp2
   go_ret
   exact ⟨.inr ⟨HR.out,rfl⟩,hw⟩
 ·have HR:Hid (¬PK):=fun h=>hE (HP.out.1 h).1
  go_enter Tryz.func130,Tryz.ntmps130
  clear HIA HX
  go_wp2_with fail
  refine (epochOk_any E _).mono ?_
  rintro e w1 ⟨rfl,rfl⟩
  rw [decide_eq_false hE]
  go_wp2
  go_ret
  exact ⟨.inr ⟨HR.out,rfl⟩,hw⟩
end Go.Proofs.YtaibkchbkedjnaaGreatDoor
