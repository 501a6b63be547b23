import Derived.Test.YtkomjdjfknpinaaGreatDoorFrS
import Derived.Test.YtkomjdjfknpinaaGreatDoorRp6
import Derived.Test.YtkomjdjfknpinaaGreatDoorRwRdI
set_option maxRecDepth 20000
set_option maxHeartbeats 16000000
namespace Go.Proofs.YtkomjdjfknpinaaGreatDoor
open Go.RowKit
set_option linter.unusedVariables false
set_option linter.unusedSimpArgs false
theorem za2 (a:Option Addr) (cap:Nat) (ps:List (Int × Int)) (x:Int) (w:World) (hb:Pls w a ps) (hn:ps.length<=1048576) :
  Calls Tryz.prog 94 #[.agg #[.slice a ps.length cap],.int .i64 x] w fun e w'=>e=.returned (.tuple #[.agg #[.int .i64 (gtP ps x).1,.int .i64 (gtP ps x).2],.bool (gtB ps x)])/\Below w.heap.size w w':=by
 have hw:Below w.heap.size w ((w.alloc (Obj.cells #[.slice a ps.length cap] 43)).alloc (Obj.cells #[.int .i64 0,.int .i64 0] 93)):=((Below.refl _ _).alloc nl _).alloc (by simp) _
 have e1:(w.alloc (Obj.cells #[.slice a ps.length cap] 43)).heap.size=w.heap.size+1:=by simp
 have t0:((w.alloc (Obj.cells #[.slice a ps.length cap] 43)).alloc (Obj.cells #[.int .i64 0,.int .i64 0] 93)).cell? ⟨w.heap.size+1,0,none⟩=some (.int .i64 0):=by rw [<-e1];simp
 have t1:((w.alloc (Obj.cells #[.slice a ps.length cap] 43)).alloc (Obj.cells #[.int .i64 0,.int .i64 0] 93)).cell? ⟨w.heap.size+1,1,none⟩=some (.int .i64 0):=by rw [<-e1];simp
 have f0:((w.alloc (Obj.cells #[.slice a ps.length cap] 43)).alloc (Obj.cells #[.int .i64 0,.int .i64 0] 93)).frozen? ⟨w.heap.size+1,0,none⟩=false:=by rw [<-e1];simp
 have f1:((w.alloc (Obj.cells #[.slice a ps.length cap] 43)).alloc (Obj.cells #[.int .i64 0,.int .i64 0] 93)).frozen? ⟨w.heap.size+1,1,none⟩=false:=by rw [<-e1];simp
 have tl:w.heap.size+1<((w.alloc (Obj.cells #[.slice a ps.length cap] 43)).alloc (Obj.cells #[.int .i64 0,.int .i64 0] 93)).heap.size:=by simp
 have HAT:=z6q a cap ps _ (hb.below hw nl) hn;clear e1;have HB:Hid (Pls w a ps):=hb;clear hb
 go_enter Tryz.func94,Tryz.ntmps94
 go_wp2_with fail
 refine HAT.mono ?_;clear HAT;generalize (w.alloc (Obj.cells #[.slice a ps.length cap] 43)).alloc (Obj.cells #[.int .i64 0,.int .i64 0] 93)=W at *;rintro e w1 ⟨hr,hb1⟩;have r0:=keep hb1 tl t0;have r1:=keep hb1 tl t1;have g0:=(hb1.frozen (p:=⟨w.heap.size+1,0,none⟩) tl).trans f0;have g1:=(hb1.frozen (p:=⟨w.heap.size+1,1,none⟩) tl).trans f1;have rl:w.heap.size+1<w1.heap.size:=Nat.lt_of_lt_of_le tl hb1.size
 have HB1:Hid (Below w.heap.size w w1):=hw.trans (hb1.mono hw.size);clear hb1 t0 t1 f0 f1 tl hw;rcases hr with ⟨hm,R,M,rfl,hA,hL,-⟩ | ⟨hm,rfl⟩
 ·have a0:=hA.c0
  have HPO:=z3l a cap ps x w1 (HB.out.below HB1.out nl) hn;have HG:Hid (gtP ps x=z0l ps x/\gtB ps x=!nwh (z0l ps x)):=⟨by unfold gtP;rw [hm];rfl,by unfold gtB;rw [hm];rfl⟩
  clear hm hA hL;generalize z0l ps x=q at *;obtain ⟨y,z⟩:=q
  simp only at HPO
  go_wp2_with fail
  refine HPO.mono ?_;clear HPO;rintro e w2 ⟨rfl,hb2⟩;have hb3:Below w1.heap.size w1 (w2.alloc (Obj.cells #[.int .i64 y,.int .i64 z] 93)):=hb2.alloc hb2.size _;have s0:=keep hb3 rl r0;have s1:=keep hb3 rl r1;have k0:=(hb3.frozen (p:=⟨w.heap.size+1,0,none⟩) rl).trans g0;have k1:=(hb3.frozen (p:=⟨w.heap.size+1,1,none⟩) rl).trans g1;have b0:(w2.alloc (Obj.cells #[.int .i64 y,.int .i64 z] 93)).cell? ⟨w2.heap.size,0,none⟩=some (.int .i64 y):=by simp
  have b1:(w2.alloc (Obj.cells #[.int .i64 y,.int .i64 z] 93)).cell? ⟨w2.heap.size,1,none⟩=some (.int .i64 z):=by simp
  have bl:w2.heap.size<(w2.alloc (Obj.cells #[.int .i64 y,.int .i64 z] 93)).heap.size:=by simp
  have sl:w.heap.size+1<(w2.alloc (Obj.cells #[.int .i64 y,.int .i64 z] 93)).heap.size:=Nat.lt_of_lt_of_le rl hb3.size;have hne:w2.heap.size≠w.heap.size+1:=by have:=hb2.size;omega
  have HB3:Hid (Below w.heap.size w (w2.alloc (Obj.cells #[.int .i64 y,.int .i64 z] 93))):=HB1.out.trans (hb3.mono HB1.out.size);clear hb2 hb3 r0 r1 g0 g1 rl HB1 a0;go_wp2_with fail
  generalize w2.heap.size=Q at *;generalize w2.alloc (Obj.cells #[.int .i64 y,.int .i64 z] 93)=V at *;have HNW:=z4n y z V.drew
  go_region_with (go_at_call 110;refine HNW.mono ?_;rintro e w8 ⟨rfl,hb8'⟩;have hb8:Below V.heap.size V w8:=Below.drewS hb8';have c0:=keep hb8 bl b0;have c1:=keep hb8 bl b1;have u0:=keep hb8 sl s0;have u1:=keep hb8 sl s1;have m0:=(hb8.frozen (p:=⟨w.heap.size+1,0,none⟩) sl).trans k0;have m1:=(hb8.frozen (p:=⟨w.heap.size+1,1,none⟩) sl).trans k1;have HB8:Hid (Below w.heap.size w w8):=HB3.out.trans (hb8.mono HB3.out.size);clear hb8 hb8')
  all_goals
   go_wp2
   refine bodyPost_ret (v:=.tuple #[.agg #[.int .i64 y,.int .i64 z],.bool (!nwh (y,z))]) (by simp [results,Tryz.results94,go_sem,u0,u1]) rfl ⟨by rw [HG.out.1,HG.out.2],?_⟩
   exact (HB8.out.setCell (p:=⟨w.heap.size+1,0,none⟩) (by simp) _).setCell (p:=⟨w.heap.size+1,1,none⟩) (by simp) _
 ·have HG:Hid (gtP ps x=dp/\gtB ps x=false):=⟨by unfold gtP;rw [hm];rfl,by unfold gtB;rw [hm];rfl⟩
  clear hm;go_wp2;refine bodyPost_ret (v:=.tuple #[.agg #[.int .i64 0,.int .i64 0],.bool false]) (by simp [results,Tryz.results94,go_sem,r0,r1]) rfl ⟨by rw [HG.out.1,HG.out.2];rfl,?_⟩
  exact (HB1.out.setCell (p:=⟨w.heap.size+1,0,none⟩) (by simp) _).setCell (p:=⟨w.heap.size+1,1,none⟩) (by simp) _
def PfP (f:List Int->Option (List Int)) (E O:Int) (es:List El) (x t:Int):Prop:=(PkR f E O es/\z1n es x t)\/(¬PkR f E O es/\t=-1)
theorem zbs (P:Nat) (n x:Int) (a:Option Addr) (l c:Nat) (w:World) (hP:w.cell? ⟨P,0,none⟩=some (.int .i64 x)) (hl:P<w.heap.size) :
  Calls Tryz.prog 108 #[.agg #[.int .i64 n,.slice a l c],.pointer (some ⟨P,0,none⟩)] w fun r w'=>r=.returned (.bool (n == x))/\Below w.heap.size w w':=by
 have q:(w.alloc (Obj.cells #[.int .i64 n,.slice a l c] 89)).cell? ⟨P,0,none⟩=some (.int .i64 x):=ze _ hl hP;have hw:Bw w (w.alloc (Obj.cells #[.int .i64 n,.slice a l c] 89)):=ba
 go_enter Tryz.func108,Tryz.ntmps108
 go_wp2
 go_ret;exact ⟨rfl,hw⟩
theorem zbq (P:Nat) (x:Int) (a:Option Addr) (cap:Nat) (es:List El) (w:World) (hb:Els true w a es) (hn:es.length<=1048576) (hP:w.cell? ⟨P,0,none⟩=some (.int .i64 x)) (hl:P<w.heap.size) :
  Calls Tryz.prog 106 #[.slice a es.length cap,.func (.func 108) #[] #[.pointer (some ⟨P,0,none⟩)]] w fun r w'=>(∃ z,r=.returned (.int .i64 z)/\z1n es x z)/\Below w.heap.size w w':=by
 have HB:Hid (Els true w a es/\w.cell? ⟨P,0,none⟩=some (.int .i64 x)):=⟨hb,hP⟩;have HY:Hid (∀ k:Nat,k<es.length->(es.getD k de).n=x->(∀ j,j<k->(es.getD j de).n≠x)->z1n es x k):=fun k h1 h2 h3=>.inl ⟨k,h1,rfl,h2,h3⟩
 have HN:Hid ((∀ j,j<es.length->(es.getD j de).n≠x)->z1n es x (-1)):=fun h=>.inr ⟨rfl,h⟩
 clear hb hP;generalize hlen:es.length=n at *;have HL:Hid (es.length=n/\True):=⟨hlen,trivial⟩;clear hlen
 go_enter Tryz.func106,Tryz.ntmps106
 go_wp2
 go_loopw [8] (fun i wr=>∃ k:Nat,k<=n/\i=.int .i64 k/\(∀ j,j<k->(es.getD j de).n≠x)/\Below w.heap.size w wr) (fun i _=>n-(intOf i).toNat)
 case atStart=>exact ⟨0,Nat.zero_le _,rfl,fun j hj=>by omega,Below.refl _ _⟩
 case round=>
  obtain ⟨k,hk,rfl,hal,hbel⟩:=hrel;have HAL:Hid (∀ j,j<k->(es.getD j de).n≠x):=hal;clear hal
  by_cases hlt:k<n
  ·obtain ⟨b,off,rfl,hb1,c0,c1,hby,hrg⟩:=(HB.out.1.below hbel nl).pen k (by rw [HL.out.1];exact hlt)
   generalize hs:es.getD k de=s at *;obtain ⟨sn,sa,sc,sl⟩:=s
   simp only at c0 c1
   have HSN:Hid ((es.getD k de).n=sn/\True):=⟨by rw [hs],trivial⟩
   have HCL:=zbs P sn x sa sl.length sc wr (keep hbel hl HB.out.2) (by have:=hbel.size;omega)
   clear hby hrg hs;go_wp2_with fail
   refine HCL.mono ?_;clear HCL;rintro e w1 ⟨rfl,hb1'⟩;have HB1:Hid (Bw w w1):=hbel.trans (hb1'.mono hbel.size);clear hb1' hbel c0 c1 hb1
   by_cases hx:sn=x
   ·have hx2:(sn == x)=true:=by simpa using hx
    rw [hx2];have HF:Hid (z1n es x k):=HY.out k hlt (by rw [HSN.out.1];exact hx) HAL.out
    clear hx hx2;go_wp2;go_ret;exact ⟨⟨_,rfl,HF.out⟩,HB1.out⟩
   ·have hx2:(sn == x)=false:=by simpa using hx
    rw [hx2];have HF:Hid (∀ j,j<k+1->(es.getD j de).n≠x):=by
     intro j hj
     by_cases e:j=k
     ·rw [e,HSN.out.1];exact hx
     ·exact HAL.out j (by omega)
    clear hx hx2;go_wp2;go_roundw
    case rel=>exact ⟨k+1,by omega,by go_num,HF.out,HB1.out⟩
    case measure=>simp [intOf];omega
  ·have hkn:k=n:=by omega
   subst hkn;have HF:Hid (z1n es x (-1)):=HN.out HAL.out;go_wp2;go_ret;exact ⟨⟨_,rfl,HF.out⟩,hbel⟩
theorem z7r (f:List Int->Option (List Int)) (hf:zz f) (E O x:Int) (a:Option Addr) (cap:Nat) (es:List El) (w:World) (hb:ItI w a es) (hx:z32 es) (hS:SentB w) :
  Calls Tryz.prog 92 #[.agg #[.int .i64 E,.int .i64 O,.slice a es.length cap],.int .i64 x] w fun r w'=>(∃ t,r=.returned (.int .i64 t)/\PfP f E O es x t)/\Below w.heap.size w w':=by
 have hw0:Bw w (w.alloc (Obj.cells #[.int .i64 E,.int .i64 O,.slice a es.length cap] 46)):=ba;have hw:Bw w ((w.alloc (Obj.cells #[.int .i64 E,.int .i64 O,.slice a es.length cap] 46)).alloc (Obj.cells #[.int .i64 x] 3)):=hw0.alloc (by simp) _
 have hbx:=(Box3.new w (.int .i64 E) (.int .i64 O) (.slice a es.length cap) 46).alloc (Obj.cells #[.int .i64 x] 3);have hcx:((w.alloc (Obj.cells #[.int .i64 E,.int .i64 O,.slice a es.length cap] 46)).alloc (Obj.cells #[.int .i64 x] 3)).cell? ⟨w.heap.size+1,0,none⟩=some (.int .i64 x):=by simp
 have hlx:w.heap.size+1<((w.alloc (Obj.cells #[.int .i64 E,.int .i64 O,.slice a es.length cap] 46)).alloc (Obj.cells #[.int .i64 x] 3)).heap.size:=by simp
 have HOK:=z29 f hf E O a cap es _ (hb.below hw nl) hx (hS.below hw);have HB:Hid (ItI w a es/\z32 es):=⟨hb,hx⟩;clear hb hx hw0
 go_enter Tryz.func92,Tryz.ntmps92
 go_wp2_with fail
 generalize (w.alloc (Obj.cells #[.int .i64 E,.int .i64 O,.slice a es.length cap] 46)).alloc (Obj.cells #[.int .i64 x] 3)=W0 at *;refine HOK.mono ?_;clear HOK;rintro e w1 ⟨⟨hp,rfl⟩ | ⟨hp,rfl⟩,hb1⟩
 ·have HW1:Hid (Bw w w1/\PkR f E O es):=⟨hw.trans (hb1.mono hw.size),hp⟩
  obtain ⟨p0,p1,p2,-,-,-,pl⟩:=hbx.step hb1;have HSZ:=zbq (w.heap.size+1) x a cap es w1 (HB.out.1.els.below HW1.out.1 nl) HB.out.2.n (keep hb1 hlx hcx) (by have:=hb1.size;omega)
  clear hb1 hp hbx hcx hlx;go_wp2_with fail
  refine HSZ.mono ?_;clear HSZ;rintro e w2 ⟨⟨z,rfl,hz⟩,hb2⟩;have HW2:Hid (Bw w w2/\z1n es x z):=⟨HW1.out.1.trans (hb2.mono HW1.out.1.size),hz⟩;clear hb2 hz;go_wp2;go_ret;exact ⟨⟨_,rfl,.inl ⟨HW1.out.2,HW2.out.2⟩⟩,HW2.out.1⟩
 ·have HW1:Hid (Bw w w1/\¬PkR f E O es):=⟨hw.trans (hb1.mono hw.size),hp⟩
  clear hb1 hp hbx hcx hlx;go_wp2;go_ret;exact ⟨⟨_,rfl,.inr ⟨HW1.out.2,rfl⟩⟩,HW1.out.1⟩
theorem z72 (zs:List Int) (m:Nat) {j k:Nat} (h:j<k):(itL zs m k).getD j de=itE zs m j:=by
 induction k with
 | zero=>omega
 | succ k ih=>
  rw [itL,List.getD_eq_getElem?_getD];rcases Nat.lt_or_ge j k with h1 | h1
  ·rw [List.getElem?_append_left (by rw [z0p];exact h1),<-List.getD_eq_getElem?_getD,ih h1]
  ·obtain rfl:j=k:=by omega
   rw [List.getElem?_append_right (by rw [z0p];exact Nat.le_refl _),z0p]
   simp
theorem zfe {ps:List (Int × Int)} (h:zh ps=true) (i:Nat) (hi:i<ps.length):0<=(ps.getD i dp).1/\(ps.getD i dp).1<24/\0<=(ps.getD i dp).2/\(ps.getD i dp).2<=15:=by
 rcases z5x ps _ i (z4f ps h) hi with h1 | h1
 ·unfold nwh at h1
  simp only [Bool.and_eq_true,beq_iff_eq] at h1
  omega
 ·unfold rgt at h1
  have h2:=of_decide_eq_true h1
  omega
def ctZ (d:DkV) (x:Nat):List Int:=(rdE d.ss d.ps (d.ms.getD x dp).1).ls
def ctI (d:DkV) (x:Nat):Nat:=(d.ms.getD x dp).2.toNat
def ctE (d:DkV) (x:Nat):El:=itE (ctZ d x) (rpM (ctZ d x)) (ctI d x)
def CtG (f:List Int->Option (List Int)) (d:DkV) (x:Nat):Prop:=PrG f (ctZ d x)/\ctI d x<rpM (ctZ d x)/\(ctE d x).n=(x:Int)/\(ctE d x).ls≠[]
def CtR (f:List Int->Option (List Int)) (d:DkV) (x:Nat) (o:Option (List Int)):Prop:=
 (∃ k,k<d.os.length/\(d.os.getD k de).n=(x:Int)/\(∀ j,j<k->(d.os.getD j de).n≠(x:Int))/\o=some (d.os.getD k de).ls) \/
 ((∀ j,j<d.os.length->(d.os.getD j de).n≠(x:Int))/\(((d.ms.getD x dp).1=0/\o=some [])\/((d.ms.getD x dp).1≠0/\((CtG f d x/\o=some (ctE d x).ls)\/(¬CtG f d x/\o=none)))))
theorem zca {e d:DkV} (h:DkS e d) (x:Nat):ctZ e x=ctZ d x:=by
 unfold ctZ;rw [zni h.ss h.ps,h.ms]
theorem zdp {e d:DkV} (h:DkS e d) (x:Nat):ctE e x=ctE d x:=by
 unfold ctE ctI;rw [zca h,h.ms]
theorem CtG.same {f:List Int->Option (List Int)} {e d:DkV} {x:Nat} (h:DkS e d) (k:CtG f e x):CtG f d x:=by
 obtain ⟨k1,k2,k3,k4⟩:=k;rw [zca h] at k1 k2;rw [zdp h] at k3 k4;unfold ctI at k2;rw [h.ms] at k2;exact ⟨k1,k2,k3,k4⟩
theorem CtR.same {f:List Int->Option (List Int)} {e d:DkV} {x:Nat} {o:Option (List Int)} (h:DkS e d) (k:CtR f e x o):CtR f d x o:=by
 have hl:=z00 h.os;rcases k with ⟨k,k1,k2,k3,k4⟩ | ⟨k1,k2⟩
 ·have h1:(e.os.getD k de).ls=(d.os.getD k de).ls:=congrArg Prod.snd (z0k h.os k)
  exact .inl ⟨k,by omega,by rw [<-z97 h.os];exact k2,fun j hj=>by rw [<-z97 h.os];exact k3 j hj,by rw [k4,h1]⟩
 ·refine .inr ⟨fun j hj=>by rw [<-z97 h.os];exact k1 j (by omega),?_⟩
  rw [h.ms] at k2;rcases k2 with ⟨k2,k3⟩ | ⟨k2,⟨k3,k4⟩ | ⟨k3,k4⟩⟩
  ·exact .inl ⟨k2,k3⟩
  ·exact .inr ⟨k2,.inl ⟨k3.same h,by rw [k4,zdp h]⟩⟩
  ·exact .inr ⟨k2,.inr ⟨fun k=>k3 (k.same h.symm),k4⟩⟩
theorem CtR.uniq {f:List Int->Option (List Int)} {d:DkV} {x:Nat} {o q:Option (List Int)} (h:CtR f d x o) (k:CtR f d x q):o=q:=by
 rcases h with ⟨i,h1,h2,h3,h4⟩ | ⟨h1,h2⟩ <;> rcases k with ⟨j,k1,k2,k3,k4⟩ | ⟨k1,k2⟩
 ·rcases Nat.lt_trichotomy i j with h | h | h
  ·exact absurd h2 (k3 i h)
  ·subst h;rw [h4,k4]
  ·exact absurd k2 (h3 j h)
 ·exact absurd h2 (k1 i h1)
 ·exact absurd k2 (h1 j k1)
 ·rcases h2 with ⟨h2,h3⟩ | ⟨h2,⟨h3,h4⟩ | ⟨h3,h4⟩⟩ <;> rcases k2 with ⟨k2,k3⟩ | ⟨k2,⟨k3,k4⟩ | ⟨k3,k4⟩⟩
  ·rw [h3,k3]
  ·exact absurd h2 k2
  ·exact absurd h2 k2
  ·exact absurd k2 h2
  ·rw [h4,k4]
  ·exact absurd h3 k3
  ·exact absurd k2 h2
  ·exact absurd k3 h3
  ·rw [h4,k4]
theorem OVB.capsC {w:World} {B:Nat} {a:Option Addr} {n c:Nat} {zs:List Int} (h:OVB w B (.slice a n c) zs):zs.length<=c/\c<=9223372036854775807:=by
 rcases h.1.2 with ⟨e,e2⟩ | ⟨g,cap,cur,e,-,-,h1,h2,-⟩
 ·simp at e
  omega
 ·simp at e
  unfold maxLen at h2
  omega
def CnV (o:Option (List Int)) (W:World) (v:Value):Prop:=
 (∃ (ls:List Int) (a:Option Addr) (c:Nat) (n:Int),o=some ls/\ls≠[]/\v=(.iface 107 (.agg #[.int .i64 n,.slice a ls.length c]))/\Byt W a ls/\ls.length<=c)\/(o=some []/\(v=.iface 157 (.agg #[])\/v=.iface 140 (.agg #[])))\/(o=none/\v=.iface 110 (.agg #[]))
def CtV (f:List Int->Option (List Int)) (d:DkV) (x:Nat) (w:World) (r:Ending) (w':World):Prop:=
 (∃ o v,CtR f d x o/\r=.returned v/\CnV o w' v)/\Below w.heap.size w w'
theorem z8m (n:Int) (a:Option Addr) (c:Nat) (ls:List Int) (w:World) (hb:Byt w a ls) (hc:ls.length<=c) :
  Calls Tryz.prog 93 #[.agg #[.int .i64 n,.slice a ls.length c]] w fun r w'=>(∃ v,r=.returned v/\CnV (some ls) w' v/\∃ T u,v=.iface T u)/\Below w.heap.size w w':=by
 have hw:Bw w (w.alloc (Obj.cells #[.int .i64 n,.slice a ls.length c] 89)):=ba;have HB:Hid (Byt (w.alloc (Obj.cells #[.int .i64 n,.slice a ls.length c] 89)) a ls/\Bw w (w.alloc (Obj.cells #[.int .i64 n,.slice a ls.length c] 89))):=⟨hb.below hw nl,hw⟩;clear hb hw
 by_cases hl:ls=[]
 ·subst hl
  go_enter Tryz.func93,Tryz.ntmps93
  go_wp2
  go_ret;exact ⟨⟨_,rfl,.inr (.inl ⟨rfl,.inl rfl⟩),_,_,rfl⟩,HB.out.2⟩
 ·have HL:Hid (ls≠[]/\ls.length<=c):=⟨hl,hc⟩
  have hl0:((ls.length:Int) == 0)=false:=by
   have:ls.length≠0:=fun h=>hl (List.length_eq_zero_iff.1 h)
   rw [beq_eq_false_iff_ne]
   omega
  clear hl hc;have HF:Hid (CnV (some ls) (w.alloc (Obj.cells #[.int .i64 n,.slice a ls.length c] 89)) (.iface 107 (.agg #[.int .i64 n,.slice a ls.length c]))):=.inl ⟨ls,a,c,n,rfl,HL.out.1,rfl,HB.out.1,HL.out.2⟩;clear HL
  go_enter Tryz.func93,Tryz.ntmps93
  go_wp2
  go_ret;exact ⟨⟨_,rfl,HF.out,_,_,rfl⟩,HB.out.2⟩
theorem zbd (f:List Int->Option (List Int)) (hf:zz f) (d:DkV) (x q i:Nat) (w:World) (hb:DkI w d) (hG:DkG f d) (hd:DkF d) (hS:SentR w) (hq:(d.ms.getD x dp).1=(q:Int)) (hi:(d.ms.getD x dp).2=(i:Int)) (hqn:q<d.ss.length) (hi15:i<=15) (hx16:x<16) :
  Calls Tryz.prog 95 #[.agg #[.slice d.sa d.ss.length d.sc,.slice d.pa d.ps.length d.pc,.int .i64 d.E,.int .i64 d.O,.slice d.ma d.ms.length d.mc,.slice d.va d.vs.length d.vc,.slice d.ca d.cs.length d.cc,.int .i64 d.F,.int .i64 d.G,.slice d.oa d.os.length d.oc],.agg #[.int .i64 q,.int .i64 i],.int .i64 x] w fun r w'=>((CtG f d x/\∃ v T u,r=.returned v/\CnV (some (ctE d x).ls) w' v/\v=.iface T u)\/(¬CtG f d x/\r=.returned (.iface 110 (.agg #[]))))/\Below w.heap.size w w':=by
 have hRD:=zir hG.raw hqn;have HZ:Hid (ctZ d x=(rdE d.ss d.ps q).ls/\ctI d x=i):=by
  unfold ctZ ctI;rw [hq,hi];exact ⟨rfl,rfl⟩
 generalize hRP:(fun (r:Ending) (w':World)=>((CtG f d x/\∃ v T u,r=.returned v/\CnV (some (ctE d x).ls) w' v/\v=.iface T u)\/(¬CtG f d x/\r=.returned (.iface 110 (.agg #[]))))/\Below w.heap.size w w')=RP
 have HYES:Hid (∀ (zs:List Int) (a:Option Addr) (c:Nat) (W:World) (l:List Int) (n:Int),(rdE d.ss d.ps q).ls=zs->PrG f zs->i<rpM zs->(itE zs (rpM zs) i).n=(x:Int)->(itE zs (rpM zs) i).ls=l->l≠[]->Byt W a l->l.length<=c->Bw w W->RP (.returned (.iface 107 (.agg #[.int .i64 n,.slice a l.length c]))) W):=by
  rintro zs a c W l n rfl g1 g2 g3 rfl g4 g5 g6 g7;have hz:=HZ.out;have e1:ctE d x=itE (rdE d.ss d.ps q).ls (rpM (rdE d.ss d.ps q).ls) i:=by unfold ctE;rw [hz.1,hz.2]
  rw [<-e1] at g3 g4 g5 g6 ⊢;rw [<-hRP];exact ⟨.inl ⟨⟨by rw [hz.1];exact g1,by rw [hz.1,hz.2];exact g2,g3,g4⟩,_,_,_,rfl,.inl ⟨_,a,c,n,rfl,g4,rfl,g5,g6⟩,rfl⟩,g7⟩
 have HNO:Hid (∀ (zs:List Int) (W:World),(rdE d.ss d.ps q).ls=zs->¬(PrG f zs/\i<rpM zs/\(itE zs (rpM zs) i).n=(x:Int)/\(itE zs (rpM zs) i).ls≠[])->Bw w W->RP (.returned (.iface 110 (.agg #[]))) W):=by
  rintro zs W rfl g1 g2;have hz:=HZ.out;rw [<-hRP];refine ⟨.inr ⟨fun h=>g1 ?_,rfl⟩,g2⟩
  obtain ⟨k1,k2,k3,k4⟩:=h;unfold ctE at k3 k4;rw [hz.1] at k1 k2 k3 k4;rw [hz.2] at k2 k3 k4;exact ⟨k1,k2,k3,k4⟩
 clear HZ hRP;have HW0:Hid (Bw w ((w.alloc (Obj.cells #[.slice d.sa d.ss.length d.sc,.slice d.pa d.ps.length d.pc,.int .i64 d.E,.int .i64 d.O,.slice d.ma d.ms.length d.mc,.slice d.va d.vs.length d.vc,.slice d.ca d.cs.length d.cc,.int .i64 d.F,.int .i64 d.G,.slice d.oa d.os.length d.oc] 48)).alloc (Obj.cells #[.int .i64 (q:Int),.int .i64 (i:Int)] 93))):=((Below.refl _ _).alloc nl _).alloc (by simp) _
 have hx0:=(Dk10.new w d 48).alloc (Obj.cells #[.int .i64 (q:Int),.int .i64 (i:Int)] 93);have hP:=Box2.new (w.alloc (Obj.cells #[.slice d.sa d.ss.length d.sc,.slice d.pa d.ps.length d.pc,.int .i64 d.E,.int .i64 d.O,.slice d.ma d.ms.length d.mc,.slice d.va d.vs.length d.vc,.slice d.ca d.cs.length d.cc,.int .i64 d.F,.int .i64 d.G,.slice d.oa d.os.length d.oc] 48)) (.int .i64 (q:Int)) (.int .i64 (i:Int)) 93
 simp only [World.size_alloc] at hP
 have hlen:=z9s (z88 hG.raw) hqn;have H1:=z8e d.sa d.pa d.sc d.pc d.ss d.ps q ((w.alloc (Obj.cells #[.slice d.sa d.ss.length d.sc,.slice d.pa d.ps.length d.pc,.int .i64 d.E,.int .i64 d.O,.slice d.ma d.ms.length d.mc,.slice d.va d.vs.length d.vc,.slice d.ca d.cs.length d.cc,.int .i64 d.F,.int .i64 d.G,.slice d.oa d.os.length d.oc] 48)).alloc (Obj.cells #[.int .i64 (q:Int),.int .i64 (i:Int)] 93)) (hb.raw.below HW0.out nl) (by have:=hd.raw.n;omega) (by have:=hd.raw.m;omega) (fun s hs=>by have:=hd.raw.l s hs;omega) (fun s hs=>by have:=hd.raw.p s hs;omega)
 rw [hRD.1,hRD.2] at H1;have HB:Hid (zz f/\SentR w/\(rdE d.ss d.ps q).ls.length=256):=⟨hf,hS,hlen⟩;clear hb hG hd hf hS hq hi hRD hlen
 go_enter Tryz.func95,Tryz.ntmps95
 go_wp2_with fail
 generalize ((w.alloc (Obj.cells #[.slice d.sa d.ss.length d.sc,.slice d.pa d.ps.length d.pc,.int .i64 d.E,.int .i64 d.O,.slice d.ma d.ms.length d.mc,.slice d.va d.vs.length d.vc,.slice d.ca d.cs.length d.cc,.int .i64 d.F,.int .i64 d.G,.slice d.oa d.os.length d.oc] 48)).alloc (Obj.cells #[.int .i64 (q:Int),.int .i64 (i:Int)] 93))=W0 at *;refine H1.mono ?_;clear H1;rintro e w1 ⟨⟨v,rfl,hov⟩,hb1⟩;obtain ⟨za,zc,hv⟩:=hov.form
 subst hv;have HW1:Hid (Bw w w1):=HW0.out.trans (hb1.mono HW0.out.size);have hP1:=hP.keep hb1 hP.lt;have hx1:=hx0.step hb1;have hzl:=HB.out.2.2;have HZE:Hid ((rdE d.ss d.ps q).ls=(rdE d.ss d.ps q).ls/\True):=⟨rfl,trivial⟩;have H2:=z7v f HB.out.1 za zc (rdE d.ss d.ps q).ls w1 hov.byt (by omega) hov.capsC.1 hov.capsC.2 (HB.out.2.1.below HW1.out)
 clear hov hb1 hP hx0 HW0 hzl;generalize hzs:(rdE d.ss d.ps q).ls=zs at *;have HZS:Hid ((rdE d.ss d.ps q).ls=zs/\True):=⟨hzs,trivial⟩;clear hzs HZE;go_wp2_with fail
 refine H2.mono ?_;clear H2;rintro e w2 ⟨h2,hb2⟩;have HW3:Hid (Bw w w2):=HW1.out.trans (hb2.mono HW1.out.size);obtain ⟨y0,y1,-,-,yl⟩:=hP1.keep hb2 hP1.lt;have HB3:Hid (∀ o,Bw w (w2.alloc o)):=fun o=>HW3.out.alloc HW3.out.size o
 have HB4:Hid (∀ o o',Bw w ((w2.alloc o).alloc o')):=fun o o'=>(HB3.out o).alloc (HB3.out o).size o'
 clear hx1 hP1;rcases h2 with ⟨hg,v,fs,rfl,hcp⟩ | ⟨hg,rfl⟩
 rotate_left
 ·have HN:Hid (∀ W,Bw w W->RP (.returned (.iface 110 (.agg #[]))) W):=fun W=>HNO.out zs W rfl (fun h=>hg h.1)
  clear hg HNO HYES hb2;go_wp2;exact HN.out _ (HB3.out _)
 obtain ⟨va',vc',hv⟩:=hcp.row.form;subst hv;have hfl:fs.length=rpM zs:=by rw [z00 hcp.ct,z0p]
 have HCP:Hid (ItI w2 va' fs/\fs.map El.ct=(itL zs (rpM zs) (rpM zs)).map El.ct/\fs.length=rpM zs):=⟨hcp.its,hcp.ct,hfl⟩;have hfn:fs.length<=16:=by
  have:=hg.ok.n;rw [z0p] at this
  omega
 have HG:Hid (PrG f zs):=hg;clear hcp hfl hg hb2
 by_cases hlt:i<fs.length
 rotate_left
 ·have HN:Hid (∀ W,Bw w W->RP (.returned (.iface 110 (.agg #[]))) W):=fun W=>HNO.out zs W rfl (fun h=>hlt (by rw [HCP.out.2.2];exact h.2.1))
  have hge:((i:Int)≥(fs.length:Int)):=by omega
  clear HNO HYES HCP HG;go_wp2;exact HN.out _ (HB3.out _)
 obtain ⟨b2,off2,hva,hbb,e0,e1,hby,hrg⟩:=HCP.out.1.els.pen i hlt;subst hva;have HIT:Hid ((fs.getD i de).n=(itE zs (rpM zs) i).n/\(fs.getD i de).ls=(itE zs (rpM zs) i).ls/\i<rpM zs/\(fs.getD i de).ls.length<=(fs.getD i de).c):=by
  have h1:=z0k HCP.out.2.1 i;rw [z72 _ _ (by rw [<-HCP.out.2.2];exact hlt)] at h1
  exact ⟨congrArg Prod.fst h1,congrArg Prod.snd h1,by rw [<-HCP.out.2.2];exact hlt,HCP.out.1.cap _ (zf hlt)⟩
 generalize fs.getD i de=it at *;obtain ⟨sn,sa',sc',sl⟩:=it
 dsimp only at *
 have HBY:Hid (∀ o o',Byt ((w2.alloc o).alloc o') sa' sl):=fun o o'=>hby.below (((Below.refl w2.heap.size w2).alloc nl o).alloc (by simp) o') nl
 have hge:¬((i:Int)≥(fs.length:Int)):=by omega
 have hlti:(i:Int)<(fs.length:Int):=by omega
 clear hby hrg HCP HW3;generalize fs.length=n at *
 by_cases hsn:sn=(x:Int)
 rotate_left
 ·have HN:Hid (∀ W,Bw w W->RP (.returned (.iface 110 (.agg #[]))) W):=fun W=>HNO.out zs W rfl (fun h=>hsn (by rw [HIT.out.1];exact h.2.2.1))
  have hne:(sn != (x:Int))=true:=by rw [bne_iff_ne];exact hsn
  clear HNO HYES HG HIT HBY hsn;go_wp2;exact HN.out _ (HB4.out _ _)
 have hne:(sn != (x:Int))=false:=by rw [hsn];simp
 have HSN:Hid (sn=(x:Int)/\True):=⟨hsn,trivial⟩;clear hsn
 by_cases hsl:sl=[]
 ·have HN:Hid (∀ W,Bw w W->RP (.returned (.iface 110 (.agg #[]))) W):=fun W=>HNO.out zs W rfl (fun h=>h.2.2.2 (by rw [<-HIT.out.2.1];exact hsl))
  subst hsl;clear HNO HYES HG HIT HBY;go_wp2;exact HN.out _ (HB4.out _ _)
 have hl0:((sl.length:Int) == 0)=false:=by
  have:sl.length≠0:=fun h=>hsl (List.length_eq_zero_iff.1 h)
  rw [beq_eq_false_iff_ne]
  omega
 have HY:Hid (∀ W,Byt W sa' sl->Bw w W->RP (.returned (.iface 107 (.agg #[.int .i64 sn,.slice sa' sl.length sc']))) W):=fun W k1 k2=>HYES.out zs sa' sc' W sl sn rfl HG.out HIT.out.2.2.1 (by rw [<-HIT.out.1];exact HSN.out.1) HIT.out.2.1.symm hsl k1 HIT.out.2.2.2 k2
 clear HNO HYES HG HIT HSN hsl;go_wp2;exact HY.out _ (HBY.out _ _) (HB4.out _ _)
def CtW (f:List Int->Option (List Int)) (d:DkV) (x:Nat) (w:World) (r:Ending) (w':World):Prop:=
 (∃ o T u,CtR f d x o/\r=.returned (.iface T u)/\CnV o w' (.iface T u))/\Below w.heap.size w w'
theorem zbu (f:List Int->Option (List Int)) (hf:zz f) (d:DkV) (x:Nat) (w:World) (hb:DkI w d) (hi:ItI w d.oa d.os) (hG:DkG f d) (hd:DkF d) (hS:SentR w) (hx:x<d.ms.length) :
  Calls Tryz.prog 62 #[.agg #[.slice d.sa d.ss.length d.sc,.slice d.pa d.ps.length d.pc,.int .i64 d.E,.int .i64 d.O,.slice d.ma d.ms.length d.mc,.slice d.va d.vs.length d.vc,.slice d.ca d.cs.length d.cc,.int .i64 d.F,.int .i64 d.G,.slice d.oa d.os.length d.oc],.int .i64 x] w (CtW f d x w):=by
 have HW0:Hid (Bw w (w.alloc (Obj.cells #[.slice d.sa d.ss.length d.sc,.slice d.pa d.ps.length d.pc,.int .i64 d.E,.int .i64 d.O,.slice d.ma d.ms.length d.mc,.slice d.va d.vs.length d.vc,.slice d.ca d.cs.length d.cc,.int .i64 d.F,.int .i64 d.G,.slice d.oa d.os.length d.oc] 48))):=ba;have hx0:=Dk10.new w d 48;have H1:=z7r f hf d.F d.G x d.oa d.oc d.os (w.alloc (Obj.cells #[.slice d.sa d.ss.length d.sc,.slice d.pa d.ps.length d.pc,.int .i64 d.E,.int .i64 d.O,.slice d.ma d.ms.length d.mc,.slice d.va d.vs.length d.vc,.slice d.ca d.cs.length d.cc,.int .i64 d.F,.int .i64 d.G,.slice d.oa d.os.length d.oc] 48)) (hi.below HW0.out nl) hd.opn.j (hS.b.below HW0.out)
 have HB:Hid (DkI w d/\ItI w d.oa d.os/\DkG f d/\DkF d/\SentR w/\zz f):=⟨hb,hi,hG,hd,hS,hf⟩;have hxn:=(z19 d.ms hG.map).2;have hkn:=hG.op.n;clear hb hi hG hd hS hf;have HYES:Hid (∀ (o:Option (List Int)) (T:TypeId) (u:Value) (W:World),CtR f d x o->CnV o W (.iface T u)->Bw w W->CtW f d x w (.returned (.iface T u)) W):=fun o T u W h1 h2 h3=>⟨⟨o,T,u,h1,rfl,h2⟩,h3⟩
 generalize CtW f d x w=RP at *
 go_enter Tryz.func62,Tryz.ntmps62
 go_wp2_with fail
 generalize (w.alloc (Obj.cells #[.slice d.sa d.ss.length d.sc,.slice d.pa d.ps.length d.pc,.int .i64 d.E,.int .i64 d.O,.slice d.ma d.ms.length d.mc,.slice d.va d.vs.length d.vc,.slice d.ca d.cs.length d.cc,.int .i64 d.F,.int .i64 d.G,.slice d.oa d.os.length d.oc] 48))=W0 at *;refine H1.mono ?_;clear H1;rintro e w1 ⟨⟨z,rfl,hz⟩,hb1⟩;have HW1:Hid (Bw w w1):=HW0.out.trans (hb1.mono HW0.out.size);have hx1:=hx0.step hb1
 clear hb1 hx0 HW0;obtain ⟨-,hz⟩:PkR f d.F d.G d.os/\z1n d.os x z:=hz.elim id (fun h=>absurd HB.out.2.2.1.op h.1)
 rcases hz with ⟨k,h1,rfl,h3,h4⟩ | ⟨rfl,h4⟩
 ·obtain ⟨b,off,hoa,hbl,c0,c1,hby,hrg⟩:=(HB.out.1.opn.below HW1.out nl).pen k h1
  obtain ⟨x0,x1,x2,x3,x4,x5,x6,x7,x8,x9,xl⟩:=hx1;rw [hoa] at x9;have HC:Hid (CtR f d x (some (d.os.getD k de).ls)):=.inl ⟨k,h1,h3,h4,rfl⟩;have H2:=z8m (d.os.getD k de).n (d.os.getD k de).a (d.os.getD k de).c (d.os.getD k de).ls w1 hby (HB.out.2.1.cap _ (zf h1));clear hby hrg h3 h4 HB hoa;have hk0:(0:Int)<=(k:Int)/\(k:Int)<(d.os.length:Int):=by omega
  generalize d.os.getD k de=it at *;generalize d.os.length=n at *;go_wp2_with fail
  refine H2.mono ?_;clear H2;rintro e w2 ⟨⟨v,rfl,hv,T,u,rfl⟩,hb2⟩;have HF:Hid (RP (.returned (.iface T u)) w2):=HYES.out _ T u w2 HC.out hv (HW1.out.trans (hb2.mono HW1.out.size));clear HYES HC hv hb2;go_wp2;exact HF.out
 ·have H4:Hid (∀ j,j<d.os.length->(d.os.getD j de).n≠(x:Int)):=h4
  obtain ⟨x0,x1,x2,x3,x4,x5,x6,x7,x8,x9,xl⟩:=id hx1;have H2:=za2 d.ma d.mc d.ms x w1 (HB.out.1.map.below HW1.out nl) HB.out.2.2.2.1.ms;have e1:gtP d.ms x=d.ms.getD x dp:=by unfold gtP;rw [if_pos HB.out.2.2.1.map,z3q d.ms x hx]
  have e2:gtB d.ms x=!nwh (d.ms.getD x dp):=by unfold gtB;rw [HB.out.2.2.1.map,z3q d.ms x hx];rfl
  rw [e1,e2] at H2;obtain ⟨p1,p2,p3,p4⟩:=zfe HB.out.2.2.1.map x hx;have hq1:=HB.out.2.2.1.pm x hx;have hok:=z5x d.ms _ x (z4f d.ms HB.out.2.2.1.map) hx;clear h4 e1 e2;go_wp2_with fail
  refine H2.mono ?_;clear H2 x0 x1 x2 x3 x4 x5 x6 x7 x8 x9 xl;rintro e w2 ⟨rfl,hb2⟩;have HW2:Hid (Bw w w2):=HW1.out.trans (hb2.mono HW1.out.size);have hx2:=hx1.step hb2;clear hx1 hb2;obtain ⟨q,hq⟩:=Int.eq_ofNat_of_zero_le p1;obtain ⟨i,hi⟩:=Int.eq_ofNat_of_zero_le p3
  by_cases hz:nwh (d.ms.getD x dp)=true
  ·have hz1:(d.ms.getD x dp).1=0:=by
    unfold nwh at hz
    simp only [Bool.and_eq_true,beq_iff_eq] at hz
    exact hz.1
   have HF:Hid (∀ o,RP (.returned (.iface 140 (.agg #[]))) (w2.alloc o)):=fun o=>HYES.out (some []) _ _ _ (.inr ⟨H4.out,.inl ⟨hz1,rfl⟩⟩) (.inr (.inl ⟨rfl,.inr rfl⟩)) (HW2.out.alloc HW2.out.size o)
   rw [hz,hq,hi];clear HYES HB H4 hok hz hz1 hq hi p1 p2 p3 p4 hq1 HW1;go_wp2;exact HF.out _
  ·have hzf:nwh (d.ms.getD x dp)=false:=by simpa using hz
   have hz1:(d.ms.getD x dp).1≠0:=by
    rcases hok with h | h
    ·exact absurd h hz
    ·unfold rgt at h
     have:=of_decide_eq_true h
     omega
   have hqn:q<d.ss.length:=by omega
   have hba:∀ o,Bw w (w2.alloc o):=fun o=>HW2.out.alloc HW2.out.size o
   have H3:=zbd f HB.out.2.2.2.2.2 d x q i (w2.alloc (Obj.cells #[.int .i64 (q:Int),.int .i64 (i:Int)] 93)) (HB.out.1.below (hba _) nl) HB.out.2.2.1 HB.out.2.2.2.1 (HB.out.2.2.2.2.1.below (hba _)) hq hi hqn (by omega) (by omega)
   have hx3:=hx2.alloc (Obj.cells #[.int .i64 (q:Int),.int .i64 (i:Int)] 93);have HW3:Hid (Bw w (w2.alloc (Obj.cells #[.int .i64 (q:Int),.int .i64 (i:Int)] 93))):=hba _;have HZ1:Hid ((d.ms.getD x dp).1≠0):=hz1;rw [hzf,hq,hi];clear HB hok hz hzf hz1 hq hi p1 p2 p3 p4 hq1 HW1 hba hx2 HW2;obtain ⟨x0,x1,x2,x3,x4,x5,x6,x7,x8,x9,xl⟩:=hx3;go_wp2_with fail
   refine H3.mono ?_;clear H3;rintro e w3 ⟨h3,hb3⟩;have HF:Hid (∃ T u,e=.returned (.iface T u)/\RP (.returned (.iface T u)) w3):=by
    rcases h3 with ⟨g,v,T,u,rfl,hv,rfl⟩ | ⟨g,rfl⟩
    ·exact ⟨T,u,rfl,HYES.out _ T u w3 (.inr ⟨H4.out,.inr ⟨HZ1.out,.inl ⟨g,rfl⟩⟩⟩) hv (HW3.out.trans (hb3.mono HW3.out.size))⟩
    ·exact ⟨_,_,rfl,HYES.out none _ _ w3 (.inr ⟨H4.out,.inr ⟨HZ1.out,.inr ⟨g,rfl⟩⟩⟩) (.inr (.inr ⟨rfl,rfl⟩)) (HW3.out.trans (hb3.mono HW3.out.size))⟩
   obtain ⟨T,u,rfl,HF0⟩:=HF.out;have HF2:Hid (RP (.returned (.iface T u)) w3):=HF0;clear HF HF0 h3 hb3 HYES H4 HZ1 HW3;go_wp2;exact HF2.out
theorem zhk :(Tryz.prog.info? 110).map (·.zero)=some (some (.agg #[])):=by kernel_rfl
theorem zhw (v:Value) (xT:TypeId) (w:World):(Instr.typeAssert (.iface 110 v) xT 110 true).run Tryz.prog w=.ok (.tuple #[v,.bool true]) w:=by
 simp [Instr.typeAssert,run_underlying Tryz.underlying110]
theorem zdz (T:TypeId) (h:T≠110) (v:Value) (xT:TypeId) (w:World):(Instr.typeAssert (.iface T v) xT 110 true).run Tryz.prog w=.ok (.tuple #[.agg #[],.bool false]) w:=by
 obtain ⟨j,hj,hz⟩:=Option.map_eq_some_iff.1 zhk
 simp [Instr.typeAssert,run_underlying Tryz.underlying110,h,zeroValue,typeInfo,hj,hz]
end Go.Proofs.YtkomjdjfknpinaaGreatDoor
