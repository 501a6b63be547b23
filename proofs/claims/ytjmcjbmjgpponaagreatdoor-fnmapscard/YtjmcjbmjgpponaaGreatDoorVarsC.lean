import Derived.Test.YtjmcjbmjgpponaaGreatDoorMpSt2
import Derived.ShutString
import Derived.ChangeOld
import Derived.Lib.SmallJoins
import Derived.Test.YtjmcjbmjgpponaaGreatDoorCards
import Derived.Test.YtjmcjbmjgpponaaGreatDoorTie
import Derived.LaidMore
import Derived.Stop.Joined
import Derived.Stop.LaidErr
import Derived.WalkSmall
set_option maxRecDepth 20000
set_option maxHeartbeats 16000000
namespace Go.Proofs.YtjmcjbmjgpponaaGreatDoor
open Go.RowKit Go.Maps
set_option linter.unusedVariables false
set_option linter.unusedSimpArgs false
theorem z2r (a:Option Addr) (c:Nat) (ps:List (Int × Int)) (w:World) (hb:Pls w a ps) (hn:ps.length<=1048576) :
  Calls Tryz.prog 53 #[.agg #[.slice a ps.length c]] w fun e w'=>
   ((z0g ps=true/\∃ R M,e=.returned (.tuple #[.pointer (some ⟨R,0,none⟩),.bool true])/\Atl w' R M a ps.length c/\Liv w' M ps.length (liv ps ps.length)/\w.heap.size<=M)\/(z0g ps=false/\e=.returned (.tuple #[.pointer none,.bool false])))/\Below w.heap.size w w':=by
 have hw:Below w.heap.size w (w.alloc (Obj.cells #[.slice a ps.length c] 46)):=bAw
 by_cases hl:1<=ps.length/\ps.length<=16
 ·have HY:Hid (okT ps ps.length=true->z0g ps=true):=zkq ps hl
  have HN:Hid (∀ k,z14 ps k=false->k<ps.length->z0g ps=false):=zoz ps;have HSTL:Hid (∀ (k m:Nat) (R M:Nat) (w:World),Atl w R M a ps.length c->Pls w a ps->Liv w M m (liv ps k)->M≠R->k<ps.length->m<=1000->Calls Tryz.prog 73 #[.pointer (some ⟨R,0,none⟩),.int .i64 k] w fun e w'=>
   e=.returned (.bool (z14 ps k))/\(z14 ps k=true->Liv w' M (m+1) (liv ps (k+1))/\Atl w' R M a ps.length c)/\Below M w w'):=fun k m R M w h1 h2 h3 h4 h5 h6=>zgr R M a c ps k m w h1 h2 h3 h4 h5 hl.2 h6
  have HB:Hid (Pls w a ps):=hb;have HZ:Hid (liv ps 0=(fun _=>[])/\okT ps 0=true/\∀ k,okT ps k=true->z14 ps k=true->okT ps (k+1)=true):=⟨by funext s;rfl,rfl,fun k h1 h2=>by simp only [okT,h1,h2];rfl⟩
  clear hb;generalize z0g ps=RR at *;generalize hlen:ps.length=n at *;clear hlen hn;obtain ⟨hl1,hl2⟩:=hl;have hmm:=@run_makeMap Tryz.prog
  go_enter Tryz.func53,Tryz.ntmps53
  go_wp2
  have e1:(w.alloc (Obj.cells #[.slice a n c] 46)).heap.size=w.heap.size+1:=by simp
  have e2:((w.alloc (Obj.cells #[.slice a n c] 46)).alloc (.map #[] 0)).heap.size=w.heap.size+1+1:=by simp
  have HW:Hid (Below w.heap.size w (((w.alloc (Obj.cells #[.slice a n c] 46)).alloc (.map #[] 0)).alloc (Obj.cells #[.slice a n c,.map (some (w.heap.size+1))] 88))):=
   (((Below.refl _ _).alloc nl _).alloc (by simp) _).alloc (by simp;omega) _
  have HL0:Hid (Liv (((w.alloc (Obj.cells #[.slice a n c] 46)).alloc (.map #[] 0)).alloc (Obj.cells #[.slice a n c,.map (some (w.heap.size+1))] 88)) (w.heap.size+1) 0 (liv ps 0)):=by
   have h1:=(Liv.made (w.alloc (Obj.cells #[.slice a n c] 46))).below ((Below.refl _ _).alloc nl (Obj.cells #[.slice a n c,.map (some (w.heap.size+1))] 88));rw [e1] at h1;rw [HZ.out.1];exact h1
  have HA0:Hid (Atl (((w.alloc (Obj.cells #[.slice a n c] 46)).alloc (.map #[] 0)).alloc (Obj.cells #[.slice a n c,.map (some (w.heap.size+1))] 88)) (w.heap.size+1+1) (w.heap.size+1) a n c):=⟨by
   rw [<-e2];exact heap_alloc_new _ _⟩
  clear e1 e2 hmm;generalize ((w.alloc (Obj.cells #[.slice a n c] 46)).alloc (.map #[] 0)).alloc (Obj.cells #[.slice a n c,.map (some (w.heap.size+1))] 88)=W at *
  go_loopw [24] (fun i wr=>∃ k:Nat,k<=n/\i=.int .i64 k/\okT ps k=true/\Atl wr (w.heap.size+1+1) (w.heap.size+1) a n c/\Liv wr (w.heap.size+1) k (liv ps k)/\Below w.heap.size w wr) (fun i _=>n-(intOf i).toNat)
  case atStart=>exact ⟨0,Nat.zero_le _,rfl,HZ.out.2.1,HA0.out,HL0.out,HW.out⟩
  case round=>
   obtain ⟨k,hk,rfl,hok,hA,hL,hbel⟩:=hrel;have HR:Hid (okT ps k=true/\Atl wr (w.heap.size+1+1) (w.heap.size+1) a n c/\Liv wr (w.heap.size+1) k (liv ps k)/\Below w.heap.size w wr):=⟨hok,hA,hL,hbel⟩;clear hok hA hL hbel
   by_cases hlt:k<n
   ·have HS:=HSTL.out k k (w.heap.size+1+1) (w.heap.size+1) wr HR.out.2.1 (HB.out.below HR.out.2.2.2 nl) HR.out.2.2.1 (by omega) hlt (by omega)
    go_wp2_with fail
    refine HS.mono ?_;clear HS;rintro e w1 ⟨rfl,hT,hb1⟩;have HB1:Hid (Below w.heap.size w w1):=HR.out.2.2.2.trans (hb1.mono (by omega))
    clear hb1
    cases hst:z14 ps k with
    | true=>
     have HT:Hid (okT ps (k+1)=true/\Liv w1 (w.heap.size+1) (k+1) (liv ps (k+1))/\Atl w1 (w.heap.size+1+1) (w.heap.size+1) a n c):=⟨HZ.out.2.2 k HR.out.1 hst,hT hst⟩;clear hT hst;go_wp2;go_roundw
     case rel=>exact ⟨k+1,by omega,by go_num,HT.out.1,HT.out.2.2,HT.out.2.1,HB1.out⟩
     case measure=>simp [intOf];omega
    | false=>
     have HF:Hid (RR=false/\True):=⟨HN.out k hst hlt,trivial⟩;clear hT hst;go_wp2;exact bodyPost_ret (v:=.tuple #[.pointer none,.bool false]) (by simp [results,Tryz.results53,go_sem]) rfl ⟨.inr ⟨HF.out.1,rfl⟩,HB1.out⟩
   ·have hkn:k=n:=by omega
    subst hkn;have HF:Hid (RR=true/\True):=⟨HY.out HR.out.1,trivial⟩;go_wp2;exact bodyPost_ret (v:=.tuple #[.pointer (some ⟨w.heap.size+1+1,0,none⟩),.bool true]) (by simp [results,Tryz.results53,go_sem]) rfl ⟨.inl ⟨HF.out.1,_,_,rfl,HR.out.2.1,HR.out.2.2.1,by omega⟩,HR.out.2.2.2⟩
 ·have HS:Hid (z0g ps=false/\True):=⟨zhj ps hl,trivial⟩
  have key:(ps.length:Int)<1\/(1<=(ps.length:Int)/\16<(ps.length:Int)):=by omega
  clear hl hb;rcases key with h | ⟨h,h2⟩
  all_goals
   go_enter Tryz.func53,Tryz.ntmps53
   go_wp2
   exact bodyPost_ret (v:=.tuple #[.pointer none,.bool false]) (by simp [results,Tryz.results53,go_sem]) rfl ⟨.inr ⟨HS.out.1,rfl⟩,hw⟩
end Go.Proofs.YtjmcjbmjgpponaaGreatDoor
namespace Go.Proofs.YtjmcjbmjgpponaaGreatDoor
open Go.RowKit
set_option linter.unusedVariables false
set_option linter.unusedSimpArgs false
def lvL (ps:List (Int × Int)) (s:Int):List Int:=if z0g ps then liv ps ps.length s else []
structure AyT (f:List Int->Option (List Int)) (ps:List (Int × Int)) (s E O:Int) (es:List El):Prop where
 map:z0g ps=true
 pack:PkR f E O es
 lo:2<=s
 hi:s<24
 liv:(liv ps ps.length s).length=0
def AyP (f:List Int->Option (List Int)) (ps:List (Int × Int)) (s E O:Int) (es:List El) (qs:List (Int × Int)) (R:Bool):Prop:=
 (AyT f ps s E O es/\qs=mvL s es ps es.length/\R=true)\/(¬AyT f ps s E O es/\qs=[]/\R=false)
def AyA (f:List Int->Option (List Int)) (ps:List (Int × Int)) (s E O:Int) (es:List El) (w:World) (r:Ending) (w':World):Prop:=
 (∃ qs R a c,AyP f ps s E O es qs R/\r=.returned (.tuple #[.agg #[.slice a qs.length c],.bool R])/\MinP w' w.heap.size w'.heap.size a c qs)/\Below w.heap.size w w'
theorem AyA.no {f:List Int->Option (List Int)} {ps:List (Int × Int)} {s E O:Int} {es:List El} {w w':World} (h:¬AyT f ps s E O es) (hb:Below w.heap.size w w'):AyA f ps s E O es w (.returned (.tuple #[.agg #[.slice none 0 0],.bool false])) w':=
 ⟨⟨[],false,none,0,.inr ⟨h,rfl,rfl⟩,rfl,.inl ⟨rfl,rfl,rfl⟩⟩,hb⟩
theorem AyA.yes {f:List Int->Option (List Int)} {ps:List (Int × Int)} {s E O:Int} {es:List El} {w w':World} {g c:Nat} (h:AyT f ps s E O es) (ho:OwP w' w.heap.size g c (mvL s es ps es.length)) (hb:Below w.heap.size w w'):AyA f ps s E O es w (.returned (.tuple #[.agg #[.slice (some ⟨g,0,none⟩) ps.length c],.bool true])) w':=
 ⟨⟨_,true,some ⟨g,0,none⟩,c,.inl ⟨h,rfl,rfl⟩,by rw [z4d],.inr ⟨g,rfl,ho.lt.1,ho.lt.2,ho⟩⟩,hb⟩
theorem z9r {s:Int} {es:List El} {l:List (Int × Int)} (hr:∀ k,k<es.length->0<=(es.getD k de).n) (hap:∀ j k,j<k->k<es.length->(es.getD j de).n≠(es.getD k de).n) (i:Nat) (hi:i<l.length):∀ m,m<=es.length ->
  ((∀ k,k<m->(es.getD k de).n≠(i:Int))->(mvL s es l m).getD i dp=l.getD i dp) /\
  (∀ k,k<m->(es.getD k de).n=(i:Int)->(mvL s es l m).getD i dp=if 0<(es.getD k de).ls.length then (s,(k:Int)) else dp)
 | 0,_=>⟨fun _=>rfl,fun k hk=>by omega⟩
 | m+1,hm=>by
  obtain ⟨h1,h2⟩:=z9r hr hap i hi m (by omega)
  have hl:=z4d s es l m;have hn:=hr m (by omega)
  simp only [mvL]
  unfold mvS
  by_cases hin:(es.getD m de).n=(i:Int)
  ·rw [if_pos (by rw [hl];omega)]
   refine ⟨fun h=>absurd hin (h m (by omega)),fun k hk hki=>?_⟩
   have hkm:k=m:=by
    by_cases e:k=m
    ·exact e
    ·exact absurd (hki.trans hin.symm) (hap k m (by omega) (by omega))
   subst hkm;rw [z0o _ _ _ _ (by rw [hl];omega),if_pos (by omega)]
  ·have e:∀ v,(if 0<=(es.getD m de).n/\(es.getD m de).n<(mvL s es l m).length then (mvL s es l m).set (es.getD m de).n.toNat v else mvL s es l m).getD i dp=(mvL s es l m).getD i dp:=fun v=>by
    split
    ·rename_i hq
     rw [z0o _ _ _ _ (by omega),if_neg (by omega)]
    ·rfl
   rw [e];refine ⟨fun h=>h1 (fun k hk=>h k (by omega)),fun k hk hki=>?_⟩
   have hkm:k≠m:=fun e=>hin (e ▸ hki)
   exact h2 k (by omega) hki
theorem zfe (l:List (Int × Int)) (a:Nat) (v:Int × Int) (s:Int):∀ k,(k<=a->(liv (l.set a v) k s).length=(liv l k s).length)/\(liv (l.set a v) k s).length<=(liv l k s).length+1
 | 0=>⟨fun _=>rfl,by simp [liv]⟩
 | k+1=>by
  obtain ⟨h1,h2⟩:=zfe l a v s k;have hg:k≠a->(l.set a v).getD k dp=l.getD k dp:=fun h=>by
   rw [List.getD_eq_getElem?_getD,List.getElem?_set_ne (fun e=>h e.symm),<-List.getD_eq_getElem?_getD]
  simp only [liv]
  by_cases hka:k=a
  ·subst hka
   have h3:=h1 nl;refine ⟨fun h=>by omega,?_⟩
   split <;> split <;> (try simp only [List.length_append,List.length_singleton]) <;> omega
  ·rw [hg hka]
   refine ⟨fun h=>?_,?_⟩
   ·have:=h1 (by omega)
    split <;> (try simp only [List.length_append,List.length_singleton]) <;> omega
   ·split <;> (try simp only [List.length_append,List.length_singleton]) <;> omega
theorem zfo (s t:Int) (es:List El) (l:List (Int × Int)):∀ m,(liv (mvL s es l m) l.length t).length<=(liv l l.length t).length+m
 | 0=>Nat.le_refl _
 | m+1=>by
  have h:=zfo s t es l m
  simp only [mvL]
  unfold mvS
  split
  ·have:=(zfe (mvL s es l m) (es.getD m de).n.toNat (if 0<(es.getD m de).ls.length then (s,(m:Int)) else dp) t l.length).2
   omega
  ·omega
structure AyB (w W:World) (a:Option Addr) (n cap:Nat) (E O:Int) (sa:Option Addr) (m sc:Nat):Prop where
 bel:Below w.heap.size w W
 p0:W.cell? ⟨w.heap.size,0,none⟩=some (.slice a n cap)
 q0:W.cell? ⟨w.heap.size+1,0,none⟩=some (.int .i64 E)
 q1:W.cell? ⟨w.heap.size+1,1,none⟩=some (.int .i64 O)
 q2:W.cell? ⟨w.heap.size+1,2,none⟩=some (.slice sa m sc)
 r0:W.cell? ⟨w.heap.size+1+1,0,none⟩=some (.slice none 0 0)
 r1:W.frozen? ⟨w.heap.size+1+1,0,none⟩=false
 sz:w.heap.size+1+1<W.heap.size
theorem AyB.start (w:World) (a:Option Addr) (n cap:Nat) (E O:Int) (sa:Option Addr) (m sc:Nat) (T T2:TypeId) :
  AyB w (((w.alloc (Obj.cells #[.slice a n cap] T)).alloc (Obj.cells #[.int .i64 E,.int .i64 O,.slice sa m sc] T2)).alloc (Obj.cells #[.slice none 0 0] T)) a n cap E O sa m sc:=by
 have h3:=(Box3.new (w.alloc (Obj.cells #[.slice a n cap] T)) (.int .i64 E) (.int .i64 O) (.slice sa m sc) T2).alloc (Obj.cells #[.slice none 0 0] T);have hr:=zq0 ((w.alloc (Obj.cells #[.slice a n cap] T)).alloc (Obj.cells #[.int .i64 E,.int .i64 O,.slice sa m sc] T2)) (.slice none 0 0) T;have hp:=(zq0 w (.slice a n cap) T).1;have hb:Below (w.heap.size+1) (w.alloc (Obj.cells #[.slice a n cap] T)) (((w.alloc (Obj.cells #[.slice a n cap] T)).alloc (Obj.cells #[.int .i64 E,.int .i64 O,.slice sa m sc] T2)).alloc (Obj.cells #[.slice none 0 0] T)):=((Below.refl _ _).alloc (by simp) _).alloc (by simp) _
 simp only [World.size_alloc] at h3 hr
 exact ⟨(((Below.refl _ _).alloc nl _).alloc (by simp) _).alloc (by simp;omega) _,keep hb (by omega) hp,h3.c0,h3.c1,h3.c2,hr.1,hr.2,by simp⟩
theorem AyB.step {w W W':World} {a:Option Addr} {n cap:Nat} {E O:Int} {sa:Option Addr} {m sc:Nat} (h:AyB w W a n cap E O sa m sc) (hb:Below W.heap.size W W'):AyB w W' a n cap E O sa m sc:=by
 have hz:=h.sz;exact ⟨h.bel.trans (hb.mono h.bel.size),keep hb (by omega) h.p0,keep hb (by omega) h.q0,keep hb (by omega) h.q1,keep hb (by omega) h.q2,keep hb (by omega) h.r0,(hb.frozen (p:=⟨w.heap.size+1+1,0,none⟩) (by simp only;omega)).trans h.r1,by have:=hb.size;omega⟩
theorem AyB.set {w W:World} {a:Option Addr} {n cap:Nat} {E O:Int} {sa:Option Addr} {m sc:Nat} (h:AyB w W a n cap E O sa m sc) (v:Value):Below w.heap.size w (W.setCell ⟨w.heap.size+1+1,0,none⟩ v):=h.bel.setCell (by simp only;omega) _
theorem z7p (f:List Int->Option (List Int)) (hf:z2w f) (a:Option Addr) (cap:Nat) (ps:List (Int × Int)) (s E O:Int) (sa:Option Addr) (sc:Nat) (es:List El) (w:World) (hb:Pls w a ps) (hn:ps.length<=1048576) (hi:ItI w sa es) (hx:z29 es) (hs:-9223372036854775808<=s/\s<=9223372036854775807) (hS:SentB w) :
  Calls Tryz.prog 20 #[.agg #[.slice a ps.length cap],.int .i64 s,.agg #[.int .i64 E,.int .i64 O,.slice sa es.length sc]] w (AyA f ps s E O es w):=by
 have HK:Hid (Pls w a ps/\ItI w sa es/\z29 es/\z2w f/\SentB w):=⟨hb,hi,hx,hf,hS⟩;have HAB:=AyB.start w a ps.length cap E O sa es.length sc 46 25;have HAT:=z2r a cap ps _ (hb.below HAB.bel nl) hn;clear hb hi hx hf hS
 go_enter Tryz.func20,Tryz.ntmps20
 go_wp2_with fail
 generalize (((w.alloc (Obj.cells #[.slice a ps.length cap] 46)).alloc (Obj.cells #[.int .i64 E,.int .i64 O,.slice sa es.length sc] 25)).alloc (Obj.cells #[.slice none 0 0] 46))=W0 at *;refine HAT.mono ?_;clear HAT;rintro e w1 ⟨hr,hb1⟩;have HA1:Hid (AyB w w1 a ps.length cap E O sa es.length sc):=HAB.step hb1;clear HAB hb1;rcases hr with ⟨hm,R,M,rfl,hA,hL,-⟩ | ⟨hm,rfl⟩
 rotate_left
 ·have HF:Hid (AyA f ps s E O es w (.returned (.tuple #[.agg #[.slice none 0 0],.bool false])) (w1.setCell ⟨w.heap.size+1+1,0,none⟩ (.slice none 0 0))):=AyA.no (fun h=>by rw [h.map] at hm;cases hm) (HA1.out.set _)
  have r0:=HA1.out.r0;have r1:=HA1.out.r1;clear hm;go_wp2;exact bodyPost_ret (v:=.tuple #[.agg #[.slice none 0 0],.bool false]) (by simp [results,Tryz.results20,go_sem,r0]) rfl HF.out
 have HPO:=zac f HK.out.2.2.2.1 E O sa sc es w1 (HK.out.2.1.below HA1.out.bel nl) HK.out.2.2.1 (HK.out.2.2.2.2.below HA1.out.bel);have q0:=HA1.out.q0;have q1:=HA1.out.q1;have q2:=HA1.out.q2;have HM:Hid (z0g ps=true/\Atl w1 R M a ps.length cap/\Liv w1 M ps.length (liv ps ps.length)):=⟨hm,hA,hL⟩;have hln:=ze9 ps hm;clear hm hA hL;go_wp2_with fail
 refine HPO.mono ?_;clear HPO q0 q1 q2;rintro e w2 ⟨⟨hpk,rfl⟩ | ⟨hpk,rfl⟩,hb2⟩
 rotate_left
 ·have HA2:Hid (AyB w w2 a ps.length cap E O sa es.length sc):=HA1.out.step hb2
  have HF:Hid (AyA f ps s E O es w (.returned (.tuple #[.agg #[.slice none 0 0],.bool false])) (w2.setCell ⟨w.heap.size+1+1,0,none⟩ (.slice none 0 0))):=AyA.no (fun h=>hpk h.pack) (HA2.out.set _)
  have r0:=HA2.out.r0;have r1:=HA2.out.r1;clear hpk hb2;go_wp2;exact bodyPost_ret (v:=.tuple #[.agg #[.slice none 0 0],.bool false]) (by simp [results,Tryz.results20,go_sem,r0]) rfl HF.out
 have HA2:Hid (AyB w w2 a ps.length cap E O sa es.length sc/\Atl w2 R M a ps.length cap/\Liv w2 M ps.length (liv ps ps.length)):=⟨HA1.out.step hb2,HM.out.2.1.below hb2,HM.out.2.2.below hb2⟩;have HPK:Hid (PkR f E O es/\AyB w w2 a ps.length cap E O sa es.length sc):=⟨hpk,HA2.out.1⟩;have HA2':Hid (AyB w w2 a ps.length cap E O sa es.length sc):=HA2.out.1;clear hpk hb2 HA1;have HSO:=z1l s w2;go_wp2_with fail
 refine HSO.mono ?_;clear HSO;rintro e w3 ⟨rfl,rfl⟩
 by_cases hso:2<=s/\s<=23
 rotate_left
 ·rw [decide_eq_false hso]
  have HF:Hid (AyA f ps s E O es w (.returned (.tuple #[.agg #[.slice none 0 0],.bool false])) (w3.setCell ⟨w.heap.size+1+1,0,none⟩ (.slice none 0 0))):=AyA.no (fun h=>hso ⟨h.lo,by have:=h.hi;omega⟩) (HA2'.out.set _)
  have r0:=HA2'.out.r0;have r1:=HA2'.out.r1
  skip;go_wp2;exact bodyPost_ret (v:=.tuple #[.agg #[.slice none 0 0],.bool false]) (by simp [results,Tryz.results20,go_sem,r0]) rfl HF.out
 rw [decide_eq_true hso];have a1:=HA2.out.2.1.c1;have a0:=HA2.out.2.1.c0;obtain ⟨v,hlk,hov,hzl⟩:=HA2.out.2.2.look (by omega) s (WalkArith.wf_i64 hs)
 obtain ⟨va,vc,rfl,-⟩:=hov.mine;have hlk2:Sem.run Tryz.prog (Instr.lookup 86 (.map (some M)) (.int .i64 s) false) w3=.ok (.slice va (liv ps ps.length s).length vc) w3:=hlk;clear hlk hov;generalize hz:(liv ps ps.length s).length=z at *
 by_cases h0:0<z
 ·have HF:Hid (AyA f ps s E O es w (.returned (.tuple #[.agg #[.slice none 0 0],.bool false])) (w3.setCell ⟨w.heap.size+1+1,0,none⟩ (.slice none 0 0))):=AyA.no (fun h=>by have:=h.liv;omega) (HA2'.out.set _)
  have r0:=HA2'.out.r0;have r1:=HA2'.out.r1;clear hz;go_wp2;exact bodyPost_ret (v:=.tuple #[.agg #[.slice none 0 0],.bool false]) (by simp [results,Tryz.results20,go_sem,r0]) rfl HF.out
 have HT:Hid (AyT f ps s E O es):=⟨HM.out.1,HPK.out.1,by omega,by omega,by omega⟩
 obtain rfl:z=0:=by omega
 clear hz;have HMV:Hid (∀ W,Bw w W->Calls Tryz.prog 55 #[.slice a ps.length cap,.int .i64 s,.slice sa es.length sc] W fun e w'=>(∃ g c,e=.returned (.slice (some ⟨g,0,none⟩) ps.length c)/\OwP w' W.heap.size g c (mvL s es ps es.length))/\Bw W w'):=fun W h=>
  zk6 a cap ps s sa sc es W (HK.out.1.below h nl) (by omega) (by omega) (HK.out.2.1.els.below h nl) (by have:=HPK.out.1.n;omega) hs
 have q2:=HPK.out.2.q2;go_wp2_with fail
 go_region_with (go_at_call 55;refine (HMV.out _ HPK.out.2.bel.drew).mono ?_;rintro e w4 ⟨⟨g,c,rfl,how⟩,hb4⟩;have HA4:Hid (AyB w w4 a ps.length cap E O sa es.length sc):=HPK.out.2.step (Below.drewS hb4);have r0:=HA4.out.r0;have r1:=HA4.out.r1;have HW4:Hid (OwP w4 w3.heap.size g c (mvL s es ps es.length)):=how;clear how hb4)
 all_goals
  have HF:Hid (AyA f ps s E O es w (.returned (.tuple #[.agg #[.slice (some ⟨g,0,none⟩) ps.length c],.bool true])) (w4.setCell ⟨w.heap.size+1+1,0,none⟩ (.slice (some ⟨g,0,none⟩) ps.length c))):=
   AyA.yes HT.out (OVp.weak (HW4.out.other (by have h1:=HW4.out.lt;have h6:=HPK.out.2.sz;simp only;omega) _) (by have h6:=HPK.out.2.sz;omega)) (HA4.out.set _)
  go_wp2
  exact bodyPost_ret (v:=.tuple #[.agg #[.slice (some ⟨g,0,none⟩) ps.length c],.bool true]) (by simp [results,Tryz.results20,go_sem,r0]) rfl HF.out
def nwN (n:Int):Nat:=if 1<=n/\n<=16 then n.toNat else 0
def nwB (n:Int):Bool:=decide (1<=n/\n<=16)
theorem zfn (n:Nat) (h:1<=n) (h2:n<=16):nwN n=n/\nwB n=true:=by
 unfold nwN nwB;rw [if_pos (by omega),decide_eq_true (by omega)]
 exact ⟨by omega,rfl⟩
theorem zjv (n:Int) (h:¬(1<=n/\n<=16)):nwN n=0/\nwB n=false:=by
 unfold nwN nwB;rw [if_neg h,decide_eq_false h];exact ⟨rfl,rfl⟩
theorem zaa (n:Int) (w:World) :
  Calls Tryz.prog 21 #[.int .i64 n] w fun e w'=>(∃ a c,e=.returned (.tuple #[.agg #[.slice a (nwN n) c],.bool (nwB n)])/\MinP w' w.heap.size w'.heap.size a c (List.replicate (nwN n) dp))/\Below w.heap.size w w':=by
 by_cases h:1<=n/\n<=16
 ·obtain ⟨m,rfl⟩:=Int.eq_ofNat_of_zero_le (show 0<=n by omega)
  have h1:1<=m:=by omega
  have h2:m<=16:=by omega
  rw [(zfn m h1 h2).1,(zfn m h1 h2).2];clear h;obtain ⟨i0,hi,hz0,hz1,hz2⟩:=info_parts Tryz.infoPl
  go_enter Tryz.func21,Tryz.ntmps21
  have HW:Hid (Below w.heap.size w (w.alloc (Obj.cells #[.slice none 0 0] 46))/\(w.alloc (Obj.cells #[.slice none 0 0] 46)).heap.size=w.heap.size+1):=⟨(Below.refl _ _).alloc nl _,by simp⟩
  go_wp2_with (at_make;refine wpList_make_full _ rfl _ _ 44 rfl (w.alloc (Obj.cells #[.slice none 0 0] 46)).heap.size 54 i0 (.agg #[.int .i64 0,.int .i64 0]) 2 Tryz.underlying44 hi hz0 hz1 .i64 .i64 _ _ m rfl rfl rfl rfl (by rw [hz2];omega) (by unfold maxLen;omega) nl ?_;intro w1 hown hgrow;have hbw:Below (w.alloc (Obj.cells #[.slice none 0 0] 46)).heap.size (w.alloc (Obj.cells #[.slice none 0 0] 46)) w1:=(Below.refl _ _).grown hgrow nl (by intro k hk;cases hk);have x0:w1.cell? ⟨w.heap.size,0,none⟩=some (.slice none 0 0):=keep hbw (by simp) (by simp);have x1:w1.frozen? ⟨w.heap.size,0,none⟩=false:=((hbw.frozen (p:=⟨w.heap.size,0,none⟩) (by simp)).trans (by simp)))
  have hmade:=OwP.made hown;have HM:Hid (OwP (w1.setCell ⟨w.heap.size,0,none⟩ (.slice (some ⟨w.heap.size+1,0,none⟩) m m)) w.heap.size (w.heap.size+1) m (List.replicate m dp)):=by
   have:=hmade;rw [HW.out.2] at this;exact OVp.weak (this.other (by simp) _) (by omega)
  have HB:Hid (Below w.heap.size w (w1.setCell ⟨w.heap.size,0,none⟩ (.slice (some ⟨w.heap.size+1,0,none⟩) m m))):=(HW.out.1.trans (hbw.mono HW.out.1.size)).setCell (p:=⟨w.heap.size,0,none⟩) nl _;clear hown hgrow hmade hbw;exact bodyPost_ret (v:=.tuple #[.agg #[.slice (some ⟨w.heap.size+1,0,none⟩) m m],.bool true]) (by simp [results,Tryz.results21,go_sem,x0]) rfl ⟨⟨_,_,rfl,.inr ⟨_,rfl,HM.out.lt.1,HM.out.lt.2,HM.out⟩⟩,HB.out⟩
 ·rw [(zjv n h).1,(zjv n h).2]
  have key:n<1\/(1<=n/\16<n):=by omega
  have HW:Hid (Below w.heap.size w (w.alloc (Obj.cells #[.slice none 0 0] 46))):=bAw;clear h;rcases key with h | ⟨h,h2⟩
  all_goals
   go_enter Tryz.func21,Tryz.ntmps21
   go_wp2
   exact bodyPost_ret (v:=.tuple #[.agg #[.slice none 0 0],.bool false]) (by simp [results,Tryz.results21,go_sem]) rfl ⟨⟨_,_,rfl,.inl ⟨rfl,rfl,rfl⟩⟩,HW.out⟩
open Go.Maps
theorem z5n (a:Option Addr) (cap:Nat) (ps:List (Int × Int)) (w:World) (hb:Pls w a ps) (hn:ps.length<=1048576) :
  Calls Tryz.prog 22 #[.agg #[.slice a ps.length cap]] w fun e w'=>e=.returned (.bool (z0g ps))/\Below w.heap.size w w':=by
 have hw:Bw w (w.alloc (Obj.cells #[.slice a ps.length cap] 46)):=bAw
 go_enter Tryz.func22,Tryz.ntmps22
 go_wp2_with fail
 refine (z2r a cap ps _ (hb.below hw nl) hn).mono ?_;rintro e w1 ⟨hr,hb1⟩;have HB1:Hid (Bw w w1):=hw.trans (hb1.mono hw.size);clear hb1 hb;rcases hr with ⟨hm,R,M,rfl,-,-⟩ | ⟨hm,rfl⟩
 all_goals
  have HM:Hid (_/\True):=⟨hm,trivial⟩;clear hm;go_wp2;go_ret;exact ⟨by rw [HM.out.1];rfl,HB1.out⟩
end Go.Proofs.YtjmcjbmjgpponaaGreatDoor
namespace Go.Proofs.YtjmcjbmjgpponaaGreatDoor
open Go.RowKit
set_option linter.unusedVariables false
set_option linter.unusedSimpArgs false
theorem z4l (a:Option Addr) (cap:Nat) (ps:List (Int × Int)) (x:Int) (w:World) (hb:Pls w a ps) (hn:ps.length<=1048576) :
  Calls Tryz.prog 23 #[.agg #[.slice a ps.length cap],.int .i64 x] w fun e w'=>e=.returned (.tuple #[.agg #[.int .i64 (gtP ps x).1,.int .i64 (gtP ps x).2],.bool (gtB ps x)])/\Below w.heap.size w w':=by
 have hw:Below w.heap.size w ((w.alloc (Obj.cells #[.slice a ps.length cap] 46)).alloc (Obj.cells #[.int .i64 0,.int .i64 0] 54)):=((Below.refl _ _).alloc nl _).alloc (by simp) _
 have e1:(w.alloc (Obj.cells #[.slice a ps.length cap] 46)).heap.size=w.heap.size+1:=by simp
 have t0:((w.alloc (Obj.cells #[.slice a ps.length cap] 46)).alloc (Obj.cells #[.int .i64 0,.int .i64 0] 54)).cell? ⟨w.heap.size+1,0,none⟩=some (.int .i64 0):=by rw [<-e1];simp
 have t1:((w.alloc (Obj.cells #[.slice a ps.length cap] 46)).alloc (Obj.cells #[.int .i64 0,.int .i64 0] 54)).cell? ⟨w.heap.size+1,1,none⟩=some (.int .i64 0):=by rw [<-e1];simp
 have f0:((w.alloc (Obj.cells #[.slice a ps.length cap] 46)).alloc (Obj.cells #[.int .i64 0,.int .i64 0] 54)).frozen? ⟨w.heap.size+1,0,none⟩=false:=by rw [<-e1];simp
 have f1:((w.alloc (Obj.cells #[.slice a ps.length cap] 46)).alloc (Obj.cells #[.int .i64 0,.int .i64 0] 54)).frozen? ⟨w.heap.size+1,1,none⟩=false:=by rw [<-e1];simp
 have tl:w.heap.size+1<((w.alloc (Obj.cells #[.slice a ps.length cap] 46)).alloc (Obj.cells #[.int .i64 0,.int .i64 0] 54)).heap.size:=by simp
 have HAT:=z2r a cap ps _ (hb.below hw nl) hn;clear e1;have HB:Hid (Pls w a ps):=hb;clear hb
 go_enter Tryz.func23,Tryz.ntmps23
 go_wp2_with fail
 refine HAT.mono ?_;clear HAT;generalize (w.alloc (Obj.cells #[.slice a ps.length cap] 46)).alloc (Obj.cells #[.int .i64 0,.int .i64 0] 54)=W at *;rintro e w1 ⟨hr,hb1⟩;have r0:=keep hb1 tl t0;have r1:=keep hb1 tl t1;have g0:=(hb1.frozen (p:=⟨w.heap.size+1,0,none⟩) tl).trans f0;have g1:=(hb1.frozen (p:=⟨w.heap.size+1,1,none⟩) tl).trans f1;have rl:w.heap.size+1<w1.heap.size:=Nat.lt_of_lt_of_le tl hb1.size
 have HB1:Hid (Below w.heap.size w w1):=hw.trans (hb1.mono hw.size);clear hb1 t0 t1 f0 f1 tl hw;rcases hr with ⟨hm,R,M,rfl,hA,hL,-⟩ | ⟨hm,rfl⟩
 ·have a0:=hA.c0
  have HPO:=z48 a cap ps x w1 (HB.out.below HB1.out nl) hn;have HG:Hid (gtP ps x=z0h ps x/\gtB ps x=!nwh (z0h ps x)):=⟨by unfold gtP;rw [hm];rfl,by unfold gtB;rw [hm];rfl⟩
  clear hm hA hL;generalize z0h ps x=q at *;obtain ⟨y,z⟩:=q
  simp only at HPO
  go_wp2_with fail
  refine HPO.mono ?_;clear HPO;rintro e w2 ⟨rfl,hb2⟩;have hb3:Below w1.heap.size w1 (w2.alloc (Obj.cells #[.int .i64 y,.int .i64 z] 54)):=hb2.alloc hb2.size _;have s0:=keep hb3 rl r0;have s1:=keep hb3 rl r1;have k0:=(hb3.frozen (p:=⟨w.heap.size+1,0,none⟩) rl).trans g0;have k1:=(hb3.frozen (p:=⟨w.heap.size+1,1,none⟩) rl).trans g1;have b0:(w2.alloc (Obj.cells #[.int .i64 y,.int .i64 z] 54)).cell? ⟨w2.heap.size,0,none⟩=some (.int .i64 y):=by simp
  have b1:(w2.alloc (Obj.cells #[.int .i64 y,.int .i64 z] 54)).cell? ⟨w2.heap.size,1,none⟩=some (.int .i64 z):=by simp
  have bl:w2.heap.size<(w2.alloc (Obj.cells #[.int .i64 y,.int .i64 z] 54)).heap.size:=by simp
  have sl:w.heap.size+1<(w2.alloc (Obj.cells #[.int .i64 y,.int .i64 z] 54)).heap.size:=Nat.lt_of_lt_of_le rl hb3.size;have hne:w2.heap.size≠w.heap.size+1:=by have:=hb2.size;omega
  have HB3:Hid (Below w.heap.size w (w2.alloc (Obj.cells #[.int .i64 y,.int .i64 z] 54))):=HB1.out.trans (hb3.mono HB1.out.size);clear hb2 hb3 r0 r1 g0 g1 rl HB1 a0;go_wp2_with fail
  generalize w2.heap.size=Q at *;generalize w2.alloc (Obj.cells #[.int .i64 y,.int .i64 z] 54)=V at *;have HNW:=z5t y z V.drew
  go_region_with (go_at_call 57;refine HNW.mono ?_;rintro e w8 ⟨rfl,hb8'⟩;have hb8:Below V.heap.size V w8:=Below.drewS hb8';have c0:=keep hb8 bl b0;have c1:=keep hb8 bl b1;have u0:=keep hb8 sl s0;have u1:=keep hb8 sl s1;have m0:=(hb8.frozen (p:=⟨w.heap.size+1,0,none⟩) sl).trans k0;have m1:=(hb8.frozen (p:=⟨w.heap.size+1,1,none⟩) sl).trans k1;have HB8:Hid (Below w.heap.size w w8):=HB3.out.trans (hb8.mono HB3.out.size);clear hb8 hb8')
  all_goals
   go_wp2
   refine bodyPost_ret (v:=.tuple #[.agg #[.int .i64 y,.int .i64 z],.bool (!nwh (y,z))]) (by simp [results,Tryz.results23,go_sem,u0,u1]) rfl ⟨by rw [HG.out.1,HG.out.2],?_⟩
   exact (HB8.out.setCell (p:=⟨w.heap.size+1,0,none⟩) (by simp) _).setCell (p:=⟨w.heap.size+1,1,none⟩) (by simp) _
 ·have HG:Hid (gtP ps x=dp/\gtB ps x=false):=⟨by unfold gtP;rw [hm];rfl,by unfold gtB;rw [hm];rfl⟩
  clear hm;go_wp2;refine bodyPost_ret (v:=.tuple #[.agg #[.int .i64 0,.int .i64 0],.bool false]) (by simp [results,Tryz.results23,go_sem,r0,r1]) rfl ⟨by rw [HG.out.1,HG.out.2];rfl,?_⟩
  exact (HB1.out.setCell (p:=⟨w.heap.size+1,0,none⟩) (by simp) _).setCell (p:=⟨w.heap.size+1,1,none⟩) (by simp) _
theorem z8y (a:Option Addr) (cap:Nat) (ps:List (Int × Int)) (s:Int) (w:World) (hb:Pls w a ps) (hn:ps.length<=1048576) (hs:-9223372036854775808<=s/\s<=9223372036854775807) :
  Calls Tryz.prog 25 #[.agg #[.slice a ps.length cap],.int .i64 s] w fun e w'=>(∃ a c,e=.returned (.slice a (lvL ps s).length c)/\MinI w' w.heap.size w'.heap.size a c (lvL ps s))/\Below w.heap.size w w':=by
 have hw:Bw w (w.alloc (Obj.cells #[.slice a ps.length cap] 46)):=bAw;have HAT:=z2r a cap ps _ (hb.below hw nl) hn;clear hb
 go_enter Tryz.func25,Tryz.ntmps25
 go_wp2_with fail
 refine HAT.mono ?_;clear HAT;rintro e w1 ⟨hr,hb1⟩;have HB1:Hid (Bw w w1):=hw.trans (hb1.mono hw.size);clear hb1;rcases hr with ⟨hm,R,M,rfl,hA,hL,hM⟩ | ⟨hm,rfl⟩
 ·have a1:=hA.c1
  have hln:=(ze9 ps hm).2;obtain ⟨v,hlk,hov,hlen⟩:=hL.look (by omega) s (WalkArith.wf_i64 hs)
  obtain ⟨va,vc,rfl,hmi⟩:=hov.mine;have HG:Hid (lvL ps s=liv ps ps.length s/\MinI w1 w.heap.size w1.heap.size va vc (liv ps ps.length s)):=⟨by unfold lvL;rw [hm];rfl,hmi.mono (by simp at hM;omega) nl⟩
  have hlk2:Sem.run Tryz.prog (Instr.lookup 86 (.map (some M)) (.int .i64 s) false) w1=.ok (.slice va (liv ps ps.length s).length vc) w1:=hlk;clear hm hA hL hlk hov hmi hM hlen;generalize hll:liv ps ps.length s=ls at *;go_wp2;go_ret;exact ⟨⟨va,vc,by rw [HG.out.1];rfl,by rw [HG.out.1];exact HG.out.2⟩,HB1.out⟩
 ·have HG:Hid (lvL ps s=[]/\True):=⟨by unfold lvL;rw [hm];rfl,trivial⟩
  clear hm;go_wp2;go_ret;exact ⟨⟨none,0,by rw [HG.out.1];rfl,.inl ⟨rfl,HG.out.1,rfl⟩⟩,HB1.out⟩
def PfP (f:List Int->Option (List Int)) (E O:Int) (es:List El) (x t:Int):Prop:=(PkR f E O es/\z4a es x t)\/(¬PkR f E O es/\t=-1)
theorem z8c (f:List Int->Option (List Int)) (hf:z2w f) (E O x:Int) (a:Option Addr) (cap:Nat) (es:List El) (w:World) (hb:ItI w a es) (hx:z29 es) :
  Calls Tryz.prog 24 #[.agg #[.int .i64 E,.int .i64 O,.slice a es.length cap],.int .i64 x] w fun r w'=>(∃ t,r=.returned (.int .i64 t)/\PfP f E O es x t)/\Below w.heap.size w w':=by
 have hw:Bw w (w.alloc (Obj.cells #[.int .i64 E,.int .i64 O,.slice a es.length cap] 25)):=bAw;have hbx:=Box3.new w (.int .i64 E) (.int .i64 O) (.slice a es.length cap) 25;have HOK:=zab f hf E O a cap es _ (hb.below hw nl) hx;have HB:Hid (ItI w a es/\z29 es):=⟨hb,hx⟩;clear hb hx
 go_enter Tryz.func24,Tryz.ntmps24
 go_wp2_with fail
 generalize w.alloc (Obj.cells #[.int .i64 E,.int .i64 O,.slice a es.length cap] 25)=W0 at *;refine HOK.mono ?_;clear HOK;rintro e w1 ⟨⟨hp,rfl⟩ | ⟨hp,rfl⟩,hb1⟩
 ·have HW1:Hid (Bw w w1/\PkR f E O es):=⟨hw.trans (hb1.mono hw.size),hp⟩
  obtain ⟨p0,p1,p2,-,-,-,pl⟩:=hbx.step hb1;have HSZ:=z9c E O x a cap es w1 (HB.out.1.els.below HW1.out.1 nl) HB.out.2.n;clear hb1 hp hbx;go_wp2_with fail
  refine HSZ.mono ?_;clear HSZ;rintro e w2 ⟨⟨z,rfl,hz⟩,hb2⟩;have HW2:Hid (Bw w w2/\z4a es x z):=⟨HW1.out.1.trans (hb2.mono HW1.out.1.size),hz⟩;clear hb2 hz;go_wp2;go_ret;exact ⟨⟨_,rfl,.inl ⟨HW1.out.2,HW2.out.2⟩⟩,HW2.out.1⟩
 ·have HW1:Hid (Bw w w1/\¬PkR f E O es):=⟨hw.trans (hb1.mono hw.size),hp⟩
  clear hb1 hp hbx;go_wp2;go_ret;exact ⟨⟨_,rfl,.inr ⟨HW1.out.2,rfl⟩⟩,HW1.out.1⟩
open Go.ChangeShapes Go.WideShapes Go.ChangeAt Go.Joins
theorem Tryz.own :ownKnob Tryz.prog.godebug=none:=by kernel_rfl
theorem Tryz.laidOut :laidOutB Tryz.prog=true:=by kernel_rfl
theorem zf3 {H:Type} {enc:TypeId × Value->H} {W:World} {fuel:Nat} {v:Value} {y:DataW H × List MemPlace}
  (h:DataW.trod enc Tryz.prog W 0 (fun _=>true) true fuel 22 [v]=some y) :
  ∃ (a:Option Addr) (zs:List Int) (cap:Nat),v=.slice a zs.length cap/\Byt W a zs/\zs.length<=maxLen:=by
 rcases open_ints Tryz.underlying22 Tryz.underlying5 (by kernel_rfl) h with ⟨hcs,_⟩ | ⟨x,l,c,zs,hcs,_,hl,hm,hz,_,hcell,hwz⟩
 ·simp at hcs
  subst hcs;exact ⟨.none,[],0,rfl,⟨by simp,by simp⟩,by simp [maxLen]⟩
 ·simp at hcs
  subst hcs
  simp only [if_true] at hz
  have hlen:(zs.take l).length=l:=by rw [List.length_take];omega
  refine ⟨some x,zs.take l,c,by rw [hlen],⟨?_,?_⟩,by rw [hlen];omega⟩
  ·intro z hz'
   have:=hwz z (List.mem_of_mem_take hz')
   simp [Lit.wf] at this
   exact bounds_u8 (hwz z (List.mem_of_mem_take hz'))
  ·intro hp
   rw [hlen] at hp;obtain ⟨b,off,spot⟩:=x;have hc:=hcell 0 (by omega)
   have hspot:spot=.none:=by simpa [Addr.add] using World.cell?_spot hc
   subst hspot;refine ⟨b,off,rfl,?_,fun i hi=>?_⟩
   ·have:=World.block_lt_of_cell? _ _ hc
    simpa [Addr.add] using this
   ·rw [hlen] at hi
    have:=hcell i (by omega)
    have hadd:(⟨b,off,.none⟩:Addr).add i=⟨b,off+i,.none⟩:=by unfold Addr.add;split <;> simp_all
    rw [hadd] at this;rw [show (zs.take l).getD i 0=zs.getD i 0 from by simp [hi]]
    exact this
theorem Tryz.cellsES :Tryz.prog.cellsOf 329=1:=by kernel_rfl
theorem Tryz.cellsStr :Tryz.prog.cellsOf 9=1:=by kernel_rfl
theorem Tryz.star : "*" ++ "errors.errorString" = "*errors.errorString" := by decide
theorem Tryz.rowES (u : TypeId) (h : Tryz.prog.typeName? 3 u = some "*errors.errorString") : u = 303 :=
 typeName_ptr_named (nm := "errors.errorString") (by rw [Tryz.star]; kernel_rfl) (by kernel_rfl) (by decide) u (by rw [Tryz.star]; exact h)
theorem z00 {n : String} {text : List UInt8} {r : List (String × DataW Unit)} {W : World} {g : Nat} (h : laidMet Tryz.prog ((n, .iface "*errors.errorString" (.ptr (.agg [.lit (.string text)]))) :: r) W)
  (hg:Tryz.prog.globalNamed n=some g) (ht:(Tryz.prog.globals[g]?).map (·.type)=some 67) :
  ∃ a:Addr,W.var? Tryz.prog n=some #[.iface 303 (.pointer (some a))]/\W.cell? ⟨g,0,.none⟩=some (.iface 303 (.pointer (some a))):=by
 obtain ⟨a0,s0,hv0,hc0,hs0,hz0⟩:=laid_sentinel h hg ht Tryz.underlying67 Tryz.rowES Tryz.underlying303 Tryz.underlying329 rfl rfl Tryz.underlying9 Tryz.cellsES Tryz.cellsStr;exact ⟨a0,hv0,by simpa using World.var?_cell hg hv0 0⟩
theorem zmr {H:Type} (enc:TypeId × Value->H) {P:Program} {W:World} (sp:Nat->Bool):DataW.TrodVars enc P W sp [] [] []:=rfl
theorem zu {H:Type} (enc:TypeId × Value->H) {P:Program} {W:World} {n:String} {g:Nat} {t:TypeId} {ms:Array (String × TypeId)} {x:Value} {ns:List String} {ds:List (DataW H)} {ps:List MemPlace} {sp:Nat->Bool}
  (hg:P.globalNamed n=some g) (ht:(P.globals[g]?).map (·.type)=some t) (hi:P.underlying t=some (.interface ms)) (h:W.var? P n=some #[x]) (ix:IsIface x) (hr:DataW.TrodVars enc P W sp ns ds ps) :
  DataW.TrodVars enc P W sp (n :: ns) (tok enc x :: ds) (.cell g 0 :: ps):=⟨g,t,#[x],1,[],ps,hg,ht,h,trod_held hi ix 0,hr,rfl⟩
end Go.Proofs.YtjmcjbmjgpponaaGreatDoor
