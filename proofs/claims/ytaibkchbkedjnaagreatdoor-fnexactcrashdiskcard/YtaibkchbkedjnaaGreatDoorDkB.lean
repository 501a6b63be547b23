/-
  What a disk is, in numbers. (Typed by wip/mkdk.py.)
-/
import Derived.Test.YtaibkchbkedjnaaGreatDoorPkS
import Derived.Test.YtaibkchbkedjnaaGreatDoorIBase
import Derived.Test.YtaibkchbkedjnaaGreatDoorElTo
import Derived.Test.YtaibkchbkedjnaaGreatDoorItTo
import Derived.Test.YtaibkchbkedjnaaGreatDoorProg
import Derived.WalkKit
import Derived.ProofKit
import Derived.Below
import Derived.Deep.Draws
import Derived.Test.YtaibkchbkedjnaaGreatDoorOps
namespace Go.Proofs.YtaibkchbkedjnaaGreatDoor
open Go.RowKit
set_option linter.unusedVariables false

theorem FewI.j {es:List El} (h:FewI es):FewJ es:=⟨h.n,h.l,by have:=h.sum;omega⟩
def pok (n:Nat) (q:El):Prop:=0≤q.n∧q.n<n∧q.ls.length=256
def Rok (ss ps:List El):Prop:=1≤ss.length∧ss.length≤24∧ps.length≤60∧(∀ k,k<ss.length→(ss.getD k de).ls.length=256)∧∀ k,k<ps.length→pok ss.length (ps.getD k de)
theorem Rok.eq (ss ps:List El):Rok ss ps=(1≤ss.length∧ss.length≤24∧ps.length≤60∧(∀ k,k<ss.length→(ss.getD k de).ls.length=256)∧∀ k,k<ps.length→0≤(ps.getD k de).n∧(ps.getD k de).n<ss.length∧(ps.getD k de).ls.length=256):=rfl
def rok (ss ps:List El):Bool:=decide (1≤ss.length∧ss.length≤24∧ps.length≤60∧(∀ k,k<ss.length→(ss.getD k de).ls.length=256)∧∀ k,k<ps.length→0≤(ps.getD k de).n∧(ps.getD k de).n<ss.length∧(ps.getD k de).ls.length=256)
theorem rok_yes {ss ps:List El} (h:Rok ss ps):rok ss ps=true:=decide_eq_true (by rw [Rok.eq] at h;exact h)
theorem rok_no {ss ps:List El} (h:¬Rok ss ps):rok ss ps=false:=decide_eq_false (by rw [Rok.eq] at h;exact h)
theorem rok_ok {ss ps:List El} (h:rok ss ps=true):Rok ss ps:=by rw [Rok.eq];exact of_decide_eq_true h
theorem Rok.ct {ss ps ts qs:List El} (h1:ts.map El.ct=ss.map El.ct) (h2:qs.map El.ct=ps.map El.ct) (h:Rok ss ps):Rok ts qs:=by
 obtain ⟨a,b,c,d,e⟩:=h
 have l1:=len_ctE h1
 have l2:=len_ctE h2
 refine ⟨by omega,by omega,by omega,fun k hk=>?_,fun k hk=>?_⟩
 ·have:=ctE_get h1 k
  simp only [El.ct,Prod.mk.injEq] at this
  rw [this.2]
  exact d k (by omega)
 ·have:=ctE_get h2 k
  simp only [El.ct,Prod.mk.injEq] at this
  have h3:=e k (by omega)
  unfold pok at h3 ⊢
  rw [this.1,this.2,l1]
  exact h3
theorem rok_ct {ss ps ts qs:List El} (h1:ts.map El.ct=ss.map El.ct) (h2:qs.map El.ct=ps.map El.ct):rok ts qs=rok ss ps:=by
 by_cases h:Rok ss ps
 ·rw [rok_yes h,rok_yes (h.ct h1 h2)]
 ·rw [rok_no h,rok_no (fun h3=>h (h3.ct h1.symm h2.symm))]

set_option maxRecDepth 20000 in
set_option maxHeartbeats 4000000 in
theorem specRawOk_any (sa pa:Option Addr) (sc pc:Nat) (ss ps:List El) (w:World) (hb:RawI w sa pa ss ps) (hx:ss.length≤281474976710656) (hy:ps.length≤281474976710656) (hxl:∀ s ∈ ss,s.ls.length≤281474976710656) (hyl:∀ s ∈ ps,s.ls.length≤281474976710656) :
  Calls Tryz.prog 76 #[.agg #[.slice sa ss.length sc,.slice pa ps.length pc]] w fun e w'=>e=.returned (.bool (rok ss ps))∧Below w.heap.size w w':=by
 have HB:Hid (RawI w sa pa ss ps):=hb
 have HXL:Hid ((∀ s ∈ ss,s.ls.length≤281474976710656)∧∀ s ∈ ps,s.ls.length≤281474976710656):=⟨hxl,hyl⟩
 have HY:Hid (1≤ss.length→ss.length≤24→ps.length≤60→(∀ k,k<ss.length→(ss.getD k de).ls.length=256)→(∀ k,k<ps.length→pok ss.length (ps.getD k de))→rok ss ps=true):=fun a b c d e=>rok_yes ⟨a,b,c,d,e⟩
 have HN0:Hid (¬(1≤ss.length∧ss.length≤24∧ps.length≤60)→rok ss ps=false):=fun h=>rok_no (fun h1=>h ⟨h1.1,h1.2.1,h1.2.2.1⟩)
 have HN1:Hid (∀ k,k<ss.length→(ss.getD k de).ls.length≠256→rok ss ps=false):=fun k hk h=>rok_no (fun h1=>h (h1.2.2.2.1 k hk))
 have HN2:Hid (∀ k,k<ps.length→¬pok ss.length (ps.getD k de)→rok ss ps=false):=fun k hk h=>rok_no (fun h1=>h (h1.2.2.2.2 k hk))
 clear hb hxl hyl
 generalize rok ss ps=O at *
 generalize hlen:ss.length=n at *
 generalize hlen2:ps.length=m at *
 have HL:Hid (ss.length=n∧ps.length=m):=⟨hlen,hlen2⟩
 clear hlen hlen2
 have HW:Hid (Below w.heap.size w (w.alloc (Obj.cells #[Value.slice sa n sc,Value.slice pa m pc] 41))):=(Below.refl _ _).alloc (Nat.le_refl _) _
 have HX:Hid (Box2 (w.alloc (Obj.cells #[Value.slice sa n sc,Value.slice pa m pc] 41)) w.heap.size (.slice sa n sc) (.slice pa m pc)):=Box2.new _ _ _ _
 have key:(n<1)∨(1≤n∧24<n)∨(1≤n∧n≤24∧60<m)∨(1≤n∧n≤24∧m≤60):=by omega
 rcases key with h1 | ⟨h1,h2⟩ | ⟨h1,h2,h3⟩ | ⟨h1,h2,h3⟩
 ·have HF:Hid (O=false∧True):=⟨HN0.out (by omega),trivial⟩
  obtain rfl:n=0:=by omega
  go_enter Tryz.func76,Tryz.ntmps76
  go_wp2
  go_ret
  exact ⟨by rw [HF.out.1];rfl,HW.out⟩
 ·have HF:Hid (O=false∧True):=⟨HN0.out (by omega),trivial⟩
  go_enter Tryz.func76,Tryz.ntmps76
  go_wp2
  go_ret
  exact ⟨by rw [HF.out.1];rfl,HW.out⟩
 ·have HF:Hid (O=false∧True):=⟨HN0.out (by omega),trivial⟩
  go_enter Tryz.func76,Tryz.ntmps76
  go_wp2
  go_ret
  exact ⟨by rw [HF.out.1];rfl,HW.out⟩
 ·clear HN0
  go_enter Tryz.func76,Tryz.ntmps76
  go_wp2
  go_loop [3] (fun i=>∃ k:Nat,k≤n∧i=.int .i64 k∧∀ j,j<k→(ss.getD j de).ls.length=256) (fun i=>n - (intOf i).toNat)
  case atStart=>exact ⟨0,Nat.zero_le _,rfl,by simp⟩
  case round=>
   obtain ⟨k,hk,rfl,hall⟩:=hrel
   have HALL:Hid (∀ j,j<k→(ss.getD j de).ls.length=256):=hall
   clear hall
   by_cases hlt:k<n
   ·obtain ⟨b,off,rfl,hb1,c0,-,-⟩:=(HB.out.1.below HW.out (Nat.le_refl _)).sec k (by rw [HL.out.1];exact hlt)
    have hll:=HXL.out.1 _ (getD_memE (k:=k) (by rw [HL.out.1];exact hlt))
    have HN:=HN1.out k hlt
    have HS:Hid ((ss.getD k de).ls.length=256→∀ j,j<k+1→(ss.getD j de).ls.length=256):=fun h j hj=>by
     by_cases e:j=k
     ·rw [e];exact h
     ·exact HALL.out j (by omega)
    generalize ss.getD k de=s at *
    obtain ⟨sn,sa,sc',sl⟩:=s
    simp only at c0 hll HN HS
    by_cases hc:sl.length=256
    ·have HS2:Hid _:=HS.out hc
     clear HN HS
     generalize sl.length=M at *
     subst hc
     go_wp2
     go_round
     case rel=>exact ⟨k+1,by omega,by go_num,HS2.out⟩
     case measure=>simp [intOf];omega
    ·have HF:Hid (O=false∧True):=⟨HN hc,trivial⟩
     have hc':((sl.length:Int) != 256)=true:=by rw [bne_iff_ne];omega
     clear HN HS hc
     go_wp2
     go_ret
     exact ⟨by rw [HF.out.1];rfl,HW.out⟩
   ·have hkn:k=n:=by omega
    subst hkn
    go_wp2
    obtain ⟨x0,x1,-,-,xl⟩:=HX.out
    go_loopw [4] (fun i wr=>∃ q:Nat,q≤m∧i=.int .i64 q∧(∀ j,j<q→pok k (ps.getD j de))∧Below (w.heap.size+1) (w.alloc (Obj.cells #[Value.slice sa k sc,Value.slice pa m pc] 41)) wr) (fun i _=>m - (intOf i).toNat)
    case atStart=>exact ⟨0,Nat.zero_le _,rfl,by simp,Below.refl _ _⟩
    case round=>
     obtain ⟨q,hq,rfl,hall,hbel⟩:=hrel
     have HAL2:Hid (∀ j,j<q→pok k (ps.getD j de)):=hall
     have y0:=keep hbel (by omega) x0
     have y1:=keep hbel (by omega) x1
     have HBE:Hid (Below (w.heap.size+1) (w.alloc (Obj.cells #[Value.slice sa k sc,Value.slice pa m pc] 41)) wr∧Below w.heap.size w wr):=⟨hbel,HW.out.trans (hbel.mono (by omega))⟩
     have ylt:w.heap.size<wr.heap.size:=by have:=hbel.size;simp at this;omega
     clear hall x0 x1 hbel xl
     by_cases hlt:q<m
     ·obtain ⟨b,off,rfl,hb1,c0,c1,-,hrg⟩:=(HB.out.2.below HBE.out.2 (Nat.le_refl _)).pen q (by rw [HL.out.2];exact hlt)
      have hll:=HXL.out.2 _ (getD_memE (k:=q) (by rw [HL.out.2];exact hlt))
      have HN:=HN2.out q hlt
      have HS:Hid (pok k (ps.getD q de)→∀ j,j<q+1→pok k (ps.getD j de)):=fun h j hj=>by
       by_cases e:j=q
       ·rw [e];exact h
       ·exact HAL2.out j (by omega)
      have hrg1:=hrg.lo
      have hrg2:=hrg.hi
      clear hrg
      generalize ps.getD q de=s at *
      obtain ⟨sn,pa2,pc2,sl⟩:=s
      simp only [pok] at c0 c1 hll HN HS hrg1 hrg2
      have HB2:Hid (Below (w.heap.size+1) (w.alloc (Obj.cells #[Value.slice sa k sc,Value.slice (some ⟨b,off,none⟩) m pc] 41)) (wr.alloc (Obj.cells #[Value.int IntKind.i64 sn,Value.slice pa2 sl.length pc2] 141))∧Below w.heap.size w (wr.alloc (Obj.cells #[Value.int IntKind.i64 sn,Value.slice pa2 sl.length pc2] 141))):=⟨HBE.out.1.alloc (by omega) _,HBE.out.2.alloc (by omega) _⟩
      have key2:(0≤sn∧sn<k∧sl.length=256)∨(sn<0)∨(0≤sn∧(k:Int)≤sn)∨(0≤sn∧sn<k∧sl.length≠256):=by omega
      rcases key2 with ⟨g1,g2,g3⟩ | g1 | ⟨g1,g2⟩ | ⟨g1,g2,g3⟩
      ·have HS2:Hid (∀ j,j<q+1→pok k (ps.getD j de)):=HS.out ⟨g1,g2,g3⟩
       clear HN HS
       generalize sl.length=M at *
       subst g3
       go_wp2
       go_roundw
       case rel=>exact ⟨q+1,by omega,by go_num,HS2.out,HB2.out.1⟩
       case measure=>simp [intOf];omega
      ·have HF:Hid (O=false∧True):=⟨HN (by omega),trivial⟩
       clear HN HS
       go_wp2
       go_ret
       exact ⟨by rw [HF.out.1];rfl,HB2.out.2⟩
      ·have HF:Hid (O=false∧True):=⟨HN (by omega),trivial⟩
       clear HN HS
       go_wp2
       go_ret
       exact ⟨by rw [HF.out.1];rfl,HB2.out.2⟩
      ·have HF:Hid (O=false∧True):=⟨HN (by omega),trivial⟩
       have hc':((sl.length:Int) != 256)=true:=by rw [bne_iff_ne];omega
       clear HN HS g3
       go_wp2
       go_ret
       exact ⟨by rw [HF.out.1];rfl,HB2.out.2⟩
     ·have hqm:q=m:=by omega
      subst hqm
      have HF:Hid (O=true∧True):=⟨HY.out h1 h2 h3 HALL.out HAL2.out,trivial⟩
      go_wp2
      go_ret
      exact ⟨by rw [HF.out.1];rfl,HBE.out.2⟩
def nwh (p:Int × Int):Bool:=p.1 == 0 && p.2 == 0
def rgt (p:Int × Int):Bool:=decide (2≤p.1∧p.1≤23∧0≤p.2∧p.2≤15)
def tkn (ps:List (Int × Int)) (p:Int × Int):Nat→Bool
 | 0=>false
 | k+1=>tkn ps p k || (ps.getD k dp == p)
def stpP (ps:List (Int × Int)) (i:Nat):Bool:=nwh (ps.getD i dp) || (rgt (ps.getD i dp) && !tkn ps (ps.getD i dp) i)
def okT (ps:List (Int × Int)):Nat→Bool
 | 0=>true
 | k+1=>okT ps k && stpP ps k
def mapB (ps:List (Int × Int)):Bool:=decide (1≤ps.length∧ps.length≤16) && okT ps ps.length

theorem okT_le (ps:List (Int × Int)) (n k:Nat) (h:okT ps n=true) (hk:k≤n):okT ps k=true:=by
 induction n with
 | zero => obtain rfl : k = 0 := by omega
           exact h
 | succ n ih=>
  simp only [okT,Bool.and_eq_true] at h
  rcases Nat.lt_or_ge k (n+1) with hk' | hk'
  ·exact ih h.1 (by omega)
  ·obtain rfl:k=n+1:=by omega
   simp only [okT,Bool.and_eq_true];exact h
theorem okT_no (ps:List (Int × Int)) (n k:Nat) (h:stpP ps k=false) (hk:k<n):okT ps n=false:=by
 cases hh:okT ps n
 ·rfl
 ·have:=okT_le ps n (k+1) hh (by omega)
  simp only [okT,h,Bool.and_false] at this
  cases this
theorem mapB_no (ps:List (Int × Int)) (k:Nat) (h:stpP ps k=false) (hk:k<ps.length):mapB ps=false:=by
 unfold mapB
 rw [okT_no ps _ k h hk,Bool.and_false]
theorem mapB_short (ps:List (Int × Int)) (h:¬(1≤ps.length∧ps.length≤16)):mapB ps=false:=by
 unfold mapB
 rw [decide_eq_false h,Bool.false_and]
theorem mapB_yes (ps:List (Int × Int)) (h:1≤ps.length∧ps.length≤16) (h2:okT ps ps.length=true):mapB ps=true:=by
 unfold mapB
 rw [decide_eq_true h,h2];rfl
theorem tkn_iff (ps:List (Int × Int)) (p:Int × Int) (k:Nat):tkn ps p k=true↔∃ i,i<k∧ps.getD i dp=p:=by
 induction k with
 | zero=>simp [tkn]
 | succ k ih=>
  simp only [tkn,Bool.or_eq_true,ih,beq_iff_eq]
  constructor
  ·rintro (⟨i,hi,h⟩ | h)
   ·exact ⟨i,by omega,h⟩
   ·exact ⟨k,by omega,h⟩
  ·rintro ⟨i,hi,h⟩
   rcases Nat.lt_or_ge i k with h' | h'
   ·exact .inl ⟨i,h',h⟩
   ·obtain rfl:i=k:=by omega
    exact .inr h
theorem tkn_mono (ps:List (Int × Int)) (p:Int × Int) {k n:Nat} (h:tkn ps p k=true) (hk:k≤n):tkn ps p n=true:=by
 obtain ⟨i,hi,e⟩:=(tkn_iff ps p k).1 h
 exact (tkn_iff ps p n).2 ⟨i,by omega,e⟩
theorem below_dP {B:Nat} {a b:World} (h:Below B a b) (n:Nat):Below B a (b.drewN n):=⟨h.os,h.tape,h.output,h.size,h.block⟩
def gmB (n r:Int):Bool:=decide (1≤n∧n≤16∧6≤r∧r≤24∧n≤3 * (r - 5))

set_option maxHeartbeats 1000000 in
theorem implGeomOk_any (n r:Int) (w:World) :
  Calls Tryz.prog 128 #[.int .i64 n,.int .i64 r] w fun e w'=>e=.returned (.bool (gmB n r))∧w'=w:=by
 have HG:Hid (gmB n r=decide (1≤n∧n≤16∧6≤r∧r≤24∧n≤3 * (r - 5))∧True):=⟨rfl,trivial⟩
 generalize gmB n r=B at *
 go_enter Tryz.func128,Tryz.ntmps128
 by_cases h1:n<1
 ·go_wp2
  go_ret
  exact ⟨by rw [HG.out.1,decide_eq_false (by omega)];rfl,rfl⟩
 ·by_cases h2:16<n
  ·go_wp2
   go_ret
   exact ⟨by rw [HG.out.1,decide_eq_false (by omega)];rfl,rfl⟩
  ·by_cases h3:r<6
   ·go_wp2
    go_ret
    exact ⟨by rw [HG.out.1,decide_eq_false (by omega)];rfl,rfl⟩
   ·by_cases h4:24<r
    ·go_wp2
     go_ret
     exact ⟨by rw [HG.out.1,decide_eq_false (by omega)];rfl,rfl⟩
    ·by_cases h5:n≤3 * (r - 5)
     ·go_wp2
      go_ret
      exact ⟨by rw [HG.out.1,decide_eq_true (by omega)];rfl,rfl⟩
     ·go_wp2
      go_ret
      exact ⟨by rw [HG.out.1,decide_eq_false (by omega)];rfl,rfl⟩
set_option linter.unusedSimpArgs false
def chK (cs:List Int) (r:Int) (k:Nat):Prop:=∀ i,i<k→(2≤cs.getD i 0∧cs.getD i 0<r)∧∀ j,j<i→cs.getD j 0≠cs.getD i 0
theorem chK_zero (cs:List Int) (r:Int):chK cs r 0:=fun i hi=>by omega
theorem chK_succ {cs:List Int} {r:Int} {k:Nat} (h:chK cs r k) (h1:2≤cs.getD k 0∧cs.getD k 0<r) (h2:∀ j,j<k→cs.getD j 0≠cs.getD k 0):chK cs r (k+1):=fun i hi=>by
 rcases Nat.lt_or_ge i k with h3 | h3
 ·exact h i h3
 ·obtain rfl:i=k:=by omega
  exact ⟨h1,h2⟩
theorem php :∀ (n:Nat) (l:List Nat),l.Nodup→(∀ x ∈ l,x<n)→l.length≤n
 | 0,[],_,_=>Nat.le_refl _
 | 0,x :: xs,_,h=>absurd (h x (by simp)) (by omega)
 | n+1,l,hd,h=>by
  by_cases hm:n ∈ l
  ·have h1:=php n (l.erase n) (hd.erase n) (fun x hx=>by have h2:=hd.mem_erase_iff.1 hx;have h3:=h x h2.2;have:=h2.1;omega)
   rw [List.length_erase_of_mem hm] at h1
   omega
  ·exact Nat.le_succ_of_le (php n l hd (fun x hx=>by have h2:=h x hx;have h3:x≠n:=fun e=>hm (e ▸ hx);omega))
theorem chK_len {cs:List Int} {r:Nat} (h:chK cs r cs.length):cs.length≤r:=by
 have h1:=php r (cs.map Int.toNat) ?_ ?_
 ·simpa using h1
 ·refine List.pairwise_iff_getElem.2 fun i j hi hj hij=>?_
  simp only [List.length_map] at hi hj
  have h2:=(h j hj).2 i hij
  have h3:=(h i hi).1
  have h4:=(h j hj).1
  simp only [List.getElem_map]
  simp only [List.getD_eq_getElem?_getD,List.getElem?_eq_getElem hi,List.getElem?_eq_getElem hj,Option.getD_some] at h2 h3 h4
  omega
 ·intro x hx
  obtain ⟨z,hz,rfl⟩:=List.mem_map.1 hx
  obtain ⟨i,hi,rfl⟩:=List.mem_iff_getElem.1 hz
  have h3:=(h i hi).1
  simp only [List.getD_eq_getElem?_getD,List.getElem?_eq_getElem hi,Option.getD_some] at h3
  omega
structure DkG (f:List Int→Option (List Int)) (d:DkV):Prop where
 raw:rok d.ss d.ps=true
 map:mapB d.ms=true
 sav:mapB d.vs=true
 len:d.ms.length=d.vs.length
 geo:gmB d.ms.length d.ss.length=true
 pm:∀ i,i<d.ms.length→(d.ms.getD i dp).1<d.ss.length
 ps:∀ i,i<d.vs.length→(d.vs.getD i dp).1<d.ss.length
 e:0≤d.E∧d.E≤60000
 o:0≤d.O∧d.O≤60000
 ch:chK d.cs d.ss.length d.cs.length
 op:PkR f d.F d.G d.os
 f0:d.F=0
 g0:d.G=0
 ad:∀ i,i<d.os.length→(d.os.getD i de).n<d.ms.length
theorem DkG.same {f:List Int→Option (List Int)} {d e:DkV} (h:DkG f d) (hs:DkS d e):DkG f e:=by
 obtain ⟨h1,h2,h3,h4,h5,h6,h7,h8,h9,h10,h11,h12,h13,h14⟩:=h
 have l1:=len_ctE hs.ss
 have l2:=len_ctE hs.os
 rw [hs.ms] at h2 h4 h5 h6 h14
 rw [hs.vs] at h3 h4 h7
 rw [hs.cs] at h10
 rw [hs.E] at h8
 rw [hs.O] at h9
 rw [l1] at h5 h6 h7 h10
 rw [hs.F,hs.G] at h11
 exact ⟨by rw [←rok_ct hs.ss hs.ps];exact h1,h2,h3,h4,h5,h6,h7,h8,h9,h10,h11.ct hs.os,hs.F ▸ h12,hs.G ▸ h13,fun i hi=>by rw [←n_ct hs.os i];exact h14 i (by omega)⟩
def DkA (f:List Int→Option (List Int)) (d:DkV) (w:World) (r:Ending) (w':World):Prop:=((DkG f d∧r=.returned (.bool true))∨(¬DkG f d∧r=.returned (.bool false)))∧Below w.heap.size w w'
end Go.Proofs.YtaibkchbkedjnaaGreatDoor
