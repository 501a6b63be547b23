/- Lemmas on the way. -/
import Derived.Test.YtaibkchbkedjnaaGreatDoorPkS
import Derived.Test.YtaibkchbkedjnaaGreatDoorIParts
import Derived.Test.YtaibkchbkedjnaaGreatDoorPlP
import Derived.Test.YtaibkchbkedjnaaGreatDoorProg
import Derived.WalkKit
import Derived.ProofKit
import Derived.Below
import Derived.Deep.Draws
import Derived.Test.YtaibkchbkedjnaaGreatDoorOpen1
set_option maxRecDepth 20000
set_option maxHeartbeats 16000000
namespace Go.Proofs.YtaibkchbkedjnaaGreatDoor
open Go.RowKit
set_option linter.unusedVariables false
theorem FewI.j {es:List El} (h:FewI es):FewJ es:=⟨h.n,h.l,by have:=h.sum;omega⟩
def pok (n:Nat) (q:El):Prop:=0≤q.n∧q.n<n∧q.ls.length=256
def Rok (ss ps:List El):Prop:=1≤ss.length∧ss.length≤24∧ps.length≤60∧(∀ k,k<ss.length→(ss.getD k de).ls.length=256)∧∀ k,k<ps.length→pok ss.length (ps.getD k de)
theorem Rok.eq (ss ps:List El):Rok ss ps=(1≤ss.length∧ss.length≤24∧ps.length≤60∧(∀ k,k<ss.length→(ss.getD k de).ls.length=256)∧∀ k,k<ps.length→0≤(ps.getD k de).n∧(ps.getD k de).n<ss.length∧(ps.getD k de).ls.length=256):=rfl
def rok (ss ps:List El):Bool:=decide (1≤ss.length∧ss.length≤24∧ps.length≤60∧(∀ k,k<ss.length→(ss.getD k de).ls.length=256)∧∀ k,k<ps.length→0≤(ps.getD k de).n∧(ps.getD k de).n<ss.length∧(ps.getD k de).ls.length=256)
theorem rok_yes {ss ps:List El} (h:Rok ss ps):rok ss ps=true:=decide_eq_true (by rw [Rok.eq] at h;exact h)
theorem rok_no {ss ps:List El} (h:¬Rok ss ps):rok ss ps=false:=decide_eq_false (by rw [Rok.eq] at h;exact h)
theorem Rok.ct {ss ps ts qs:List El} (h1:ts.map El.ct=ss.map El.ct) (h2:qs.map El.ct=ps.map El.ct) (h:Rok ss ps):Rok ts qs:=by
 obtain ⟨a,b,c,d,e⟩:=h
 have l1:=len_ctE h1
 have l2:=len_ctE h2
 refine ⟨by omega,by omega,by omega,fun k hk=>?_,fun k hk=>?_⟩
 ·have:=ctE_get h1 k
  simp only [El.ct,Prod.mk.injEq] at this
  rw [this.2]
  exact d k (by omega)
 ·have:=ctE_get h2 k
  simp only [El.ct,Prod.mk.injEq] at this
  have h3:=e k (by omega)
  unfold pok at h3 ⊢
  rw [this.1,this.2,l1]
  exact h3
theorem rok_ct {ss ps ts qs:List El} (h1:ts.map El.ct=ss.map El.ct) (h2:qs.map El.ct=ps.map El.ct):rok ts qs=rok ss ps:=by
 by_cases h:Rok ss ps
 ·rw [rok_yes h,rok_yes (h.ct h1 h2)]
 ·rw [rok_no h,rok_no (fun h3=>h (h3.ct h1.symm h2.symm))]
theorem specRawOk_any (sa pa:Option Addr) (sc pc:Nat) (ss ps:List El) (w:World) (hb:RawI w sa pa ss ps) (hx:ss.length≤281474976710656) (hy:ps.length≤281474976710656) (hxl:∀ s ∈ ss,s.ls.length≤281474976710656) (hyl:∀ s ∈ ps,s.ls.length≤281474976710656) :
  Calls Tryz.prog 76 #[.agg #[.slice sa ss.length sc,.slice pa ps.length pc]] w fun e w'=>e=.returned (.bool (rok ss ps))∧Below w.heap.size w w':=by
 have HB:Hid (RawI w sa pa ss ps):=hb
 have HXL:Hid ((∀ s ∈ ss,s.ls.length≤281474976710656)∧∀ s ∈ ps,s.ls.length≤281474976710656):=⟨hxl,hyl⟩
 have HY:Hid (1≤ss.length→ss.length≤24→ps.length≤60→(∀ k,k<ss.length→(ss.getD k de).ls.length=256)→(∀ k,k<ps.length→pok ss.length (ps.getD k de))→rok ss ps=true):=fun a b c d e=>rok_yes ⟨a,b,c,d,e⟩
 have HN0:Hid (¬(1≤ss.length∧ss.length≤24∧ps.length≤60)→rok ss ps=false):=fun h=>rok_no (fun h1=>h ⟨h1.1,h1.2.1,h1.2.2.1⟩)
 have HN1:Hid (∀ k,k<ss.length→(ss.getD k de).ls.length≠256→rok ss ps=false):=fun k hk h=>rok_no (fun h1=>h (h1.2.2.2.1 k hk))
 have HN2:Hid (∀ k,k<ps.length→¬pok ss.length (ps.getD k de)→rok ss ps=false):=fun k hk h=>rok_no (fun h1=>h (h1.2.2.2.2 k hk))
 clear hb hxl hyl
 generalize rok ss ps=O at *
 generalize hlen:ss.length=n at *
 generalize hlen2:ps.length=m at *
 have HL:Hid (ss.length=n∧ps.length=m):=⟨hlen,hlen2⟩
 clear hlen hlen2
 have HW:Hid (Below w.heap.size w (w.alloc (Obj.cells #[.slice sa n sc,.slice pa m pc] 41))):=bAw
 have HX:Hid (Box2 (w.alloc (Obj.cells #[.slice sa n sc,.slice pa m pc] 41)) w.heap.size (.slice sa n sc) (.slice pa m pc)):=Box2.new _ _ _ _
 have key:(n<1)∨(1≤n∧24<n)∨(1≤n∧n≤24∧60<m)∨(1≤n∧n≤24∧m≤60):=by omega
 rcases key with h1 | ⟨h1,h2⟩ | ⟨h1,h2,h3⟩ | ⟨h1,h2,h3⟩
 ·have HF:Hid (O=false∧True):=⟨HN0.out (by omega),trivial⟩
  obtain rfl:n=0:=by omega
  go_enter Tryz.func76,Tryz.ntmps76
  go_wp2
  go_ret
  exact ⟨by rw [HF.out.1];rfl,HW.out⟩
 ·have HF:Hid (O=false∧True):=⟨HN0.out (by omega),trivial⟩
  go_enter Tryz.func76,Tryz.ntmps76
  go_wp2
  go_ret
  exact ⟨by rw [HF.out.1];rfl,HW.out⟩
 ·have HF:Hid (O=false∧True):=⟨HN0.out (by omega),trivial⟩
  go_enter Tryz.func76,Tryz.ntmps76
  go_wp2
  go_ret
  exact ⟨by rw [HF.out.1];rfl,HW.out⟩
 ·clear HN0
  go_enter Tryz.func76,Tryz.ntmps76
  go_wp2
  go_loop [3] (fun i=>∃ k:Nat,k≤n∧i=.int .i64 k∧∀ j,j<k→(ss.getD j de).ls.length=256) (fun i=>n-(intOf i).toNat)
  case atStart=>exact ⟨0,Nat.zero_le _,rfl,by simp⟩
  case round=>
   obtain ⟨k,hk,rfl,hall⟩:=hrel
   have HALL:Hid (∀ j,j<k→(ss.getD j de).ls.length=256):=hall
   clear hall
   by_cases hlt:k<n
   ·obtain ⟨b,off,rfl,hb1,c0,-,-⟩:=(HB.out.1.below HW.out nl).sec k (by rw [HL.out.1];exact hlt)
    have hll:=HXL.out.1 _ (getD_memE (k:=k) (by rw [HL.out.1];exact hlt))
    have HN:=HN1.out k hlt
    have HS:Hid ((ss.getD k de).ls.length=256→∀ j,j<k+1→(ss.getD j de).ls.length=256):=fun h j hj=>by
     by_cases e:j=k
     ·rw [e];exact h
     ·exact HALL.out j (by omega)
    generalize ss.getD k de=s at *
    obtain ⟨sn,sa,sc',sl⟩:=s
    simp only at c0 hll HN HS
    by_cases hc:sl.length=256
    ·have HS2:Hid _:=HS.out hc
     clear HN HS
     generalize sl.length=M at *
     subst hc
     go_wp2
     go_round
     case rel=>exact ⟨k+1,by omega,by go_num,HS2.out⟩
     case measure=>simp [intOf];omega
    ·have HF:Hid (O=false∧True):=⟨HN hc,trivial⟩
     have hc':((sl.length:Int) != 256)=true:=by rw [bne_iff_ne];omega
     clear HN HS hc
     go_wp2
     go_ret
     exact ⟨by rw [HF.out.1];rfl,HW.out⟩
   ·have hkn:k=n:=by omega
    subst hkn
    go_wp2
    obtain ⟨x0,x1,-,-,xl⟩:=HX.out
    go_loopw [4] (fun i wr=>∃ q:Nat,q≤m∧i=.int .i64 q∧(∀ j,j<q→pok k (ps.getD j de))∧Below (w.heap.size+1) (w.alloc (Obj.cells #[.slice sa k sc,.slice pa m pc] 41)) wr) (fun i _=>m-(intOf i).toNat)
    case atStart=>exact ⟨0,Nat.zero_le _,rfl,by simp,Below.refl _ _⟩
    case round=>
     obtain ⟨q,hq,rfl,hall,hbel⟩:=hrel
     have HAL2:Hid (∀ j,j<q→pok k (ps.getD j de)):=hall
     have y0:=keep hbel (by omega) x0
     have y1:=keep hbel (by omega) x1
     have HBE:Hid (Below (w.heap.size+1) (w.alloc (Obj.cells #[.slice sa k sc,.slice pa m pc] 41)) wr∧Below w.heap.size w wr):=⟨hbel,HW.out.trans (hbel.mono (by omega))⟩
     have ylt:w.heap.size<wr.heap.size:=by have:=hbel.size;simp at this;omega
     clear hall x0 x1 hbel xl
     by_cases hlt:q<m
     ·obtain ⟨b,off,rfl,hb1,c0,c1,-,hrg⟩:=(HB.out.2.below HBE.out.2 nl).pen q (by rw [HL.out.2];exact hlt)
      have hll:=HXL.out.2 _ (getD_memE (k:=q) (by rw [HL.out.2];exact hlt))
      have HN:=HN2.out q hlt
      have HS:Hid (pok k (ps.getD q de)→∀ j,j<q+1→pok k (ps.getD j de)):=fun h j hj=>by
       by_cases e:j=q
       ·rw [e];exact h
       ·exact HAL2.out j (by omega)
      have hrg1:=hrg.lo
      have hrg2:=hrg.hi
      clear hrg
      generalize ps.getD q de=s at *
      obtain ⟨sn,pa2,pc2,sl⟩:=s
      simp only [pok] at c0 c1 hll HN HS hrg1 hrg2
      have HB2:Hid (Below (w.heap.size+1) (w.alloc (Obj.cells #[.slice sa k sc,.slice (some ⟨b,off,none⟩) m pc] 41)) (wr.alloc (Obj.cells #[.int .i64 sn,.slice pa2 sl.length pc2] 141))∧Below w.heap.size w (wr.alloc (Obj.cells #[.int .i64 sn,.slice pa2 sl.length pc2] 141))):=⟨HBE.out.1.alloc (by omega) _,HBE.out.2.alloc (by omega) _⟩
      have key2:(0≤sn∧sn<k∧sl.length=256)∨(sn<0)∨(0≤sn∧(k:Int)≤sn)∨(0≤sn∧sn<k∧sl.length≠256):=by omega
      rcases key2 with ⟨g1,g2,g3⟩ | g1 | ⟨g1,g2⟩ | ⟨g1,g2,g3⟩
      ·have HS2:Hid (∀ j,j<q+1→pok k (ps.getD j de)):=HS.out ⟨g1,g2,g3⟩
       clear HN HS
       generalize sl.length=M at *
       subst g3
       go_wp2
       go_roundw
       case rel=>exact ⟨q+1,by omega,by go_num,HS2.out,HB2.out.1⟩
       case measure=>simp [intOf];omega
      ·have HF:Hid (O=false∧True):=⟨HN (by omega),trivial⟩
       clear HN HS
       go_wp2
       go_ret
       exact ⟨by rw [HF.out.1];rfl,HB2.out.2⟩
      ·have HF:Hid (O=false∧True):=⟨HN (by omega),trivial⟩
       clear HN HS
       go_wp2
       go_ret
       exact ⟨by rw [HF.out.1];rfl,HB2.out.2⟩
      ·have HF:Hid (O=false∧True):=⟨HN (by omega),trivial⟩
       have hc':((sl.length:Int) != 256)=true:=by rw [bne_iff_ne];omega
       clear HN HS g3
       go_wp2
       go_ret
       exact ⟨by rw [HF.out.1];rfl,HB2.out.2⟩
     ·have hqm:q=m:=by omega
      subst hqm
      have HF:Hid (O=true∧True):=⟨HY.out h1 h2 h3 HALL.out HAL2.out,trivial⟩
      go_wp2
      go_ret
      exact ⟨by rw [HF.out.1];rfl,HBE.out.2⟩
def nwh (p:Int × Int):Bool:=p.1 == 0 && p.2 == 0
def rgt (p:Int × Int):Bool:=decide (2≤p.1∧p.1≤23∧0≤p.2∧p.2≤15)
def tkn (ps:List (Int × Int)) (p:Int × Int):Nat→Bool
 | 0=>false
 | k+1=>tkn ps p k || (ps.getD k dp == p)
def stpP (ps:List (Int × Int)) (i:Nat):Bool:=nwh (ps.getD i dp) || (rgt (ps.getD i dp) && !tkn ps (ps.getD i dp) i)
def okT (ps:List (Int × Int)):Nat→Bool
 | 0=>true
 | k+1=>okT ps k && stpP ps k
def mapB (ps:List (Int × Int)):Bool:=decide (1≤ps.length∧ps.length≤16) && okT ps ps.length
theorem okT_le (ps:List (Int × Int)) (n k:Nat) (h:okT ps n=true) (hk:k≤n):okT ps k=true:=by
 induction n with
 | zero => obtain rfl : k = 0 := by omega
           exact h
 | succ n ih=>
  simp only [okT,Bool.and_eq_true] at h
  rcases Nat.lt_or_ge k (n+1) with hk' | hk'
  ·exact ih h.1 (by omega)
  ·obtain rfl:k=n+1:=by omega
   simp only [okT,Bool.and_eq_true];exact h
theorem okT_no (ps:List (Int × Int)) (n k:Nat) (h:stpP ps k=false) (hk:k<n):okT ps n=false:=by
 cases hh:okT ps n
 ·rfl
 ·have:=okT_le ps n (k+1) hh (by omega)
  simp only [okT,h,Bool.and_false] at this
  cases this
theorem mapB_no (ps:List (Int × Int)) (k:Nat) (h:stpP ps k=false) (hk:k<ps.length):mapB ps=false:=by
 unfold mapB
 rw [okT_no ps _ k h hk,Bool.and_false]
theorem mapB_short (ps:List (Int × Int)) (h:¬(1≤ps.length∧ps.length≤16)):mapB ps=false:=by
 unfold mapB
 rw [decide_eq_false h,Bool.false_and]
theorem mapB_yes (ps:List (Int × Int)) (h:1≤ps.length∧ps.length≤16) (h2:okT ps ps.length=true):mapB ps=true:=by
 unfold mapB
 rw [decide_eq_true h,h2];rfl
theorem mapB_len (ps:List (Int × Int)) (h:mapB ps=true):1≤ps.length∧ps.length≤16:=by
 unfold mapB at h
 simp only [Bool.and_eq_true,decide_eq_true_eq] at h
 exact h.1
theorem mapB_okT (ps:List (Int × Int)) (h:mapB ps=true):okT ps ps.length=true:=by
 unfold mapB at h
 simp only [Bool.and_eq_true,decide_eq_true_eq] at h
 exact h.2
theorem tkn_iff (ps:List (Int × Int)) (p:Int × Int) (k:Nat):tkn ps p k=true↔∃ i,i<k∧ps.getD i dp=p:=by
 induction k with
 | zero=>simp [tkn]
 | succ k ih=>
  simp only [tkn,Bool.or_eq_true,ih,beq_iff_eq]
  constructor
  ·rintro (⟨i,hi,h⟩ | h)
   ·exact ⟨i,by omega,h⟩
   ·exact ⟨k,by omega,h⟩
  ·rintro ⟨i,hi,h⟩
   rcases Nat.lt_or_ge i k with h' | h'
   ·exact .inl ⟨i,h',h⟩
   ·obtain rfl:i=k:=by omega
    exact .inr h
theorem tkn_mono (ps:List (Int × Int)) (p:Int × Int) {k n:Nat} (h:tkn ps p k=true) (hk:k≤n):tkn ps p n=true:=by
 obtain ⟨i,hi,e⟩:=(tkn_iff ps p k).1 h
 exact (tkn_iff ps p n).2 ⟨i,by omega,e⟩
theorem below_dP {B:Nat} {a b:World} (h:Below B a b) (n:Nat):Below B a (b.drewN n):=⟨h.os,h.tape,h.output,h.size,h.block⟩
def gmB (n r:Int):Bool:=decide (1≤n∧n≤16∧6≤r∧r≤24∧n≤3*(r-5))
theorem implGeomOk_any (n r:Int) (w:World) :
  Calls Tryz.prog 128 #[.int .i64 n,.int .i64 r] w fun e w'=>e=.returned (.bool (gmB n r))∧w'=w:=by
 have HG:Hid (gmB n r=decide (1≤n∧n≤16∧6≤r∧r≤24∧n≤3*(r-5))∧True):=⟨rfl,trivial⟩
 generalize gmB n r=B at *
 go_enter Tryz.func128,Tryz.ntmps128
 by_cases h1:n<1
 ·go_wp2
  go_ret
  exact ⟨by rw [HG.out.1,decide_eq_false (by omega)];rfl,rfl⟩
 ·by_cases h2:16<n
  ·go_wp2
   go_ret
   exact ⟨by rw [HG.out.1,decide_eq_false (by omega)];rfl,rfl⟩
  ·by_cases h3:r<6
   ·go_wp2
    go_ret
    exact ⟨by rw [HG.out.1,decide_eq_false (by omega)];rfl,rfl⟩
   ·by_cases h4:24<r
    ·go_wp2
     go_ret
     exact ⟨by rw [HG.out.1,decide_eq_false (by omega)];rfl,rfl⟩
    ·by_cases h5:n≤3*(r-5)
     ·go_wp2
      go_ret
      exact ⟨by rw [HG.out.1,decide_eq_true (by omega)];rfl,rfl⟩
     ·go_wp2
      go_ret
      exact ⟨by rw [HG.out.1,decide_eq_false (by omega)];rfl,rfl⟩
set_option linter.unusedSimpArgs false
def chK (cs:List Int) (r:Int) (k:Nat):Prop:=∀ i,i<k→(2≤cs.getD i 0∧cs.getD i 0<r)∧∀ j,j<i→cs.getD j 0≠cs.getD i 0
theorem chK_zero (cs:List Int) (r:Int):chK cs r 0:=fun i hi=>by omega
theorem chK_succ {cs:List Int} {r:Int} {k:Nat} (h:chK cs r k) (h1:2≤cs.getD k 0∧cs.getD k 0<r) (h2:∀ j,j<k→cs.getD j 0≠cs.getD k 0):chK cs r (k+1):=fun i hi=>by
 rcases Nat.lt_or_ge i k with h3 | h3
 ·exact h i h3
 ·obtain rfl:i=k:=by omega
  exact ⟨h1,h2⟩
theorem php :∀ (n:Nat) (l:List Nat),l.Nodup→(∀ x ∈ l,x<n)→l.length≤n
 | 0,[],_,_=>Nat.le_refl _
 | 0,x :: xs,_,h=>absurd (h x (by simp)) (by omega)
 | n+1,l,hd,h=>by
  by_cases hm:n ∈ l
  ·have h1:=php n (l.erase n) (hd.erase n) (fun x hx=>by have h2:=hd.mem_erase_iff.1 hx;have h3:=h x h2.2;have:=h2.1;omega)
   rw [List.length_erase_of_mem hm] at h1
   omega
  ·exact Nat.le_succ_of_le (php n l hd (fun x hx=>by have h2:=h x hx;have h3:x≠n:=fun e=>hm (e ▸ hx);omega))
theorem chK_len {cs:List Int} {r:Nat} (h:chK cs r cs.length):cs.length≤r:=by
 have h1:=php r (cs.map Int.toNat) ?_ ?_
 ·simpa using h1
 ·refine List.pairwise_iff_getElem.2 fun i j hi hj hij=>?_
  simp only [List.length_map] at hi hj
  have h2:=(h j hj).2 i hij
  have h3:=(h i hi).1
  have h4:=(h j hj).1
  simp only [List.getElem_map]
  simp only [List.getD_eq_getElem?_getD,List.getElem?_eq_getElem hi,List.getElem?_eq_getElem hj,Option.getD_some] at h2 h3 h4
  omega
 ·intro x hx
  obtain ⟨z,hz,rfl⟩:=List.mem_map.1 hx
  obtain ⟨i,hi,rfl⟩:=List.mem_iff_getElem.1 hz
  have h3:=(h i hi).1
  simp only [List.getD_eq_getElem?_getD,List.getElem?_eq_getElem hi,Option.getD_some] at h3
  omega
structure DkG (f:List Int→Option (List Int)) (d:DkV):Prop where
 raw:rok d.ss d.ps=true
 map:mapB d.ms=true
 sav:mapB d.vs=true
 len:d.ms.length=d.vs.length
 geo:gmB d.ms.length d.ss.length=true
 pm:∀ i,i<d.ms.length→(d.ms.getD i dp).1<d.ss.length
 ps:∀ i,i<d.vs.length→(d.vs.getD i dp).1<d.ss.length
 e:0≤d.E∧d.E≤60000
 o:0≤d.O∧d.O≤60000
 ch:chK d.cs d.ss.length d.cs.length
 op:PkR f d.F d.G d.os
 f0:d.F=0
 g0:d.G=0
 ad:∀ i,i<d.os.length→(d.os.getD i de).n<d.ms.length
theorem DkG.same {f:List Int→Option (List Int)} {d e:DkV} (h:DkG f d) (hs:DkS d e):DkG f e:=by
 obtain ⟨h1,h2,h3,h4,h5,h6,h7,h8,h9,h10,h11,h12,h13,h14⟩:=h
 have l1:=len_ctE hs.ss
 have l2:=len_ctE hs.os
 rw [hs.ms] at h2 h4 h5 h6 h14
 rw [hs.vs] at h3 h4 h7
 rw [hs.cs] at h10
 rw [hs.E] at h8
 rw [hs.O] at h9
 rw [l1] at h5 h6 h7 h10
 rw [hs.F,hs.G] at h11
 exact ⟨by rw [←rok_ct hs.ss hs.ps];exact h1,h2,h3,h4,h5,h6,h7,h8,h9,h10,h11.ct hs.os,hs.F ▸ h12,hs.G ▸ h13,fun i hi=>by rw [←n_ct hs.os i];exact h14 i (by omega)⟩
def DkA (f:List Int→Option (List Int)) (d:DkV) (w:World) (r:Ending) (w':World):Prop:=((DkG f d∧r=.returned (.bool true))∨(¬DkG f d∧r=.returned (.bool false)))∧Below w.heap.size w w'
theorem specMapOk_any (a:Option Addr) (cap:Nat) (ps:List (Int × Int)) (w:World) (hb:Pls w a ps) (hn:ps.length≤1048576) :
  Calls Tryz.prog 77 #[.agg #[.slice a ps.length cap]] w fun e w'=>e=.returned (.bool (mapB ps))∧Below w.heap.size w w':=by
 have hw:Below w.heap.size w (w.alloc (Obj.cells #[.slice a ps.length cap] 44)):=bAw
 have HB:Hid (Pls (w.alloc (Obj.cells #[.slice a ps.length cap] 44)) a ps):=hb.alloc _
 by_cases hl:1≤ps.length∧ps.length≤16
 ·have HY:Hid (okT ps ps.length=true→mapB ps=true):=mapB_yes ps hl
  have HN:Hid (∀ k,stpP ps k=false→k<ps.length→mapB ps=false):=mapB_no ps
  clear hb
  generalize mapB ps=R at *
  generalize hlen:ps.length=n at *
  have HL:Hid (ps.length=n∧True):=⟨hlen,trivial⟩
  clear hlen hn
  obtain ⟨hl1,hl2⟩:=hl
  have hzz:(w.alloc (Obj.cells #[.slice a n cap] 44)).cell? ⟨w.heap.size,0,none⟩=some (.slice a n cap):=by simp
  have hzs:w.heap.size<(w.alloc (Obj.cells #[.slice a n cap] 44)).heap.size:=by simp
  go_enter Tryz.func77,Tryz.ntmps77
  go_wp2
  generalize w.alloc (Obj.cells #[.slice a n cap] 44)=W at *
  go_loopw [3] (fun i wr=>∃ k:Nat,k≤n∧i=.int .i64 k∧okT ps k=true∧Below W.heap.size W wr) (fun i _=>n-(intOf i).toNat)
  case atStart=>exact ⟨0,Nat.zero_le _,rfl,rfl,Below.refl _ _⟩
  case round=>
   obtain ⟨k,hk,rfl,hok,hbel⟩:=hrel
   have HOK:Hid (okT ps k=true∧True):=⟨hok,trivial⟩
   clear hok
   have p0:=keep hbel hzs hzz
   have hWs:=hbel.size
   by_cases hlt:k<n
   ·obtain ⟨b,off,rfl,hb1,hc1⟩:=(HB.out.below hbel nl).len_pos k (by rw [HL.out.1];exact hlt)
    obtain ⟨c0,c1⟩:=hc1 k (by rw [HL.out.1];exact hlt)
    have HC:Hid (∀ i,i<n→wr.cell? ⟨b,off+i*2,none⟩=some (.int .i64 (ps.getD i dp).1)∧wr.cell? ⟨b,off+i*2+1,none⟩=some (.int .i64 (ps.getD i dp).2)):=fun i hi=>hc1 i (by rw [HL.out.1];exact hi)
    have HG:Hid (ps.getD k dp=ps.getD k dp∧(∀ q,q=ps.getD k dp→stpP ps k=(nwh q || (rgt q && !tkn ps q k)))):=⟨rfl,fun q hq=>by rw [hq];rfl⟩
    clear hc1
    generalize hp:ps.getD k dp=p at *
    have HP:Hid (ps.getD k dp=p∧True):=⟨hp,trivial⟩
    clear hp
    obtain ⟨x,y⟩:=p
    simp only at c0 c1
    have hST:=HG.out.2 (x,y) rfl
    clear HG
    by_cases h0:x=0∧y=0
    ·obtain ⟨rfl,rfl⟩:=h0
     have HOK2:Hid (okT ps (k+1)=true∧True):=⟨by simp only [okT,HOK.out.1,hST];rfl,trivial⟩
     clear hST HP
     go_wp2
     go_roundw
     case rel=>exact ⟨k+1,by omega,by go_num,HOK2.out.1,hbel.alloc (by omega) _⟩
     case measure=>simp [intOf];omega
    ·have hnw:nwh (x,y)=false:=by
      unfold nwh
      simp only [Bool.and_eq_false_iff,beq_eq_false_iff_ne]
      omega
     rw [hnw,Bool.false_or] at hST
     have HST:Hid (stpP ps k=(rgt (x,y) && !tkn ps (x,y) k)∧True):=⟨hST,trivial⟩
     clear hST hnw
     by_cases hr:2≤x∧x≤23∧0≤y∧y≤15
     ·obtain ⟨r1,r2,r3,r4⟩:=hr
      have hrg:rgt (x,y)=true:=decide_eq_true ⟨r1,r2,r3,r4⟩
      have HST2:Hid (stpP ps k=(!tkn ps (x,y) k)∧True):=⟨by rw [HST.out.1,hrg];rfl,trivial⟩
      clear hrg HST
      have x0:¬x=0:=by omega
      clear h0
      go_wp2
      have hba:Below wr.heap.size wr (wr.alloc (Obj.cells #[.int .i64 x,.int .i64 y] 127)):=bAw
      have q0:=keep hba (by omega) p0
      have e0:(wr.alloc (Obj.cells #[.int .i64 x,.int .i64 y] 127)).cell? ⟨wr.heap.size,0,none⟩=some (.int .i64 x):=by simp
      have e1:(wr.alloc (Obj.cells #[.int .i64 x,.int .i64 y] 127)).cell? ⟨wr.heap.size,1,none⟩=some (.int .i64 y):=by simp
      have HBV:Hid (Below W.heap.size W (wr.alloc (Obj.cells #[.int .i64 x,.int .i64 y] 127))):=hbel.alloc (by omega) _
      have HC2:Hid (∀ i,i<n→(wr.alloc (Obj.cells #[.int .i64 x,.int .i64 y] 127)).cell? ⟨b,off+i*2,none⟩=some (.int .i64 (ps.getD i dp).1)∧(wr.alloc (Obj.cells #[.int .i64 x,.int .i64 y] 127)).cell? ⟨b,off+i*2+1,none⟩=some (.int .i64 (ps.getD i dp).2)):=fun i hi=>⟨keep hba hb1 (HC.out i hi).1,keep hba hb1 (HC.out i hi).2⟩
      have HBV0:Hid (Below w.heap.size w (wr.alloc (Obj.cells #[.int .i64 x,.int .i64 y] 127))):=hw.trans (HBV.out.mono (by omega))
      clear hba HC p0 c0 c1 hbel hb1
      generalize wr.heap.size=Q at *
      generalize wr.alloc (Obj.cells #[.int .i64 x,.int .i64 y] 127)=V at *
      go_loopw [5] (fun i wv=>∃ (j m:Nat),j≤k∧i=.int .i64 j∧wv=V.drewN m∧tkn ps (x,y) j=false) (fun i _=>k-(intOf i).toNat)
      case atStart=>exact ⟨0,0,Nat.zero_le _,rfl,rfl,rfl⟩
      case round=>
       obtain ⟨j,m,hj,rfl,rfl,htk⟩:=hrel
       have HTK:Hid (tkn ps (x,y) j=false∧True):=⟨htk,trivial⟩
       clear htk
       by_cases hjk:j<k
       ·obtain ⟨d0,d1⟩:=HC2.out j (by omega)
        have HTS:Hid (∀ q,q=ps.getD j dp→tkn ps (x,y) (j+1)=(q == (x,y))):=fun q hq=>by simp only [tkn,HTK.out.1,Bool.false_or,hq]
        have hTS:=HTS.out (ps.getD j dp) rfl
        clear HTS HC2
        generalize ps.getD j dp=q at *
        obtain ⟨x2,y2⟩:=q
        simp only at d0 d1
        by_cases he:x2=x∧y2=y
        ·obtain ⟨rfl,rfl⟩:=he
         have HF:Hid (R=false∧True):=⟨HN.out k (by rw [HST2.out.1,tkn_mono ps (x2,y2) (k:=j+1) (by rw [hTS];simp) (by omega)];rfl) hlt,trivial⟩
         clear hTS
         go_wp2
         go_quiet (fail)
         go_wp2
         go_ret
         exact ⟨by rw [HF.out.1];rfl,below_dP (below_dP HBV0.out _) _⟩
        ·have HT2:Hid (tkn ps (x,y) (j+1)=false∧True):=⟨by rw [hTS];simp only [beq_eq_false_iff_ne,ne_eq,Prod.mk.injEq];exact he,trivial⟩
         clear hTS
         have hc:x2≠x∨(x2=x∧y2≠y):=by omega
         clear he
         rcases hc with hc | ⟨rfl,hc⟩
         all_goals
          go_wp2
          go_quiet (fail)
          go_wp2
          go_roundw
          case rel=>exact ⟨j+1,_,by omega,by go_num,rfl,HT2.out.1⟩
          case measure=>simp [intOf];omega
       ·have hjk2:j=k:=by omega
        subst hjk2
        have HOK2:Hid (okT ps (j+1)=true∧True):=⟨by simp only [okT,HOK.out.1,HST2.out.1,HTK.out.1];rfl,trivial⟩
        clear HC2
        go_wp2
        go_roundw
        case rel=>exact ⟨j+1,by omega,by go_num,HOK2.out.1,below_dP HBV.out _⟩
        case measure=>simp [intOf];omega
     ·have hrg:rgt (x,y)=false:=decide_eq_false hr
      have HF:Hid (R=false∧True):=⟨HN.out k (by rw [HST.out.1,hrg];rfl) hlt,trivial⟩
      clear HST hrg
      have hbv:=hbel.alloc (o:=Obj.cells #[.int .i64 x,.int .i64 y] 127) (by omega)
      have hcs:x<2∨(2≤x∧24≤x)∨(2≤x∧x<24∧y<0)∨(2≤x∧x<24∧0≤y∧16≤y):=by omega
      have hcz:¬x=0∨(x=0∧¬y=0):=by omega
      clear hr h0
      rcases hcs with h1 | ⟨h1,h2⟩ | ⟨h1,h2,h3⟩ | ⟨h1,h2,h3,h4⟩
      all_goals
       rcases hcz with hz | ⟨rfl,hz⟩
       all_goals first
        | omega
        | (go_wp2
           go_ret
           exact ⟨by rw [HF.out.1];rfl,hw.trans (hbv.mono (by omega))⟩)
   ·have hkn:k=n:=by omega
    subst hkn
    have HF:Hid (R=true∧True):=⟨HY.out HOK.out.1,trivial⟩
    go_wp2
    go_ret
    exact ⟨by rw [HF.out.1];rfl,hw.trans (hbel.mono (by omega))⟩
 ·rw [mapB_short ps hl]
  have key:(ps.length:Int)<1∨(1≤(ps.length:Int)∧16<(ps.length:Int)):=by omega
  clear hl HB hb
  rcases key with h | ⟨h,h2⟩
  all_goals
   go_enter Tryz.func77,Tryz.ntmps77
   go_wp2
   go_ret
   exact ⟨rfl,hw⟩
theorem specGeomOk_any (n r:Int) (w:World) :
  Calls Tryz.prog 78 #[.int .i64 n,.int .i64 r] w fun e w'=>e=.returned (.bool (gmB n r))∧w'=w:=by
 have HG:Hid (gmB n r=decide (1≤n∧n≤16∧6≤r∧r≤24∧n≤3*(r-5))∧True):=⟨rfl,trivial⟩
 generalize gmB n r=B at *
 go_enter Tryz.func78,Tryz.ntmps78
 by_cases h1:n<1
 ·have g1:¬1≤n:=by omega
  go_wp2
  go_ret
  exact ⟨by rw [HG.out.1,decide_eq_false (by omega)];rfl,rfl⟩
 ·have g1:1≤n:=by omega
  by_cases h2:16<n
  ·have g2:¬n≤16:=by omega
   go_wp2
   go_ret
   exact ⟨by rw [HG.out.1,decide_eq_false (by omega)];rfl,rfl⟩
  ·have g2:n≤16:=by omega
   by_cases h3:r<6
   ·have g3:¬6≤r:=by omega
    go_wp2
    go_ret
    exact ⟨by rw [HG.out.1,decide_eq_false (by omega)];rfl,rfl⟩
   ·have g3:6≤r:=by omega
    by_cases h4:24<r
    ·have g4:¬r≤24:=by omega
     go_wp2
     go_ret
     exact ⟨by rw [HG.out.1,decide_eq_false (by omega)];rfl,rfl⟩
    ·have g4:r≤24:=by omega
     by_cases h5:n≤3*(r-5)
     ·go_wp2
      go_ret
      exact ⟨by rw [HG.out.1,decide_eq_true (by omega)];rfl,rfl⟩
     ·go_wp2
      go_ret
      exact ⟨by rw [HG.out.1,decide_eq_false (by omega)];rfl,rfl⟩
theorem l9places_any (a:Option Addr) (cap:Nat) (ps:List (Int × Int)) (r:Int) (w:World) (hb:Pls w a ps) (hn:ps.length≤1048576) :
  Calls Tryz.prog 79 #[.agg #[.slice a ps.length cap],.int .i64 r] w fun e w'=>(((∀ i,i<ps.length→(ps.getD i dp).1<r)∧e=.returned (.bool true))∨((∃ i,i<ps.length∧¬(ps.getD i dp).1<r)∧e=.returned (.bool false)))∧Below w.heap.size w w':=by
 have hw:Below w.heap.size w (w.alloc (Obj.cells #[.slice a ps.length cap] 44)):=bAw
 have t0:(w.alloc (Obj.cells #[.slice a ps.length cap] 44)).cell? ⟨w.heap.size,0,none⟩=some (.slice a ps.length cap):=by simp
 have HB:Hid (Pls w a ps):=hb
 clear hb
 generalize hlen:ps.length=n at *
 have HL:Hid (ps.length=n∧True):=⟨hlen,trivial⟩
 clear hlen
 go_enter Tryz.func79,Tryz.ntmps79
 go_wp2
 generalize w.alloc (Obj.cells #[.slice a n cap] 44)=W0 at *
 go_loopw [5] (fun i wr=>∃ k:Nat,k≤n∧i=.int .i64 k∧(∀ j,j<k→(ps.getD j dp).1<r)∧wr=W0) (fun i _=>n-(intOf i).toNat)
 case atStart=>exact ⟨0,Nat.zero_le _,rfl,fun j hj=>by omega,rfl⟩
 case round=>
  obtain ⟨k,hk,rfl,hall,rfl⟩:=hrel
  have HA:Hid (∀ j,j<k→(ps.getD j dp).1<r):=hall
  clear hall
  by_cases hlt:k<n
  ·obtain ⟨b,off,rfl,hbl,hc⟩:=(HB.out.below hw nl).2 (by rw [HL.out.1];omega)
   have c0:=(hc k (by rw [HL.out.1];exact hlt)).1
   clear hc
   have HS:Hid (∀ x,(ps.getD k dp).1=x→x<r→∀ j,j<k+1→(ps.getD j dp).1<r):=fun x hx h j hj=>by
    rcases Nat.lt_or_ge j k with h3 | h3
    ·exact HA.out j h3
    ·obtain rfl:j=k:=by omega
     rw [hx];exact h
   have HN:Hid (∀ x,(ps.getD k dp).1=x→¬x<r→∃ i,i<n∧¬(ps.getD i dp).1<r):=fun x hx h=>⟨k,hlt,by rw [hx];exact h⟩
   have hs:=HS.out _ rfl
   have hn':=HN.out _ rfl
   generalize (ps.getD k dp).1=x at *
   by_cases hx:x<r
   ·have HH:Hid (∀ j,j<k+1→(ps.getD j dp).1<r):=hs hx
    clear hs hn' HS HN HA
    go_wp2
    go_roundw
    case rel=>exact ⟨k+1,by omega,by go_num,HH.out,by trivial⟩
    case measure=>simp [intOf];omega
   ·have HH:Hid (∃ i,i<n∧¬(ps.getD i dp).1<r):=hn' hx
    clear hs hn' HS HN HA
    go_wp2
    go_ret
    exact ⟨.inr ⟨HH.out,rfl⟩,hw⟩
  ·have hkn:k=n:=by omega
   subst hkn
   go_wp2
   go_ret
   exact ⟨.inl ⟨HA.out,rfl⟩,hw⟩
theorem l9has_any (a:Option Addr) (cap:Nat) (zs:List Int) (x:Int) (w:World) (hb:Ins w a zs) (hn:zs.length≤1048576) :
  Calls Tryz.prog 81 #[.slice a zs.length cap,.int .i64 x] w fun e w'=>(((∃ i,i<zs.length∧zs.getD i 0=x)∧e=.returned (.bool true))∨((∀ i,i<zs.length→zs.getD i 0≠x)∧e=.returned (.bool false)))∧w'=w:=by
 have HB:Hid (Ins w a zs):=hb
 clear hb
 generalize hlen:zs.length=n at *
 have HL:Hid (zs.length=n∧True):=⟨hlen,trivial⟩
 clear hlen
 go_enter Tryz.func81,Tryz.ntmps81
 go_wp2
 go_loopw [5] (fun i wr=>∃ k:Nat,k≤n∧i=.int .i64 k∧(∀ j,j<k→zs.getD j 0≠x)∧wr=w) (fun i _=>n-(intOf i).toNat)
 case atStart=>exact ⟨0,Nat.zero_le _,rfl,fun j hj=>by omega,rfl⟩
 case round=>
  obtain ⟨k,hk,rfl,hall,rfl⟩:=hrel
  have HA:Hid (∀ j,j<k→zs.getD j 0≠x):=hall
  clear hall
  by_cases hlt:k<n
  ·obtain ⟨b,off,rfl,hbl,hc⟩:=HB.out.2 (by rw [HL.out.1];omega)
   have c0:=hc k (by rw [HL.out.1];exact hlt)
   clear hc
   have HS:Hid (∀ y,zs.getD k 0=y→y≠x→∀ j,j<k+1→zs.getD j 0≠x):=fun y hy h j hj=>by
    rcases Nat.lt_or_ge j k with h3 | h3
    ·exact HA.out j h3
    ·obtain rfl:j=k:=by omega
     rw [hy];exact h
   have HN:Hid (∀ y,zs.getD k 0=y→y=x→∃ i,i<n∧zs.getD i 0=x):=fun y hy h=>⟨k,hlt,by rw [hy];exact h⟩
   have hs:=HS.out _ rfl
   have hn':=HN.out _ rfl
   generalize zs.getD k 0=y at *
   by_cases hx:y=x
   ·have HH:Hid (∃ i,i<n∧zs.getD i 0=x):=hn' hx
    clear hs hn' HS HN HA
    subst hx
    go_wp2
    go_ret
    exact ⟨.inl ⟨HH.out,rfl⟩,rfl⟩
   ·have HH:Hid (∀ j,j<k+1→zs.getD j 0≠x):=hs hx
    clear hs hn' HS HN HA
    have hxb:(y == x)=false:=by simp [hx]
    go_wp2
    go_roundw
    case rel=>exact ⟨k+1,by omega,by go_num,HH.out,by trivial⟩
    case measure=>simp [intOf];omega
  ·have hkn:k=n:=by omega
   subst hkn
   go_wp2
   go_ret
   exact ⟨.inr ⟨HA.out,rfl⟩,rfl⟩
theorem ins_take {w:World} {a:Option Addr} {zs:List Int} (h:Ins w a zs) (k:Nat) (hk:k≤zs.length):Ins w a (zs.take k):=by
 refine ⟨fun z hz=>h.1 z (List.mem_of_mem_take hz),fun h0=>?_⟩
 have hl:(zs.take k).length=k:=by simp;omega
 obtain ⟨b,off,e,hb,hc⟩:=h.2 (by omega)
 refine ⟨b,off,e,hb,fun i hi=>?_⟩
 rw [hl] at hi
 rw [hc i (by omega)]
 simp [List.getD_eq_getElem?_getD,List.getElem?_take,hi]
theorem specDiskOk_any (f:List Int→Option (List Int)) (hf:DecF f) (d:DkV) (w:World) (hb:DkI w d) (hi:ItI w d.oa d.os) (hd:DkF d) (hcc:d.cs.length≤d.cc) :
  Calls Tryz.prog 44 #[.agg #[.slice d.sa d.ss.length d.sc,.slice d.pa d.ps.length d.pc,.int .i64 d.E,.int .i64 d.O,.slice d.ma d.ms.length d.mc,.slice d.va d.vs.length d.vc,.slice d.ca d.cs.length d.cc,.int .i64 d.F,.int .i64 d.G,.slice d.oa d.os.length d.oc]] w (DkA f d w):=by
 have HW0:Hid (Below w.heap.size w (w.alloc (Obj.cells #[.slice d.sa d.ss.length d.sc,.slice d.pa d.ps.length d.pc,.int .i64 d.E,.int .i64 d.O,.slice d.ma d.ms.length d.mc,.slice d.va d.vs.length d.vc,.slice d.ca d.cs.length d.cc,.int .i64 d.F,.int .i64 d.G,.slice d.oa d.os.length d.oc] 49))):=bAw
 have hx0:=Dk10.new w d 49
 have HB:Hid (DkI w d∧ItI w d.oa d.os∧DkF d∧DecF f):=⟨hb,hi,hd,hf⟩
 have hrr:d.ss.length≤1048576:=hd.raw.n
 have hm1:=hd.ms
 have hm2:=hd.vs
 have hm3:=hd.cs
 generalize hRP:DkA f d w=RP
 have HRP:Hid (DkA f d w=RP∧True):=⟨hRP,trivial⟩
 clear hRP
 have H1:=specRawOk_any d.sa d.pa d.sc d.pc d.ss d.ps _ (hb.raw.below HW0.out nl) (by have:=hd.raw.n;omega) (by have:=hd.raw.m;omega) (fun s hs=>by have:=hd.raw.l s hs;omega) (fun s hs=>by have:=hd.raw.p s hs;omega)
 clear hb hi hd hf
 have HNO:Hid (∀ W,¬DkG f d→Below w.heap.size w W→RP (.returned (.bool false)) W):=fun W h hW=>by rw [←HRP.out.1];exact ⟨.inr ⟨h,rfl⟩,hW⟩
 have HYES:Hid (∀ W,DkG f d→Below w.heap.size w W→RP (.returned (.bool true)) W):=fun W h hW=>by rw [←HRP.out.1];exact ⟨.inl ⟨h,rfl⟩,hW⟩
 go_enter Tryz.func44,Tryz.ntmps44
 go_wp2_with fail
 generalize (w.alloc (Obj.cells #[.slice d.sa d.ss.length d.sc,.slice d.pa d.ps.length d.pc,.int .i64 d.E,.int .i64 d.O,.slice d.ma d.ms.length d.mc,.slice d.va d.vs.length d.vc,.slice d.ca d.cs.length d.cc,.int .i64 d.F,.int .i64 d.G,.slice d.oa d.os.length d.oc] 49))=w0 at *
 refine H1.mono ?_
 clear H1
 rintro e w1 ⟨rfl,hb1⟩
 have hx1:=hx0.step hb1
 have HW1:Hid (Below w.heap.size w w1):=HW0.out.trans (hb1.mono HW0.out.size)
 clear hb1 hx0 HW0
 by_cases g1:rok d.ss d.ps=true
 rotate_left
 ·have g':rok d.ss d.ps=false:=by simpa using g1
  rw [g']
  have HF:Hid (RP (.returned (.bool false)) w1):=HNO.out _ (fun hG=>g1 hG.raw) HW1.out
  clear HB HNO HYES
  go_wp2
  exact HF.out
 rw [g1]
 obtain ⟨x0,x1,x2,x3,x4,x5,x6,x7,x8,x9,xl⟩:=id hx1
 have H2:=specMapOk_any d.ma d.mc d.ms w1 (HB.out.1.map.below HW1.out nl) hm1
 go_wp2_with fail
 clear x0 x1 x2 x3 x4 x5 x6 x7 x8 x9 xl
 refine H2.mono ?_
 clear H2
 rintro e w2 ⟨rfl,hb2⟩
 have hx2:=hx1.step hb2
 have HW2:Hid (Below w.heap.size w w2):=HW1.out.trans (hb2.mono HW1.out.size)
 clear hb2 hx1 HW1
 by_cases g2:mapB d.ms=true
 rotate_left
 ·have g':mapB d.ms=false:=by simpa using g2
  rw [g']
  have HF:Hid (RP (.returned (.bool false)) w2):=HNO.out _ (fun hG=>g2 hG.map) HW2.out
  clear HB HNO HYES
  go_wp2
  exact HF.out
 rw [g2]
 obtain ⟨x0,x1,x2,x3,x4,x5,x6,x7,x8,x9,xl⟩:=id hx2
 have H3:=specMapOk_any d.va d.vc d.vs w2 (HB.out.1.sav.below HW2.out nl) hm2
 go_wp2_with fail
 clear x0 x1 x2 x3 x4 x5 x6 x7 x8 x9 xl
 refine H3.mono ?_
 clear H3
 rintro e w3 ⟨rfl,hb3⟩
 have hx3:=hx2.step hb3
 have HW3:Hid (Below w.heap.size w w3):=HW2.out.trans (hb3.mono HW2.out.size)
 clear hb3 hx2 HW2
 by_cases g3:mapB d.vs=true
 rotate_left
 ·have g':mapB d.vs=false:=by simpa using g3
  rw [g']
  have HF:Hid (RP (.returned (.bool false)) w3):=HNO.out _ (fun hG=>g3 hG.sav) HW3.out
  clear HB HNO HYES
  go_wp2
  exact HF.out
 rw [g3]
 obtain ⟨x0,x1,x2,x3,x4,x5,x6,x7,x8,x9,xl⟩:=id hx3
 by_cases hlen:d.ms.length=d.vs.length
 rotate_left
 ·have HF:Hid (RP (.returned (.bool false)) w3):=HNO.out _ (fun hG=>hlen hG.len) HW3.out
  have hlb:((d.ms.length:Int) != (d.vs.length:Int))=true:=by rw [bne_iff_ne];omega
  clear HB HNO HYES hlen
  go_wp2
  exact HF.out
 have HLE:Hid (d.ms.length=d.vs.length∧True):=⟨hlen,trivial⟩
 have hlb:((d.ms.length:Int) != (d.vs.length:Int))=false:=by rw [bne_eq_false_iff_eq];omega
 clear hlen
 have H4:=specGeomOk_any d.ms.length d.ss.length w3
 go_wp2_with fail
 refine H4.mono ?_
 clear H4
 rintro e w4 ⟨rfl,rfl⟩
 by_cases g4:gmB d.ms.length d.ss.length=true
 rotate_left
 ·have g':gmB d.ms.length d.ss.length=false:=by simpa using g4
  rw [g']
  have HF:Hid (RP (.returned (.bool false)) w4):=HNO.out _ (fun hG=>g4 hG.geo) HW3.out
  clear HB HNO HYES
  go_wp2
  exact HF.out
 rw [g4]
 have H5:=l9places_any d.ma d.mc d.ms d.ss.length w4 (HB.out.1.map.below HW3.out nl) hm1
 go_wp2_with fail
 clear x0 x1 x2 x3 x4 x5 x6 x7 x8 x9 xl
 refine H5.mono ?_
 clear H5
 rintro e w5 ⟨h5,hb5⟩
 have hx5:=hx3.step hb5
 have HW5:Hid (Below w.heap.size w w5):=HW3.out.trans (hb5.mono HW3.out.size)
 clear hb5 hx3 HW3
 rcases h5 with ⟨g5,rfl⟩ | ⟨g5,rfl⟩
 rotate_left
 ·have HF:Hid (RP (.returned (.bool false)) w5):=HNO.out _ (fun hG=>by obtain ⟨i,hi,h⟩:=g5;have:=hG.pm i hi;omega) HW5.out
  clear HB HNO HYES g5
  go_wp2
  exact HF.out
 have HG5:Hid (∀ i,i<d.ms.length→(d.ms.getD i dp).1<d.ss.length):=g5
 clear g5
 obtain ⟨x0,x1,x2,x3,x4,x5,x6,x7,x8,x9,xl⟩:=id hx5
 have H6:=l9places_any d.va d.vc d.vs d.ss.length w5 (HB.out.1.sav.below HW5.out nl) hm2
 go_wp2_with fail
 clear x0 x1 x2 x3 x4 x5 x6 x7 x8 x9 xl
 refine H6.mono ?_
 clear H6
 rintro e w6 ⟨h6,hb6⟩
 have hx6:=hx5.step hb6
 have HW6:Hid (Below w.heap.size w w6):=HW5.out.trans (hb6.mono HW5.out.size)
 clear hb6 hx5 HW5
 rcases h6 with ⟨g6,rfl⟩ | ⟨g6,rfl⟩
 rotate_left
 ·have HF:Hid (RP (.returned (.bool false)) w6):=HNO.out _ (fun hG=>by obtain ⟨i,hi,h⟩:=g6;have:=hG.ps i hi;omega) HW6.out
  clear HB HNO HYES g6
  go_wp2
  exact HF.out
 have HG6:Hid (∀ i,i<d.vs.length→(d.vs.getD i dp).1<d.ss.length):=g6
 have HGS:Hid (rok d.ss d.ps=true∧mapB d.ms=true∧mapB d.vs=true∧gmB d.ms.length d.ss.length=true):=⟨g1,g2,g3,g4⟩
 clear g6 g1 g2 g3 g4 hlb
 obtain ⟨x0,x1,x2,x3,x4,x5,x6,x7,x8,x9,xl⟩:=id hx6
 by_cases he0:d.E<0
 ·have HF:Hid (RP (.returned (.bool false)) w6):=HNO.out _ (fun hG=>by have:=hG.e;omega) HW6.out
  clear HB HNO HYES
  go_wp2
  exact HF.out
 by_cases he1:60000<d.E
 ·have HF:Hid (RP (.returned (.bool false)) w6):=HNO.out _ (fun hG=>by have:=hG.e;omega) HW6.out
  clear HB HNO HYES
  go_wp2
  exact HF.out
 by_cases ho0:d.O<0
 ·have HF:Hid (RP (.returned (.bool false)) w6):=HNO.out _ (fun hG=>by have:=hG.o;omega) HW6.out
  clear HB HNO HYES
  go_wp2
  exact HF.out
 by_cases ho1:60000<d.O
 ·have HF:Hid (RP (.returned (.bool false)) w6):=HNO.out _ (fun hG=>by have:=hG.o;omega) HW6.out
  clear HB HNO HYES
  go_wp2
  exact HF.out
 by_cases hcl:(d.ss.length:Int)<(d.cs.length:Int)
 ·have HF:Hid (RP (.returned (.bool false)) w6):=HNO.out _ (fun hG=>by have:=chK_len hG.ch;omega) HW6.out
  clear HB HNO HYES
  go_wp2
  exact HF.out
 have H7:=specPackOk_any f HB.out.2.2.2 d.F d.G d.oa d.oc d.os w6 (HB.out.2.1.below HW6.out nl) HB.out.2.2.1.opn.j
 go_wp2_with fail
 clear x0 x1 x2 x3 x4 x5 x6 x7 x8 x9 xl
 refine H7.mono ?_
 clear H7
 rintro e w7 ⟨h7,hb7⟩
 have hx7:=hx6.step hb7
 have HW7:Hid (Below w.heap.size w w7):=HW6.out.trans (hb7.mono HW6.out.size)
 clear hb7 hx6 HW6
 rcases h7 with ⟨g7,rfl⟩ | ⟨g7,rfl⟩
 rotate_left
 ·have HF:Hid (RP (.returned (.bool false)) w7):=HNO.out _ (fun hG=>g7 hG.op) HW7.out
  clear HB HNO HYES g7
  go_wp2
  exact HF.out
 have HG7:Hid (PkR f d.F d.G d.os):=g7
 clear g7
 obtain ⟨x0,x1,x2,x3,x4,x5,x6,x7,x8,x9,xl⟩:=id hx7
 by_cases hzF:d.F=0
 rotate_left
 ·have HF:Hid (RP (.returned (.bool false)) w7):=HNO.out _ (fun hG=>hzF hG.f0) HW7.out
  have hzb:(d.F != 0)=true:=by rw [bne_iff_ne];exact hzF
  clear HB HNO HYES hzF
  go_wp2
  exact HF.out
 have HZF:Hid (d.F=0∧True):=⟨hzF,trivial⟩
 have hzbF:(d.F != 0)=false:=by rw [hzF];rfl
 clear hzF
 by_cases hzG:d.G=0
 rotate_left
 ·have HF:Hid (RP (.returned (.bool false)) w7):=HNO.out _ (fun hG=>hzG hG.g0) HW7.out
  have hzb:(d.G != 0)=true:=by rw [bne_iff_ne];exact hzG
  clear HB HNO HYES hzG
  go_wp2
  exact HF.out
 have HZG:Hid (d.G=0∧True):=⟨hzG,trivial⟩
 have hzbG:(d.G != 0)=false:=by rw [hzG];rfl
 clear hzG
 have HE:Hid ((0≤d.E∧d.E≤60000)∧(0≤d.O∧d.O≤60000)):=⟨⟨by omega,by omega⟩,⟨by omega,by omega⟩⟩
 go_wp2
 clear hcl he0 he1 ho0 ho1
 generalize decide (d.ss.length<d.cs.length)=q83 at *
 go_loopw [4] (fun i wr=>∃ (k:Nat),k≤d.cs.length∧i=.int .i64 k∧chK d.cs d.ss.length k∧Dk10 wr w.heap.size d∧Below w.heap.size w wr) (fun i _=>d.cs.length-(intOf i).toNat)
 case atStart=>exact ⟨0,Nat.zero_le _,rfl,chK_zero _ _,hx7,HW7.out⟩
 case round=>
  clear x0 x1 x2 x3 x4 x5 x6 x7 x8 x9 xl hx7 HW7
  obtain ⟨k,hk,rfl,hch,hx,hbel⟩:=hrel
  have HCH:Hid (chK d.cs d.ss.length k):=hch
  have HWR:Hid (Below w.heap.size w wr∧Dk10 wr w.heap.size d):=⟨hbel,hx⟩
  obtain ⟨x0,x1,x2,x3,x4,x5,x6,x7,x8,x9,xl⟩:=hx
  clear hch
  by_cases hlt:k<d.cs.length
  ·obtain ⟨b,off,hca,hbl,hc⟩:=(HB.out.1.chn.below hbel nl).2 (by omega)
   have c0:=hc k hlt
   have HIN:=ins_take (HB.out.1.chn.below hbel nl) k hk
   rw [hca] at x6 HIN
   have hrg:=(HB.out.1.chn.1 (d.cs.getD k 0) (by rw [List.getD_eq_getElem?_getD,List.getElem?_eq_getElem hlt];exact List.getElem_mem hlt))
   have HY:Hid (∀ y,d.cs.getD k 0=y→(y<2∨(d.ss.length:Int)≤y→¬DkG f d)∧((∃ i,i<k∧d.cs.getD i 0=y)→¬DkG f d)∧(2≤y∧y<d.ss.length→(∀ i,i<k→d.cs.getD i 0≠y)→chK d.cs d.ss.length (k+1))):=fun y hy=>by
    refine ⟨fun h hG=>by have:=(hG.ch k hlt).1;omega,fun h hG=>?_,fun h1 h2=>chK_succ HCH.out (by rw [hy];exact h1) (by rw [hy];exact h2)⟩
    obtain ⟨i,hi,e⟩:=h
    exact (hG.ch k hlt).2 i hi (e.trans hy.symm)
   obtain ⟨hy1,hy2,hy3⟩:=HY.out _ rfl
   have HHS:=l9has_any (some ⟨b,off,none⟩) d.cc (d.cs.take k) (d.cs.getD k 0) wr.drew (by exact HIN) (by simp;omega)
   have hlk:(d.cs.take k).length=k:=by simp;omega
   have HTK:Hid (∀ i,i<k→(d.cs.take k).getD i 0=d.cs.getD i 0):=fun i hi=>by simp [List.getD_eq_getElem?_getD,List.getElem?_take,hi]
   rw [hlk] at HHS
   clear hc HY HIN hca
   generalize d.cs.getD k 0=y at *
   have hkz:(k:Int)<(d.cs.length:Int):=by omega
   have hk0:(0:Int)≤(k:Int):=by omega
   have hkc:(k:Int)≤(d.cc:Int):=by omega
   have hkc2:k≤d.cc:=by omega
   by_cases hy2':y<2
   ·have HF:Hid (RP (.returned (.bool false)) wr.drew):=HNO.out _ (hy1 (.inl hy2')) HWR.out.1.drew
    clear HB HNO HYES HHS hy1 hy2 hy3 HWR HTK hbel
    have hd2:decide (y<2)=true:=decide_eq_true hy2'
    go_wp2
    refine wp_region_cut (S:=fun W=>W.cell? ⟨w.heap.size,6,none⟩=some (.slice (some ⟨b,off,none⟩) d.cs.length d.cc)∧W.cell? ⟨b,off+k,none⟩=some (.int .i64 y)) 27 (by kernel_rfl) (by kernel_rfl) (by exact ⟨x6,c0⟩) (fun hHeld=>?_)
    refine tk 0 (v:=?_) ?_ ?_
    rotate_left
    ·(intro w hSw;(try dsimp only at hSw);go_simp;try (with_reducible rfl))
    try simp only [tkS]
    refine tk 1 (v:=?_) ?_ ?_
    rotate_left
    ·(intro w hSw;(try dsimp only at hSw);go_simp;try (with_reducible rfl))
    try simp only [tkS]
    refine tk 2 (v:=?_) ?_ ?_
    rotate_left
    ·(intro w hSw;(try dsimp only at hSw);go_simp;try (with_reducible rfl))
    try simp only [tkS]
    refine tk 3 (v:=?_) ?_ ?_
    rotate_left
    ·(intro w hSw;(try dsimp only at hSw);go_simp;try (with_reducible rfl))
    try simp only [tkS]
    refine tk 4 (v:=?_) ?_ ?_
    rotate_left
    ·(intro w hSw;(try dsimp only at hSw);go_simp;try (with_reducible rfl))
    try simp only [tkS]
    refine tk 5 (v:=?_) ?_ ?_
    rotate_left
    ·(intro w hSw;(try dsimp only at hSw);go_simp;try (with_reducible rfl))
    try simp only [tkS]
    refine tk 6 (v:=?_) ?_ ?_
    rotate_left
    ·(intro w hSw;(try dsimp only at hSw);go_simp;try (with_reducible rfl))
    try simp only [tkS]
    refine tu 7 ?_
    try simp only [tkS]
    refine tu 8 ?_
    try simp only [tkS]
    refine tu 9 ?_
    try simp only [tkS]
    refine tu 10 ?_
    try simp only [tkS]
    refine tu 11 ?_
    try simp only [tkS]
    refine tu 12 ?_
    try simp only [tkS]
    refine tu 13 ?_
    try simp only [tkS]
    refine tk 14 (v:=?_) ?_ ?_
    rotate_left
    ·(intro w hSw;(try dsimp only at hSw);go_simp;try (with_reducible rfl))
    try simp only [tkS]
    refine tk 15 (v:=?_) ?_ ?_
    rotate_left
    ·(intro w hSw;(try dsimp only at hSw);go_simp;try (with_reducible rfl))
    try simp only [tkS]
    refine tu 16 ?_
    try simp only [tkS]
    refine tu 17 ?_
    try simp only [tkS]
    refine tu 18 ?_
    try simp only [tkS]
    refine tu 19 ?_
    try simp only [tkS]
    refine tu 20 ?_
    try simp only [tkS]
    refine tu 21 ?_
    try simp only [tkS]
    refine tu 22 ?_
    try simp only [tkS]
    refine tu 23 ?_
    try simp only [tkS]
    refine tu 24 ?_
    try simp only [tkS]
    refine tu 25 ?_
    try simp only [tkS]
    refine tk 26 (v:=?_) ?_ ?_
    rotate_left
    ·(intro w hSw;(try dsimp only at hSw);go_simp;try (with_reducible rfl))
    try simp only [tkS]
    refine wpAnyH_done (by kernel_rfl) ?_ _
    simp only [cutQ,List.drop_succ_cons,List.drop_zero]
    go_wp2
    exact HF.out
   have hd2:decide (y<2)=false:=decide_eq_false hy2'
   by_cases hyr:(d.ss.length:Int)≤y
   ·have HF:Hid (RP (.returned (.bool false)) wr.drew):=HNO.out _ (hy1 (.inr hyr)) HWR.out.1.drew
    clear HB HNO HYES HHS hy1 hy2 hy3 HWR HTK hbel
    have hd3:decide ((d.ss.length:Int)≤y)=true:=decide_eq_true hyr
    go_wp2
    refine wp_region_cut (S:=fun W=>W.cell? ⟨w.heap.size,6,none⟩=some (.slice (some ⟨b,off,none⟩) d.cs.length d.cc)∧W.cell? ⟨b,off+k,none⟩=some (.int .i64 y)) 27 (by kernel_rfl) (by kernel_rfl) (by exact ⟨x6,c0⟩) (fun hHeld=>?_)
    refine tk 0 (v:=?_) ?_ ?_
    rotate_left
    ·(intro w hSw;(try dsimp only at hSw);go_simp;try (with_reducible rfl))
    try simp only [tkS]
    refine tk 1 (v:=?_) ?_ ?_
    rotate_left
    ·(intro w hSw;(try dsimp only at hSw);go_simp;try (with_reducible rfl))
    try simp only [tkS]
    refine tk 2 (v:=?_) ?_ ?_
    rotate_left
    ·(intro w hSw;(try dsimp only at hSw);go_simp;try (with_reducible rfl))
    try simp only [tkS]
    refine tk 3 (v:=?_) ?_ ?_
    rotate_left
    ·(intro w hSw;(try dsimp only at hSw);go_simp;try (with_reducible rfl))
    try simp only [tkS]
    refine tk 4 (v:=?_) ?_ ?_
    rotate_left
    ·(intro w hSw;(try dsimp only at hSw);go_simp;try (with_reducible rfl))
    try simp only [tkS]
    refine tk 5 (v:=?_) ?_ ?_
    rotate_left
    ·(intro w hSw;(try dsimp only at hSw);go_simp;try (with_reducible rfl))
    try simp only [tkS]
    refine tk 6 (v:=?_) ?_ ?_
    rotate_left
    ·(intro w hSw;(try dsimp only at hSw);go_simp;try (with_reducible rfl))
    try simp only [tkS]
    refine tk 7 (v:=?_) ?_ ?_
    rotate_left
    ·(intro w hSw;(try dsimp only at hSw);go_simp;try (with_reducible rfl))
    try simp only [tkS]
    refine tk 8 (v:=?_) ?_ ?_
    rotate_left
    ·(intro w hSw;(try dsimp only at hSw);go_simp;try (with_reducible rfl))
    try simp only [tkS]
    refine tk 9 (v:=?_) ?_ ?_
    rotate_left
    ·(intro w hSw;(try dsimp only at hSw);go_simp;try (with_reducible rfl))
    try simp only [tkS]
    refine tk 10 (v:=?_) ?_ ?_
    rotate_left
    ·(intro w hSw;(try dsimp only at hSw);go_simp;try (with_reducible rfl))
    try simp only [tkS]
    refine tk 11 (v:=?_) ?_ ?_
    rotate_left
    ·(intro w hSw;(try dsimp only at hSw);go_simp;try (with_reducible rfl))
    try simp only [tkS]
    refine tk 12 (v:=?_) ?_ ?_
    rotate_left
    ·(intro w hSw;(try dsimp only at hSw);go_simp;try (with_reducible rfl))
    try simp only [tkS]
    refine tk 13 (v:=?_) ?_ ?_
    rotate_left
    ·(intro w hSw;(try dsimp only at hSw);go_simp;try (with_reducible rfl))
    try simp only [tkS]
    refine tk 14 (v:=?_) ?_ ?_
    rotate_left
    ·(intro w hSw;(try dsimp only at hSw);go_simp;try (with_reducible rfl))
    try simp only [tkS]
    refine tk 15 (v:=?_) ?_ ?_
    rotate_left
    ·(intro w hSw;(try dsimp only at hSw);go_simp;try (with_reducible rfl))
    try simp only [tkS]
    refine tu 16 ?_
    try simp only [tkS]
    refine tu 17 ?_
    try simp only [tkS]
    refine tu 18 ?_
    try simp only [tkS]
    refine tu 19 ?_
    try simp only [tkS]
    refine tu 20 ?_
    try simp only [tkS]
    refine tu 21 ?_
    try simp only [tkS]
    refine tu 22 ?_
    try simp only [tkS]
    refine tu 23 ?_
    try simp only [tkS]
    refine tu 24 ?_
    try simp only [tkS]
    refine tu 25 ?_
    try simp only [tkS]
    refine tk 26 (v:=?_) ?_ ?_
    rotate_left
    ·(intro w hSw;(try dsimp only at hSw);go_simp;try (with_reducible rfl))
    try simp only [tkS]
    refine wpAnyH_done (by kernel_rfl) ?_ _
    simp only [cutQ,List.drop_succ_cons,List.drop_zero]
    go_wp2
    exact HF.out
   have hge:2≤y∧y<(d.ss.length:Int):=⟨by omega,by omega⟩
   have hd3:decide ((d.ss.length:Int)≤y)=false:=decide_eq_false hyr
   rcases Classical.em (∃ i,i<k∧d.cs.getD i 0=y) with hh | hh
   ·have HF:Hid (RP (.returned (.bool false)) wr.drew):=HNO.out _ (hy2 hh) HWR.out.1.drew
    have HHT:Calls Tryz.prog 81 #[.slice (some ⟨b,off,none⟩) k d.cc,.int .i64 y] wr.drew (fun e w'=>e=.returned (.bool true)∧w'=wr.drew):=HHS.mono (fun e w' h=>⟨by
     rcases h.1 with ⟨_,h2⟩ | ⟨h2,_⟩
     ·exact h2
     ·obtain ⟨i,hi,e2⟩:=hh
      exact absurd ((HTK.out i hi).trans e2) (h2 i hi),h.2⟩)
    clear HB HNO HYES HHS hy1 hy2 hy3 HWR HTK hbel hh
    go_wp2
    refine wp_region_cut (S:=fun W=>W.cell? ⟨w.heap.size,6,none⟩=some (.slice (some ⟨b,off,none⟩) d.cs.length d.cc)∧W.cell? ⟨b,off+k,none⟩=some (.int .i64 y)) 27 (by kernel_rfl) (by kernel_rfl) (by exact ⟨x6,c0⟩) (fun hHeld=>?_)
    refine tk 0 (v:=?_) ?_ ?_
    rotate_left
    ·(intro w hSw;(try dsimp only at hSw);go_simp;try (with_reducible rfl))
    try simp only [tkS]
    refine tk 1 (v:=?_) ?_ ?_
    rotate_left
    ·(intro w hSw;(try dsimp only at hSw);go_simp;try (with_reducible rfl))
    try simp only [tkS]
    refine tk 2 (v:=?_) ?_ ?_
    rotate_left
    ·(intro w hSw;(try dsimp only at hSw);go_simp;try (with_reducible rfl))
    try simp only [tkS]
    refine tk 3 (v:=?_) ?_ ?_
    rotate_left
    ·(intro w hSw;(try dsimp only at hSw);go_simp;try (with_reducible rfl))
    try simp only [tkS]
    refine tk 4 (v:=?_) ?_ ?_
    rotate_left
    ·(intro w hSw;(try dsimp only at hSw);go_simp;try (with_reducible rfl))
    try simp only [tkS]
    refine tk 5 (v:=?_) ?_ ?_
    rotate_left
    ·(intro w hSw;(try dsimp only at hSw);go_simp;try (with_reducible rfl))
    try simp only [tkS]
    refine tk 6 (v:=?_) ?_ ?_
    rotate_left
    ·(intro w hSw;(try dsimp only at hSw);go_simp;try (with_reducible rfl))
    try simp only [tkS]
    refine tk 7 (v:=?_) ?_ ?_
    rotate_left
    ·(intro w hSw;(try dsimp only at hSw);go_simp;try (with_reducible rfl))
    try simp only [tkS]
    refine tk 8 (v:=?_) ?_ ?_
    rotate_left
    ·(intro w hSw;(try dsimp only at hSw);go_simp;try (with_reducible rfl))
    try simp only [tkS]
    refine tk 9 (v:=?_) ?_ ?_
    rotate_left
    ·(intro w hSw;(try dsimp only at hSw);go_simp;try (with_reducible rfl))
    try simp only [tkS]
    refine tk 10 (v:=?_) ?_ ?_
    rotate_left
    ·(intro w hSw;(try dsimp only at hSw);go_simp;try (with_reducible rfl))
    try simp only [tkS]
    refine tk 11 (v:=?_) ?_ ?_
    rotate_left
    ·(intro w hSw;(try dsimp only at hSw);go_simp;try (with_reducible rfl))
    try simp only [tkS]
    refine tk 12 (v:=?_) ?_ ?_
    rotate_left
    ·(intro w hSw;(try dsimp only at hSw);go_simp;try (with_reducible rfl))
    try simp only [tkS]
    refine tk 13 (v:=?_) ?_ ?_
    rotate_left
    ·(intro w hSw;(try dsimp only at hSw);go_simp;try (with_reducible rfl))
    try simp only [tkS]
    refine tk 14 (v:=?_) ?_ ?_
    rotate_left
    ·(intro w hSw;(try dsimp only at hSw);go_simp;try (with_reducible rfl))
    try simp only [tkS]
    refine tk 15 (v:=?_) ?_ ?_
    rotate_left
    ·(intro w hSw;(try dsimp only at hSw);go_simp;try (with_reducible rfl))
    try simp only [tkS]
    refine tk 16 (v:=?_) ?_ ?_
    rotate_left
    ·(intro w hSw;(try dsimp only at hSw);go_simp;try (with_reducible rfl))
    try simp only [tkS]
    refine tk 17 (v:=?_) ?_ ?_
    rotate_left
    ·(intro w hSw;(try dsimp only at hSw);go_simp;try (with_reducible rfl))
    try simp only [tkS]
    refine tk 18 (v:=?_) ?_ ?_
    rotate_left
    ·(intro w hSw;(try dsimp only at hSw);go_simp;try (with_reducible rfl))
    try simp only [tkS]
    refine tk 19 (v:=?_) ?_ ?_
    rotate_left
    ·(intro w hSw;(try dsimp only at hSw);go_simp;try (with_reducible rfl))
    try simp only [tkS]
    refine tk 20 (v:=?_) ?_ ?_
    rotate_left
    ·(intro w hSw;(try dsimp only at hSw);go_simp;try (with_reducible rfl))
    try simp only [tkS]
    refine tk 21 (v:=?_) ?_ ?_
    rotate_left
    ·(intro w hSw;(try dsimp only at hSw);go_simp;try (with_reducible rfl))
    try simp only [tkS]
    refine tk 22 (v:=?_) ?_ ?_
    rotate_left
    ·(intro w hSw;(try dsimp only at hSw);go_simp;try (with_reducible rfl))
    try simp only [tkS]
    refine tk 23 (v:=?_) ?_ ?_
    rotate_left
    ·(intro w hSw;(try dsimp only at hSw);go_simp;try (with_reducible rfl))
    try simp only [tkS]
    refine tk 24 (v:=?_) ?_ ?_
    rotate_left
    ·(intro w hSw;(try dsimp only at hSw);go_simp;try (with_reducible rfl))
    try simp only [tkS]
    refine wpAnyH_ready (rs:=[25]) (by kernel_rfl) (by simp) ?_
    refine AllReadyH.cons rfl (fun K hK=>?_) AllReadyH.nil
    go_simp
    refine HHT.mono ?_
    clear HHT
    rintro e w9 ⟨rfl,rfl⟩
    dsimp only
    refine hK.out _ _ (by exact ⟨x6,c0⟩) (fun hHeld=>?_)
    clear hK K
    try simp only [tkS]
    refine tk 26 (v:=?_) ?_ ?_
    rotate_left
    ·(intro w hSw;(try dsimp only at hSw);go_simp;try (with_reducible rfl))
    try simp only [tkS]
    refine wpAnyH_done (by kernel_rfl) ?_ _
    simp only [cutQ,List.drop_succ_cons,List.drop_zero]
    go_wp2
    exact HF.out
   ·have HH:Hid (chK d.cs d.ss.length (k+1)):=hy3 hge (fun i hi e=>hh ⟨i,hi,e⟩)
    have HHT:Calls Tryz.prog 81 #[.slice (some ⟨b,off,none⟩) k d.cc,.int .i64 y] wr.drew (fun e w'=>e=.returned (.bool false)∧w'=wr.drew):=HHS.mono (fun e w' h=>⟨by
     rcases h.1 with ⟨⟨i,hi,e2⟩,_⟩ | ⟨_,h2⟩
     ·exact absurd ⟨i,hi,(HTK.out i hi).symm.trans e2⟩ hh
     ·exact h2,h.2⟩)
    clear HHS hy1 hy2 hy3 HTK hh
    go_wp2
    refine wp_region_cut (S:=fun W=>W.cell? ⟨w.heap.size,6,none⟩=some (.slice (some ⟨b,off,none⟩) d.cs.length d.cc)∧W.cell? ⟨b,off+k,none⟩=some (.int .i64 y)) 27 (by kernel_rfl) (by kernel_rfl) (by exact ⟨x6,c0⟩) (fun hHeld=>?_)
    refine tk 0 (v:=?_) ?_ ?_
    rotate_left
    ·(intro w hSw;(try dsimp only at hSw);go_simp;try (with_reducible rfl))
    try simp only [tkS]
    refine tk 1 (v:=?_) ?_ ?_
    rotate_left
    ·(intro w hSw;(try dsimp only at hSw);go_simp;try (with_reducible rfl))
    try simp only [tkS]
    refine tk 2 (v:=?_) ?_ ?_
    rotate_left
    ·(intro w hSw;(try dsimp only at hSw);go_simp;try (with_reducible rfl))
    try simp only [tkS]
    refine tk 3 (v:=?_) ?_ ?_
    rotate_left
    ·(intro w hSw;(try dsimp only at hSw);go_simp;try (with_reducible rfl))
    try simp only [tkS]
    refine tk 4 (v:=?_) ?_ ?_
    rotate_left
    ·(intro w hSw;(try dsimp only at hSw);go_simp;try (with_reducible rfl))
    try simp only [tkS]
    refine tk 5 (v:=?_) ?_ ?_
    rotate_left
    ·(intro w hSw;(try dsimp only at hSw);go_simp;try (with_reducible rfl))
    try simp only [tkS]
    refine tk 6 (v:=?_) ?_ ?_
    rotate_left
    ·(intro w hSw;(try dsimp only at hSw);go_simp;try (with_reducible rfl))
    try simp only [tkS]
    refine tk 7 (v:=?_) ?_ ?_
    rotate_left
    ·(intro w hSw;(try dsimp only at hSw);go_simp;try (with_reducible rfl))
    try simp only [tkS]
    refine tk 8 (v:=?_) ?_ ?_
    rotate_left
    ·(intro w hSw;(try dsimp only at hSw);go_simp;try (with_reducible rfl))
    try simp only [tkS]
    refine tk 9 (v:=?_) ?_ ?_
    rotate_left
    ·(intro w hSw;(try dsimp only at hSw);go_simp;try (with_reducible rfl))
    try simp only [tkS]
    refine tk 10 (v:=?_) ?_ ?_
    rotate_left
    ·(intro w hSw;(try dsimp only at hSw);go_simp;try (with_reducible rfl))
    try simp only [tkS]
    refine tk 11 (v:=?_) ?_ ?_
    rotate_left
    ·(intro w hSw;(try dsimp only at hSw);go_simp;try (with_reducible rfl))
    try simp only [tkS]
    refine tk 12 (v:=?_) ?_ ?_
    rotate_left
    ·(intro w hSw;(try dsimp only at hSw);go_simp;try (with_reducible rfl))
    try simp only [tkS]
    refine tk 13 (v:=?_) ?_ ?_
    rotate_left
    ·(intro w hSw;(try dsimp only at hSw);go_simp;try (with_reducible rfl))
    try simp only [tkS]
    refine tk 14 (v:=?_) ?_ ?_
    rotate_left
    ·(intro w hSw;(try dsimp only at hSw);go_simp;try (with_reducible rfl))
    try simp only [tkS]
    refine tk 15 (v:=?_) ?_ ?_
    rotate_left
    ·(intro w hSw;(try dsimp only at hSw);go_simp;try (with_reducible rfl))
    try simp only [tkS]
    refine tk 16 (v:=?_) ?_ ?_
    rotate_left
    ·(intro w hSw;(try dsimp only at hSw);go_simp;try (with_reducible rfl))
    try simp only [tkS]
    refine tk 17 (v:=?_) ?_ ?_
    rotate_left
    ·(intro w hSw;(try dsimp only at hSw);go_simp;try (with_reducible rfl))
    try simp only [tkS]
    refine tk 18 (v:=?_) ?_ ?_
    rotate_left
    ·(intro w hSw;(try dsimp only at hSw);go_simp;try (with_reducible rfl))
    try simp only [tkS]
    refine tk 19 (v:=?_) ?_ ?_
    rotate_left
    ·(intro w hSw;(try dsimp only at hSw);go_simp;try (with_reducible rfl))
    try simp only [tkS]
    refine tk 20 (v:=?_) ?_ ?_
    rotate_left
    ·(intro w hSw;(try dsimp only at hSw);go_simp;try (with_reducible rfl))
    try simp only [tkS]
    refine tk 21 (v:=?_) ?_ ?_
    rotate_left
    ·(intro w hSw;(try dsimp only at hSw);go_simp;try (with_reducible rfl))
    try simp only [tkS]
    refine tk 22 (v:=?_) ?_ ?_
    rotate_left
    ·(intro w hSw;(try dsimp only at hSw);go_simp;try (with_reducible rfl))
    try simp only [tkS]
    refine tk 23 (v:=?_) ?_ ?_
    rotate_left
    ·(intro w hSw;(try dsimp only at hSw);go_simp;try (with_reducible rfl))
    try simp only [tkS]
    refine tk 24 (v:=?_) ?_ ?_
    rotate_left
    ·(intro w hSw;(try dsimp only at hSw);go_simp;try (with_reducible rfl))
    try simp only [tkS]
    refine wpAnyH_ready (rs:=[25]) (by kernel_rfl) (by simp) ?_
    refine AllReadyH.cons rfl (fun K hK=>?_) AllReadyH.nil
    go_simp
    refine HHT.mono ?_
    clear HHT
    rintro e w9 ⟨rfl,rfl⟩
    dsimp only
    refine hK.out _ _ (by exact ⟨x6,c0⟩) (fun hHeld=>?_)
    clear hK K
    try simp only [tkS]
    refine tk 26 (v:=?_) ?_ ?_
    rotate_left
    ·(intro w hSw;(try dsimp only at hSw);go_simp;try (with_reducible rfl))
    try simp only [tkS]
    refine wpAnyH_done (by kernel_rfl) ?_ _
    simp only [cutQ,List.drop_succ_cons,List.drop_zero]
    go_wp2
    go_roundw
    case rel=>exact ⟨k+1,by omega,by go_num,HH.out,HWR.out.2.drew,HWR.out.1.drew⟩
    case measure=>simp [intOf];omega
  ·have hkn:k=d.cs.length:=by omega
   subst hkn
   have HW8:Hid (Below w.heap.size w wr):=hbel
   have hx8:=HWR.out.2
   have hm4:=HB.out.2.2.1.opn.n
   go_wp2
   go_loopw [5] (fun i wr=>∃ (k:Nat),k≤d.os.length∧i=.int .i64 k∧(∀ j,j<k→(d.os.getD j de).n<d.ms.length)∧Dk10 wr w.heap.size d∧Below w.heap.size w wr) (fun i _=>d.os.length-(intOf i).toNat)
   case atStart=>exact ⟨0,Nat.zero_le _,rfl,fun j hj=>by omega,hx8,HW8.out⟩
   case round=>
    clear x0 x1 x2 x3 x4 x5 x6 x7 x8 x9 xl hx8 HW8 HWR
    obtain ⟨k,hk,rfl,hall,hx,hbel⟩:=hrel
    have HAL:Hid (∀ j,j<k→(d.os.getD j de).n<d.ms.length):=hall
    have HWR:Hid (Below w.heap.size w wr∧Dk10 wr w.heap.size d):=⟨hbel,hx⟩
    obtain ⟨x0,x1,x2,x3,x4,x5,x6,x7,x8,x9,xl⟩:=hx
    clear hall
    by_cases hlt:k<d.os.length
    ·obtain ⟨b,off,hoa,hbl,d0,d1,-,-⟩:=(HB.out.1.opn.below hbel nl).pen k hlt
     rw [hoa] at x9
     have HS:Hid (∀ x,(d.os.getD k de).n=x→(x<d.ms.length→∀ j,j<k+1→(d.os.getD j de).n<d.ms.length)∧(¬x<d.ms.length→¬DkG f d)):=fun x hx=>by
      refine ⟨fun h j hj=>?_,fun h hG=>h (by rw [←hx];exact hG.ad k hlt)⟩
      rcases Nat.lt_or_ge j k with h3 | h3
      ·exact HAL.out j h3
      ·obtain rfl:j=k:=by omega
       rw [hx];exact h
     obtain ⟨hs1,hs2⟩:=HS.out _ rfl
     have hkz:(k:Int)<(d.os.length:Int):=by omega
     clear HS hoa
     generalize (d.os.getD k de).n=y at *
     by_cases hyx:y<(d.ms.length:Int)
     ·have HH:Hid (∀ j,j<k+1→(d.os.getD j de).n<d.ms.length):=hs1 hyx
      clear hs1 hs2 HAL
      go_wp2
      refine wp_region_cut (S:=fun W=>W.cell? ⟨w.heap.size,9,none⟩=some (.slice (some ⟨b,off,none⟩) d.os.length d.oc)∧W.cell? ⟨w.heap.size,4,none⟩=some (.slice d.ma d.ms.length d.mc)∧W.cell? ⟨b,off+k*2,none⟩=some (.int .i64 y)) 12 (by kernel_rfl) (by kernel_rfl) (by exact ⟨x9,x4,d0⟩) (fun hHeld=>?_)
      refine tk 0 (v:=?_) ?_ ?_
      rotate_left
      ·(intro w hSw;(try dsimp only at hSw);go_simp;try (with_reducible rfl))
      try simp only [tkS]
      refine tk 1 (v:=?_) ?_ ?_
      rotate_left
      ·(intro w hSw;(try dsimp only at hSw);go_simp;try (with_reducible rfl))
      try simp only [tkS]
      refine tk 2 (v:=?_) ?_ ?_
      rotate_left
      ·(intro w hSw;(try dsimp only at hSw);go_simp;try (with_reducible rfl))
      try simp only [tkS]
      refine tk 3 (v:=?_) ?_ ?_
      rotate_left
      ·(intro w hSw;(try dsimp only at hSw);go_simp;try (with_reducible rfl))
      try simp only [tkS]
      refine tk 4 (v:=?_) ?_ ?_
      rotate_left
      ·(intro w hSw;(try dsimp only at hSw);go_simp;try (with_reducible rfl))
      try simp only [tkS]
      refine tk 5 (v:=?_) ?_ ?_
      rotate_left
      ·(intro w hSw;(try dsimp only at hSw);go_simp;try (with_reducible rfl))
      try simp only [tkS]
      refine tk 6 (v:=?_) ?_ ?_
      rotate_left
      ·(intro w hSw;(try dsimp only at hSw);go_simp;try (with_reducible rfl))
      try simp only [tkS]
      refine tk 7 (v:=?_) ?_ ?_
      rotate_left
      ·(intro w hSw;(try dsimp only at hSw);go_simp;try (with_reducible rfl))
      try simp only [tkS]
      refine tk 8 (v:=?_) ?_ ?_
      rotate_left
      ·(intro w hSw;(try dsimp only at hSw);go_simp;try (with_reducible rfl))
      try simp only [tkS]
      refine tk 9 (v:=?_) ?_ ?_
      rotate_left
      ·(intro w hSw;(try dsimp only at hSw);go_simp;try (with_reducible rfl))
      try simp only [tkS]
      refine tk 10 (v:=?_) ?_ ?_
      rotate_left
      ·(intro w hSw;(try dsimp only at hSw);go_simp;try (with_reducible rfl))
      try simp only [tkS]
      refine tk 11 (v:=?_) ?_ ?_
      rotate_left
      ·(intro w hSw;(try dsimp only at hSw);go_simp;try (with_reducible rfl))
      try simp only [tkS]
      refine wpAnyH_done (by kernel_rfl) ?_ _
      simp only [cutQ,List.drop_succ_cons,List.drop_zero]
      go_wp2
      go_roundw
      case rel=>exact ⟨k+1,by omega,by go_num,HH.out,HWR.out.2.drew,HWR.out.1.drew⟩
      case measure=>simp [intOf];omega
     ·have HF:Hid (RP (.returned (.bool false)) wr.drew):=HNO.out _ (hs2 hyx) HWR.out.1.drew
      clear hs1 hs2 HAL HB HNO HYES HWR hbel
      go_wp2
      refine wp_region_cut (S:=fun W=>W.cell? ⟨w.heap.size,9,none⟩=some (.slice (some ⟨b,off,none⟩) d.os.length d.oc)∧W.cell? ⟨w.heap.size,4,none⟩=some (.slice d.ma d.ms.length d.mc)∧W.cell? ⟨b,off+k*2,none⟩=some (.int .i64 y)) 12 (by kernel_rfl) (by kernel_rfl) (by exact ⟨x9,x4,d0⟩) (fun hHeld=>?_)
      refine tk 0 (v:=?_) ?_ ?_
      rotate_left
      ·(intro w hSw;(try dsimp only at hSw);go_simp;try (with_reducible rfl))
      try simp only [tkS]
      refine tk 1 (v:=?_) ?_ ?_
      rotate_left
      ·(intro w hSw;(try dsimp only at hSw);go_simp;try (with_reducible rfl))
      try simp only [tkS]
      refine tk 2 (v:=?_) ?_ ?_
      rotate_left
      ·(intro w hSw;(try dsimp only at hSw);go_simp;try (with_reducible rfl))
      try simp only [tkS]
      refine tk 3 (v:=?_) ?_ ?_
      rotate_left
      ·(intro w hSw;(try dsimp only at hSw);go_simp;try (with_reducible rfl))
      try simp only [tkS]
      refine tk 4 (v:=?_) ?_ ?_
      rotate_left
      ·(intro w hSw;(try dsimp only at hSw);go_simp;try (with_reducible rfl))
      try simp only [tkS]
      refine tk 5 (v:=?_) ?_ ?_
      rotate_left
      ·(intro w hSw;(try dsimp only at hSw);go_simp;try (with_reducible rfl))
      try simp only [tkS]
      refine tk 6 (v:=?_) ?_ ?_
      rotate_left
      ·(intro w hSw;(try dsimp only at hSw);go_simp;try (with_reducible rfl))
      try simp only [tkS]
      refine tk 7 (v:=?_) ?_ ?_
      rotate_left
      ·(intro w hSw;(try dsimp only at hSw);go_simp;try (with_reducible rfl))
      try simp only [tkS]
      refine tk 8 (v:=?_) ?_ ?_
      rotate_left
      ·(intro w hSw;(try dsimp only at hSw);go_simp;try (with_reducible rfl))
      try simp only [tkS]
      refine tk 9 (v:=?_) ?_ ?_
      rotate_left
      ·(intro w hSw;(try dsimp only at hSw);go_simp;try (with_reducible rfl))
      try simp only [tkS]
      refine tk 10 (v:=?_) ?_ ?_
      rotate_left
      ·(intro w hSw;(try dsimp only at hSw);go_simp;try (with_reducible rfl))
      try simp only [tkS]
      refine tk 11 (v:=?_) ?_ ?_
      rotate_left
      ·(intro w hSw;(try dsimp only at hSw);go_simp;try (with_reducible rfl))
      try simp only [tkS]
      refine wpAnyH_done (by kernel_rfl) ?_ _
      simp only [cutQ,List.drop_succ_cons,List.drop_zero]
      go_wp2
      exact HF.out
    ·have hkn:k=d.os.length:=by omega
     subst hkn
     have HF:Hid (RP (.returned (.bool true)) wr):=HYES.out _ ⟨HGS.out.1,HGS.out.2.1,HGS.out.2.2.1,HLE.out.1,HGS.out.2.2.2,HG5.out,HG6.out,HE.out.1,HE.out.2,HCH.out,HG7.out,HZF.out.1,HZG.out.1,HAL.out⟩ hbel
     clear HB HNO HYES HWR hbel
     go_wp2
     exact HF.out
end Go.Proofs.YtaibkchbkedjnaaGreatDoor
