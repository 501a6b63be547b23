/- Lemmas on the way. -/
import Derived.Test.YtaibkchbkedjnaaGreatDoorDkS2
import Derived.Test.YtaibkchbkedjnaaGreatDoorBit1
import Derived.Maps.GroupsBeside
import Derived.OpenShut
import Derived.ChangeSlices
set_option maxRecDepth 20000
set_option maxHeartbeats 16000000
namespace Go.Proofs.YtaibkchbkedjnaaGreatDoor
open Go.RowKit
set_option linter.unusedVariables false
theorem has_any (sa pa:Option Addr) (sc pc n m:Nat) (x:Int) (w:World) (hn:n≤281474976710656) :
  Calls Tryz.prog 126 #[.agg #[.slice sa n sc,.slice pa m pc],.int .i64 x] w fun e w'=>e=.returned (.bool (decide (0≤x∧x<(n:Int))))∧Below w.heap.size w w':=by
 have hw:Below w.heap.size w (w.alloc (Obj.cells #[.slice sa n sc,.slice pa m pc] 41)):=bAw
 have key:(x<0)∨(0≤x∧(n:Int)≤x)∨(0≤x∧x<(n:Int)):=by omega
 rcases key with h | ⟨h,h2⟩ | ⟨h,h2⟩
 ·rw [decide_eq_false (show ¬(0≤x∧x<(n:Int)) by omega)]
  go_enter Tryz.func126,Tryz.ntmps126
  go_wp2
  go_ret
  exact ⟨by first | rfl | (simp;omega),hw⟩
 ·rw [decide_eq_false (show ¬(0≤x∧x<(n:Int)) by omega)]
  go_enter Tryz.func126,Tryz.ntmps126
  go_wp2
  go_ret
  exact ⟨by first | rfl | (simp;omega),hw⟩
 ·rw [decide_eq_true (show 0≤x∧x<(n:Int) by omega)]
  go_enter Tryz.func126,Tryz.ntmps126
  go_wp2
  go_ret
  exact ⟨by first | rfl | (simp;omega),hw⟩
theorem implRawOk_any (sa pa:Option Addr) (sc pc:Nat) (ss ps:List El) (w:World) (hb:RawI w sa pa ss ps) (hx:ss.length≤281474976710656) (hy:ps.length≤281474976710656) (hxl:∀ s ∈ ss,s.ls.length≤281474976710656) (hyl:∀ s ∈ ps,s.ls.length≤281474976710656) :
  Calls Tryz.prog 87 #[.agg #[.slice sa ss.length sc,.slice pa ps.length pc]] w fun e w'=>e=.returned (.bool (rok ss ps))∧Below w.heap.size w w':=by
 have HB:Hid (RawI w sa pa ss ps):=hb
 have HXL:Hid ((∀ s ∈ ss,s.ls.length≤281474976710656)∧∀ s ∈ ps,s.ls.length≤281474976710656):=⟨hxl,hyl⟩
 have HY:Hid (1≤ss.length→ss.length≤24→ps.length≤60→(∀ k,k<ss.length→(ss.getD k de).ls.length=256)→(∀ k,k<ps.length→pok ss.length (ps.getD k de))→rok ss ps=true):=fun a b c d e=>rok_yes ⟨a,b,c,d,e⟩
 have HN0:Hid (¬(1≤ss.length∧ss.length≤24∧ps.length≤60)→rok ss ps=false):=fun h=>rok_no (fun h1=>h ⟨h1.1,h1.2.1,h1.2.2.1⟩)
 have HN1:Hid (∀ k,k<ss.length→(ss.getD k de).ls.length≠256→rok ss ps=false):=fun k hk h=>rok_no (fun h1=>h (h1.2.2.2.1 k hk))
 have HN2:Hid (∀ k,k<ps.length→¬pok ss.length (ps.getD k de)→rok ss ps=false):=fun k hk h=>rok_no (fun h1=>h (h1.2.2.2.2 k hk))
 clear hb hxl hyl
 generalize rok ss ps=O at *
 generalize hlen:ss.length=n at *
 generalize hlen2:ps.length=m at *
 have HL:Hid (ss.length=n∧ps.length=m):=⟨hlen,hlen2⟩
 clear hlen hlen2
 have HW:Hid (Below w.heap.size w (w.alloc (Obj.cells #[.slice sa n sc,.slice pa m pc] 41))):=bAw
 have HX:Hid (Box2 (w.alloc (Obj.cells #[.slice sa n sc,.slice pa m pc] 41)) w.heap.size (.slice sa n sc) (.slice pa m pc)):=Box2.new _ _ _ _
 have key:(n<1)∨(1≤n∧24<n)∨(1≤n∧n≤24∧60<m)∨(1≤n∧n≤24∧m≤60):=by omega
 rcases key with h1 | ⟨h1,h2⟩ | ⟨h1,h2,h3⟩ | ⟨h1,h2,h3⟩
 ·have HF:Hid (O=false∧True):=⟨HN0.out (by omega),trivial⟩
  obtain rfl:n=0:=by omega
  go_enter Tryz.func87,Tryz.ntmps87
  go_wp2
  go_ret
  exact ⟨by rw [HF.out.1];rfl,HW.out⟩
 ·have HF:Hid (O=false∧True):=⟨HN0.out (by omega),trivial⟩
  go_enter Tryz.func87,Tryz.ntmps87
  go_wp2
  go_ret
  exact ⟨by rw [HF.out.1];rfl,HW.out⟩
 ·have HF:Hid (O=false∧True):=⟨HN0.out (by omega),trivial⟩
  go_enter Tryz.func87,Tryz.ntmps87
  go_wp2
  go_ret
  exact ⟨by rw [HF.out.1];rfl,HW.out⟩
 ·clear HN0
  go_enter Tryz.func87,Tryz.ntmps87
  go_wp2
  go_loop [26] (fun i=>∃ k:Nat,k≤n∧i=.int .i64 k∧∀ j,j<k→(ss.getD j de).ls.length=256) (fun i=>n-(intOf i).toNat)
  case atStart=>exact ⟨0,Nat.zero_le _,rfl,by simp⟩
  case round=>
   obtain ⟨k,hk,rfl,hall⟩:=hrel
   have HALL:Hid (∀ j,j<k→(ss.getD j de).ls.length=256):=hall
   clear hall
   by_cases hlt:k<n
   ·obtain ⟨b,off,rfl,hb1,c0,-,-⟩:=(HB.out.1.below HW.out nl).sec k (by rw [HL.out.1];exact hlt)
    have hll:=HXL.out.1 _ (getD_memE (k:=k) (by rw [HL.out.1];exact hlt))
    have HN:=HN1.out k hlt
    have HS:Hid ((ss.getD k de).ls.length=256→∀ j,j<k+1→(ss.getD j de).ls.length=256):=fun h j hj=>by
     by_cases e:j=k
     ·rw [e];exact h
     ·exact HALL.out j (by omega)
    generalize ss.getD k de=s at *
    obtain ⟨sn,sa,sc',sl⟩:=s
    simp only at c0 hll HN HS
    by_cases hc:sl.length=256
    ·have HS2:Hid _:=HS.out hc
     clear HN HS
     generalize sl.length=M at *
     subst hc
     go_wp2
     go_round
     case rel=>exact ⟨k+1,by omega,by go_num,HS2.out⟩
     case measure=>simp [intOf];omega
    ·have HF:Hid (O=false∧True):=⟨HN hc,trivial⟩
     have hc':((sl.length:Int) != 256)=true:=by rw [bne_iff_ne];omega
     clear HN HS hc
     go_wp2
     go_ret
     exact ⟨by rw [HF.out.1];rfl,HW.out⟩
   ·have hkn:k=n:=by omega
    subst hkn
    go_wp2
    obtain ⟨x0,x1,-,-,xl⟩:=HX.out
    go_loopw [37] (fun i wr=>∃ q:Nat,q≤m∧i=.int .i64 q∧(∀ j,j<q→pok k (ps.getD j de))∧Below (w.heap.size+1) (w.alloc (Obj.cells #[.slice sa k sc,.slice pa m pc] 41)) wr) (fun i _=>m-(intOf i).toNat)
    case atStart=>exact ⟨0,Nat.zero_le _,rfl,by simp,Below.refl _ _⟩
    case round=>
     obtain ⟨q,hq,rfl,hall,hbel⟩:=hrel
     have HAL2:Hid (∀ j,j<q→pok k (ps.getD j de)):=hall
     have y0:=keep hbel (by omega) x0
     have y1:=keep hbel (by omega) x1
     have HBE:Hid (Below (w.heap.size+1) (w.alloc (Obj.cells #[.slice sa k sc,.slice pa m pc] 41)) wr∧Below w.heap.size w wr):=⟨hbel,HW.out.trans (hbel.mono (by omega))⟩
     have ylt:w.heap.size<wr.heap.size:=by have:=hbel.size;simp at this;omega
     clear hall x0 x1 hbel xl
     by_cases hlt:q<m
     ·obtain ⟨b,off,rfl,hb1,c0,c1,-,hrg⟩:=(HB.out.2.below HBE.out.2 nl).pen q (by rw [HL.out.2];exact hlt)
      have hll:=HXL.out.2 _ (getD_memE (k:=q) (by rw [HL.out.2];exact hlt))
      have HN:=HN2.out q hlt
      have HS:Hid (pok k (ps.getD q de)→∀ j,j<q+1→pok k (ps.getD j de)):=fun h j hj=>by
       by_cases e:j=q
       ·rw [e];exact h
       ·exact HAL2.out j (by omega)
      have hrg1:=hrg.lo
      have hrg2:=hrg.hi
      clear hrg
      generalize ps.getD q de=s at *
      obtain ⟨sn,pa2,pc2,sl⟩:=s
      simp only [pok] at c0 c1 hll HN HS hrg1 hrg2
      have HB2:Hid (Below (w.heap.size+1) (w.alloc (Obj.cells #[.slice sa k sc,.slice (some ⟨b,off,none⟩) m pc] 41)) (wr.alloc (Obj.cells #[.int .i64 sn,.slice pa2 sl.length pc2] 141))∧Below w.heap.size w (wr.alloc (Obj.cells #[.int .i64 sn,.slice pa2 sl.length pc2] 141))):=⟨HBE.out.1.alloc (by omega) _,HBE.out.2.alloc (by omega) _⟩
      have hbx:Box2 (wr.alloc (Obj.cells #[.int .i64 sn,.slice pa2 sl.length pc2] 141)) wr.heap.size (.int .i64 sn) (.slice pa2 sl.length pc2):=Box2.new _ _ _ _
      have HHS:=has_any sa (some ⟨b,off,none⟩) sc pc k m sn (wr.alloc (Obj.cells #[.int .i64 sn,.slice pa2 sl.length pc2] 141)) (by omega)
      go_wp2_with fail
      generalize wr.alloc (Obj.cells #[.int .i64 sn,.slice pa2 sl.length pc2] 141)=W at *
      refine HHS.mono ?_
      clear HHS
      rintro e w5 ⟨rfl,hb5⟩
      have hby:=hbx.keep hb5 hbx.lt
      obtain ⟨-,z1,-,-,zl⟩:=hby
      have HB5:Hid (Below (w.heap.size+1) (w.alloc (Obj.cells #[.slice sa k sc,.slice (some ⟨b,off,none⟩) m pc] 41)) w5∧Below w.heap.size w w5):=⟨HB2.out.1.trans (hb5.mono (by have:=HB2.out.1.size;simp at this;omega)),HB2.out.2.trans (hb5.mono HB2.out.2.size)⟩
      clear hb5 hbx HB2 c0 c1 y0 y1
      by_cases g:0≤sn∧sn<(k:Int)
      ·rw [decide_eq_true g]
       by_cases g3:sl.length=256
       ·have HS2:Hid (∀ j,j<q+1→pok k (ps.getD j de)):=HS.out ⟨g.1,g.2,g3⟩
        clear HN HS
        generalize sl.length=M at *
        subst g3
        go_wp2
        go_roundw
        case rel=>exact ⟨q+1,by omega,by go_num,HS2.out,HB5.out.1⟩
        case measure=>simp [intOf];omega
       ·have HF:Hid (O=false∧True):=⟨HN (by omega),trivial⟩
        have hc':((sl.length:Int) != 256)=true:=by rw [bne_iff_ne];omega
        clear HN HS g3
        go_wp2
        go_ret
        exact ⟨by rw [HF.out.1];rfl,HB5.out.2⟩
      ·rw [decide_eq_false g]
       have HF:Hid (O=false∧True):=⟨HN (by omega),trivial⟩
       clear HN HS
       go_wp2
       go_ret
       exact ⟨by rw [HF.out.1];rfl,HB5.out.2⟩
     ·have hqm:q=m:=by omega
      subst hqm
      have HF:Hid (O=true∧True):=⟨HY.out h1 h2 h3 HALL.out HAL2.out,trivial⟩
      go_wp2
      go_ret
      exact ⟨by rw [HF.out.1];rfl,HBE.out.2⟩
set_option linter.unusedSimpArgs false
def badP (ps:List (Int × Int)) (n:Int) (k:Nat):Prop:=∃ i,i<k∧¬(0≤(ps.getD i dp).1∧(ps.getD i dp).1<n)
theorem hasPl1_any (P:Nat) (sa pa:Option Addr) (sc pc n m:Nat) (x y:Int) (w:World) (hP0:w.cell? ⟨P,0,none⟩=some (.slice sa n sc)) (hP1:w.cell? ⟨P,1,none⟩=some (.slice pa m pc)) (hPl:P<w.heap.size) (hn:n≤1048576) :
  Calls Tryz.prog 163 #[.agg #[.int .i64 x,.int .i64 y],.pointer (some ⟨P,0,none⟩)] w fun e w'=>e=.returned (.bool (!(decide (0≤x∧x<(n:Int)))))∧Below w.heap.size w w':=by
 have hw:Below w.heap.size w (w.alloc (Obj.cells #[.int .i64 x,.int .i64 y] 127)):=bAw
 have p0:=keepA (Obj.cells #[.int .i64 x,.int .i64 y] 127) hPl hP0
 have p1:=keepA (Obj.cells #[.int .i64 x,.int .i64 y] 127) hPl hP1
 have HH:=has_any sa pa sc pc n m x (w.alloc (Obj.cells #[.int .i64 x,.int .i64 y] 127)) (by omega)
 generalize decide (0≤x∧x<(n:Int))=bb at *
 go_enter Tryz.func163,Tryz.ntmps163
 go_wp2_with fail
 refine HH.mono ?_
 rintro e w1 ⟨rfl,hb1⟩
 have HB:Hid (Below w.heap.size w w1):=hw.trans (hb1.mono hw.size)
 clear HH hb1 hw p0 p1
 go_wp2
 go_ret
 exact ⟨rfl,HB.out⟩
theorem indexPl_any (P:Nat) (sa pa:Option Addr) (sc pc n m:Nat) (za:Option Addr) (zc:Nat) (ps:List (Int × Int)) (w:World) (hP0:w.cell? ⟨P,0,none⟩=some (.slice sa n sc)) (hP1:w.cell? ⟨P,1,none⟩=some (.slice pa m pc)) (hPl:P<w.heap.size) (hn:n≤1048576) (hz:Pls w za ps) (hzn:ps.length≤1048576) :
  Calls Tryz.prog 183 #[.slice za ps.length zc,.func (.func 163) #[] #[.pointer (some ⟨P,0,none⟩)]] w fun e w'=>
   (∃ r:Int,e=.returned (.int .i64 r)∧((badP ps n ps.length∧0≤r)∨(¬badP ps n ps.length∧r=-1)))∧Below w.heap.size w w':=by
 have HT:Hid (w.cell? ⟨P,0,none⟩=some (.slice sa n sc)∧w.cell? ⟨P,1,none⟩=some (.slice pa m pc)):=⟨hP0,hP1⟩
 have HZ:Hid (Pls w za ps):=hz
 clear hP0 hP1 hz
 generalize hlen:ps.length=L at *
 have HL:Hid (ps.length=L∧True):=⟨hlen,trivial⟩
 clear hlen
 go_enter Tryz.func183,Tryz.ntmps183
 go_wp2
 go_loopw [8] (fun i wr=>∃ k:Nat,k≤L∧i=.int .i64 k∧¬badP ps n k∧Below w.heap.size w wr) (fun i _=>L-(intOf i).toNat)
 case atStart=>exact ⟨0,Nat.zero_le _,rfl,fun ⟨i,hi,_⟩=>by omega,Below.refl _ _⟩
 case round=>
  obtain ⟨k,hk,rfl,han,hbel⟩:=hrel
  have HAN:Hid (¬badP ps n k):=han
  clear han
  by_cases hlt:k<L
  ·obtain ⟨b,off,rfl,hb1,hc1⟩:=(HZ.out.below hbel nl).2 (by rw [HL.out.1];omega)
   have c0:=(hc1 k (by rw [HL.out.1];exact hlt)).1
   have c1:=(hc1 k (by rw [HL.out.1];exact hlt)).2
   have HU:Hid (∀ x y,ps.getD k dp=(x,y)→(decide (0≤x∧x<(n:Int))=true→¬badP ps n (k+1))∧(decide (0≤x∧x<(n:Int))=false→badP ps n L)):=fun x y hxy=>by
    refine ⟨fun h ⟨i,hi,h2⟩=>?_,fun h=>⟨k,hlt,by rw [hxy];exact of_decide_eq_false h⟩⟩
    rcases Nat.lt_or_ge i k with h3 | h3
    ·exact HAN.out ⟨i,h3,h2⟩
    ·obtain rfl:i=k:=by omega
     rw [hxy] at h2
     exact h2 (of_decide_eq_true h)
   clear hc1
   obtain ⟨x,y,hxy⟩:∃ x y,ps.getD k dp=(x,y):=⟨_,_,rfl⟩
   have hu:=HU.out x y hxy
   rw [hxy] at c0 c1
   simp only at c0 c1
   have HCL:=hasPl1_any P sa pa sc pc n m x y wr (keep hbel hPl HT.out.1) (keep hbel hPl HT.out.2) (by have:=hbel.size;omega) hn
   have HU2:Hid _:=hu
   clear hu HU hxy
   generalize decide (0≤x∧x<(n:Int))=bb at *
   go_wp2_with fail
   refine HCL.mono ?_
   clear HCL
   rintro e w1 ⟨rfl,hb1'⟩
   have HB1:Hid (Below w.heap.size w w1):=hbel.trans (hb1'.mono hbel.size)
   clear hb1' hbel c0 c1 hb1
   cases bb with
   | false=>
    have HF:Hid (badP ps n L):=HU2.out.2 rfl
    clear HU2
    go_wp2
    go_ret
    exact ⟨⟨_,rfl,.inl ⟨HF.out,by omega⟩⟩,HB1.out⟩
   | true=>
    have HF:Hid (¬badP ps n (k+1)):=HU2.out.1 rfl
    clear HU2
    go_wp2
    go_roundw
    case rel=>exact ⟨k+1,by omega,by go_num,HF.out,HB1.out⟩
    case measure=>simp [intOf];omega
  ·have hkn:k=L:=by omega
   subst hkn
   go_wp2
   go_ret
   exact ⟨⟨_,rfl,.inr ⟨HAN.out,rfl⟩⟩,hbel⟩
theorem containsPl_any (P:Nat) (sa pa:Option Addr) (sc pc n m:Nat) (za:Option Addr) (zc:Nat) (ps:List (Int × Int)) (w:World) (hP0:w.cell? ⟨P,0,none⟩=some (.slice sa n sc)) (hP1:w.cell? ⟨P,1,none⟩=some (.slice pa m pc)) (hPl:P<w.heap.size) (hn:n≤1048576) (hz:Pls w za ps) (hzn:ps.length≤1048576) :
  Calls Tryz.prog 162 #[.slice za ps.length zc,.func (.func 163) #[] #[.pointer (some ⟨P,0,none⟩)]] w fun e w'=>
   ((badP ps n ps.length∧e=.returned (.bool true))∨(¬badP ps n ps.length∧e=.returned (.bool false)))∧Below w.heap.size w w':=by
 have HI:=indexPl_any P sa pa sc pc n m za zc ps w hP0 hP1 hPl hn hz hzn
 clear hz
 go_enter Tryz.func162,Tryz.ntmps162
 go_wp2_with fail
 refine HI.mono ?_
 clear HI
 rintro e w1 ⟨⟨r,rfl,hr⟩,hb1⟩
 have HB:Hid (Below w.heap.size w w1):=hb1
 clear hb1
 rcases hr with ⟨h1,h2⟩ | ⟨h1,rfl⟩
 ·have H1:Hid (badP ps n ps.length):=h1
  clear h1
  go_wp2
  go_ret
  exact ⟨.inl ⟨H1.out,by simp [h2]⟩,HB.out⟩
 ·have H1:Hid (¬badP ps n ps.length):=h1
  clear h1
  go_wp2
  go_ret
  exact ⟨.inr ⟨H1.out,rfl⟩,HB.out⟩
theorem hasPlaces_any (sa pa:Option Addr) (sc pc n m:Nat) (za:Option Addr) (zc:Nat) (ps:List (Int × Int)) (w:World) (hn:n≤1048576) (hz:Pls w za ps) (hzn:ps.length≤1048576) :
  Calls Tryz.prog 129 #[.agg #[.slice sa n sc,.slice pa m pc],.agg #[.slice za ps.length zc]] w fun e w'=>
   ((badP ps n ps.length∧e=.returned (.bool false))∨(¬badP ps n ps.length∧e=.returned (.bool true)))∧Below w.heap.size w w':=by
 have hmf:∀ (fn:Fn) (first cap:Array Value) (w:World),(Instr.makeFunc fn first cap).run Tryz.prog w=.ok (.func fn first cap) w:=fun _ _ _ _=>rfl
 have hw0:Below w.heap.size w (w.alloc (Obj.cells #[.slice sa n sc,.slice pa m pc] 41)):=bAw
 have hw:Below w.heap.size w ((w.alloc (Obj.cells #[.slice sa n sc,.slice pa m pc] 41)).alloc (Obj.cells #[.slice za ps.length zc] 44)):=hw0.alloc (by simp) _
 have p0:((w.alloc (Obj.cells #[.slice sa n sc,.slice pa m pc] 41)).alloc (Obj.cells #[.slice za ps.length zc] 44)).cell? ⟨w.heap.size,0,none⟩=some (.slice sa n sc):=keepA _ (by simp) (by simp)
 have p1:((w.alloc (Obj.cells #[.slice sa n sc,.slice pa m pc] 41)).alloc (Obj.cells #[.slice za ps.length zc] 44)).cell? ⟨w.heap.size,1,none⟩=some (.slice pa m pc):=keepA _ (by simp) (by simp)
 have HI:=containsPl_any w.heap.size sa pa sc pc n m za zc ps _ p0 p1 (by simp;omega) hn (hz.below hw nl) hzn
 clear hz p0 p1 hw0
 go_enter Tryz.func129,Tryz.ntmps129
 go_wp2_with fail
 generalize (w.alloc (Obj.cells #[.slice sa n sc,.slice pa m pc] 41)).alloc (Obj.cells #[.slice za ps.length zc] 44)=W0 at *
 refine HI.mono ?_
 clear HI
 rintro e w1 ⟨hr,hb1⟩
 have HB:Hid (Below w.heap.size w w1):=hw.trans (hb1.mono hw.size)
 clear hb1 hw
 rcases hr with ⟨h1,rfl⟩ | ⟨h1,rfl⟩
 ·have H1:Hid (badP ps n ps.length):=h1
  clear h1
  go_wp2
  go_ret
  exact ⟨.inl ⟨H1.out,rfl⟩,HB.out⟩
 ·have H1:Hid (¬badP ps n ps.length):=h1
  clear h1
  go_wp2
  go_ret
  exact ⟨.inr ⟨H1.out,rfl⟩,HB.out⟩
def badA (es:List El) (n:Int) (k:Nat):Prop:=∃ i,i<k∧n≤(es.getD i de).n
theorem indexIt_any (P:Nat) (ma:Option Addr) (mc n:Nat) (za:Option Addr) (zc:Nat) (es:List El) (w:World) (hP4:w.cell? ⟨P,4,none⟩=some (.slice ma n mc)) (hPl:P<w.heap.size) (hn:n≤1048576) (hz:Els true w za es) (hzn:es.length≤1048576) :
  Calls Tryz.prog 134 #[.slice za es.length zc,.func (.func 132) #[] #[.pointer (some ⟨P,0,none⟩)]] w fun e w'=>
   (∃ r:Int,e=.returned (.int .i64 r)∧((badA es n es.length∧0≤r)∨(¬badA es n es.length∧r=-1)))∧Below w.heap.size w w':=by
 have HT:Hid (w.cell? ⟨P,4,none⟩=some (.slice ma n mc)∧True):=⟨hP4,trivial⟩
 have HZ:Hid (Els true w za es):=hz
 clear hP4 hz
 generalize hlen:es.length=L at *
 have HL:Hid (es.length=L∧True):=⟨hlen,trivial⟩
 clear hlen
 go_enter Tryz.func134,Tryz.ntmps134
 go_wp2
 go_loopw [8] (fun i wr=>∃ k:Nat,k≤L∧i=.int .i64 k∧¬badA es n k∧Below w.heap.size w wr) (fun i _=>L-(intOf i).toNat)
 case atStart=>exact ⟨0,Nat.zero_le _,rfl,fun ⟨i,hi,_⟩=>by omega,Below.refl _ _⟩
 case round=>
  obtain ⟨k,hk,rfl,han,hbel⟩:=hrel
  have HAN:Hid (¬badA es n k):=han
  clear han
  by_cases hlt:k<L
  ·obtain ⟨b,off,rfl,hb1,c0,c1,-,-⟩:=(HZ.out.below hbel nl).pen k (by rw [HL.out.1];exact hlt)
   have HU:Hid (∀ x,(es.getD k de).n=x→(x<(n:Int)→¬badA es n (k+1))∧(¬x<(n:Int)→badA es n L)):=fun x hx=>by
    refine ⟨fun h ⟨i,hi,h2⟩=>?_,fun h=>⟨k,hlt,by rw [hx];omega⟩⟩
    rcases Nat.lt_or_ge i k with h3 | h3
    ·exact HAN.out ⟨i,h3,h2⟩
    ·obtain rfl:i=k:=by omega
     rw [hx] at h2
     omega
   obtain ⟨hu1,hu2⟩:=HU.out _ rfl
   have p4:=keep hbel hPl HT.out.1
   have hPl2:P<wr.heap.size:=by have:=hbel.size;omega
   clear HU
   generalize es.getD k de=s at *
   obtain ⟨sn,sa,sc,sl⟩:=s
   simp only at c0 c1 hu1 hu2
   have hbx:Below wr.heap.size wr (wr.alloc (Obj.cells #[.int .i64 sn,.slice sa sl.length sc] 113)):=bAw
   have HB1:Hid (Below w.heap.size w (wr.alloc (Obj.cells #[.int .i64 sn,.slice sa sl.length sc] 113))):=hbel.trans (hbx.mono hbel.size)
   have p4a:=keepA (Obj.cells #[.int .i64 sn,.slice sa sl.length sc] 113) hPl2 p4
   clear hbx hbel
   by_cases hx:sn<(n:Int)
   ·have HF:Hid (¬badA es n (k+1)):=hu1 hx
    clear hu1 hu2
    go_wp2
    go_roundw
    case rel=>exact ⟨k+1,by omega,by go_num,HF.out,HB1.out⟩
    case measure=>simp [intOf];omega
   ·have HF:Hid (badA es n L):=hu2 hx
    clear hu1 hu2
    go_wp2
    go_ret
    exact ⟨⟨_,rfl,.inl ⟨HF.out,by omega⟩⟩,HB1.out⟩
  ·have hkn:k=L:=by omega
   subst hkn
   go_wp2
   go_ret
   exact ⟨⟨_,rfl,.inr ⟨HAN.out,rfl⟩⟩,hbel⟩
theorem containsIt_any (P:Nat) (ma:Option Addr) (mc n:Nat) (za:Option Addr) (zc:Nat) (es:List El) (w:World) (hP4:w.cell? ⟨P,4,none⟩=some (.slice ma n mc)) (hPl:P<w.heap.size) (hn:n≤1048576) (hz:Els true w za es) (hzn:es.length≤1048576) :
  Calls Tryz.prog 131 #[.slice za es.length zc,.func (.func 132) #[] #[.pointer (some ⟨P,0,none⟩)]] w fun e w'=>
   ((badA es n es.length∧e=.returned (.bool true))∨(¬badA es n es.length∧e=.returned (.bool false)))∧Below w.heap.size w w':=by
 have HI:=indexIt_any P ma mc n za zc es w hP4 hPl hn hz hzn
 clear hz
 go_enter Tryz.func131,Tryz.ntmps131
 go_wp2_with fail
 refine HI.mono ?_
 clear HI
 rintro e w1 ⟨⟨r,rfl,hr⟩,hb1⟩
 have HB:Hid (Below w.heap.size w w1):=hb1
 clear hb1
 rcases hr with ⟨h1,h2⟩ | ⟨h1,rfl⟩
 ·have H1:Hid (badA es n es.length):=h1
  clear h1
  go_wp2
  go_ret
  exact ⟨.inl ⟨H1.out,by simp [h2]⟩,HB.out⟩
 ·have H1:Hid (¬badA es n es.length):=h1
  clear h1
  go_wp2
  go_ret
  exact ⟨.inr ⟨H1.out,rfl⟩,HB.out⟩
theorem sectorOk_any (x:Int) (w:World) :
  Calls Tryz.prog 203 #[.int .i64 x] w fun e w'=>e=.returned (.bool (decide (2≤x∧x≤23)))∧w'=w:=by
 have key:(2≤x∧x<24)∨x<2∨(2≤x∧24≤x):=by omega
 rcases key with ⟨h1,h2⟩ | h1 | ⟨h1,h2⟩
 ·rw [decide_eq_true (show 2≤x∧x≤23 by omega)]
  go_enter Tryz.func203,Tryz.ntmps203
  go_wp2
  go_ret
  exact ⟨by simp [h1,h2],rfl⟩
 ·rw [decide_eq_false (show ¬(2≤x∧x≤23) by omega)]
  go_enter Tryz.func203,Tryz.ntmps203
  go_wp2
  go_ret
  exact ⟨rfl,rfl⟩
 ·rw [decide_eq_false (show ¬(2≤x∧x≤23) by omega)]
  have h3:¬x<24:=by omega
  go_enter Tryz.func203,Tryz.ntmps203
  go_wp2
  go_ret
  exact ⟨by simp [h3],rfl⟩
theorem isNowhere_any (x y:Int) (w:World) :
  Calls Tryz.prog 138 #[.agg #[.int .i64 x,.int .i64 y]] w fun e w'=>e=.returned (.bool (nwh (x,y)))∧Below w.heap.size w w':=by
 have key:(x=0∧y=0)∨(x=0∧¬y=0)∨¬x=0:=by omega
 rcases key with ⟨rfl,rfl⟩ | ⟨rfl,h⟩ | h
 ·go_enter Tryz.func138,Tryz.ntmps138
  go_wp2
  go_ret
  exact ⟨rfl,(Below.refl _ _).alloc nl _⟩
 ·rw [show nwh (0,y)=false from by unfold nwh;simp [h]]
  go_enter Tryz.func138,Tryz.ntmps138
  go_wp2
  go_ret
  exact ⟨rfl,(Below.refl _ _).alloc nl _⟩
 ·rw [show nwh (x,y)=false from by unfold nwh;simp [h]]
  go_enter Tryz.func138,Tryz.ntmps138
  go_wp2
  go_ret
  exact ⟨rfl,(Below.refl _ _).alloc nl _⟩
theorem right_any (x y:Int) (w:World) :
  Calls Tryz.prog 187 #[.agg #[.int .i64 x,.int .i64 y]] w fun e w'=>e=.returned (.bool (rgt (x,y)))∧Below w.heap.size w w':=by
 have hw:Below w.heap.size w (w.alloc (Obj.cells #[.int .i64 x,.int .i64 y] 127)):=bAw
 have key:(2≤x∧x≤23)∨¬(2≤x∧x≤23):=by omega
 rcases key with h | h
 ·have kk:(0≤y∧y<16)∨¬(0≤y)∨(0≤y∧¬y<16):=by omega
  rcases kk with ⟨h1,h2⟩ | h1 | ⟨h1,h2⟩
  ·rw [show rgt (x,y)=true from decide_eq_true ⟨h.1,h.2,h1,by simp only;omega⟩]
   go_enter Tryz.func187,Tryz.ntmps187
   go_wp2_with fail
   refine (sectorOk_any x _).mono ?_
   rintro e w1 ⟨rfl,rfl⟩
   rw [decide_eq_true h]
   go_wp2
   go_ret
   exact ⟨by simp [h1,h2],hw⟩
  ·rw [show rgt (x,y)=false from decide_eq_false (fun hh=>h1 hh.2.2.1)]
   go_enter Tryz.func187,Tryz.ntmps187
   go_wp2_with fail
   refine (sectorOk_any x _).mono ?_
   rintro e w1 ⟨rfl,rfl⟩
   rw [decide_eq_true h]
   go_wp2
   go_ret
   exact ⟨by simp [h1],hw⟩
  ·rw [show rgt (x,y)=false from decide_eq_false (fun hh=>h2 (by have:=hh.2.2.2;simp only at this;omega))]
   go_enter Tryz.func187,Tryz.ntmps187
   go_wp2_with fail
   refine (sectorOk_any x _).mono ?_
   rintro e w1 ⟨rfl,rfl⟩
   rw [decide_eq_true h]
   go_wp2
   go_ret
   exact ⟨by simp [h1,h2],hw⟩
 ·rw [show rgt (x,y)=false from decide_eq_false (fun hh=>h ⟨hh.1,hh.2.1⟩)]
  go_enter Tryz.func187,Tryz.ntmps187
  go_wp2_with fail
  refine (sectorOk_any x _).mono ?_
  rintro e w1 ⟨rfl,rfl⟩
  rw [decide_eq_false h]
  go_wp2
  go_ret
  exact ⟨rfl,hw⟩
theorem hasP_any (a:Option Addr) (n c:Nat) (x:Int) (w:World) (hn:n≤1048576) :
  Calls Tryz.prog 92 #[.slice a n c,.int .i64 x] w fun e w'=>e=.returned (.bool (decide (0≤x∧x<n)))∧w'=w:=by
 have key:(0≤x∧x<n)∨¬0≤x∨(0≤x∧¬x<n):=by omega
 rcases key with ⟨h1,h2⟩ | h1 | ⟨h1,h2⟩
 ·rw [decide_eq_true ⟨h1,h2⟩]
  go_enter Tryz.func92,Tryz.ntmps92
  go_wp2
  go_ret
  exact ⟨by simp [h1,h2],rfl⟩
 ·rw [decide_eq_false (fun hh=>h1 hh.1)]
  go_enter Tryz.func92,Tryz.ntmps92
  go_wp2
  go_ret
  exact ⟨by simp [h1],rfl⟩
 ·rw [decide_eq_false (fun hh=>h2 hh.2)]
  go_enter Tryz.func92,Tryz.ntmps92
  go_wp2
  go_ret
  exact ⟨by simp [h1,h2],rfl⟩
def plcO (ps:List (Int × Int)) (x:Int):Int × Int:=if 0≤x∧x<ps.length then ps.getD x.toNat dp else dp
theorem placeOf_any (a:Option Addr) (c:Nat) (ps:List (Int × Int)) (x:Int) (w:World) (hb:Pls w a ps) (hn:ps.length≤1048576) :
  Calls Tryz.prog 137 #[.slice a ps.length c,.int .i64 x] w fun e w'=>e=.returned (.agg #[.int .i64 (plcO ps x).1,.int .i64 (plcO ps x).2])∧Below w.heap.size w w':=by
 have hw:Below w.heap.size w (w.alloc (Obj.cells #[.int .i64 0,.int .i64 0] 127)):=bAw
 by_cases h:0≤x∧x<ps.length
 ·obtain ⟨k,rfl⟩:=Int.eq_ofNat_of_zero_le h.1
  have hk:k<ps.length:=by omega
  have he:plcO ps (k:Nat)=ps.getD k dp:=by unfold plcO;rw [if_pos h,Int.toNat_natCast]
  rw [he]
  obtain ⟨b,off,rfl,hb1,hc1⟩:=(hb.alloc (Obj.cells #[.int .i64 0,.int .i64 0] 127)).len_pos k hk
  obtain ⟨c0,c1⟩:=hc1 k hk
  have hbw:b<w.heap.size:=by
   obtain ⟨b',off',e,hb',_⟩:=hb.2 (by omega)
   simp at e
   omega
  clear hc1 he hb
  generalize ps.getD k dp=p at *
  generalize ps.length=n at *
  obtain ⟨x,y⟩:=p
  simp only at c0 c1 ⊢
  go_enter Tryz.func137,Tryz.ntmps137
  go_wp2_with fail
  refine (hasP_any _ n c k _ hn).mono ?_
  rintro e w1 ⟨rfl,rfl⟩
  rw [decide_eq_true h]
  go_wp2
  refine bodyPost_ret (v:=.agg #[.int .i64 x,.int .i64 y]) (by simp [results,Tryz.results137,go_sem]) rfl ⟨rfl,?_⟩
  repeat (refine Below.setCell ?_ (by first | (simp;done) | (simp;omega)) _)
  first | exact hw | exact (Below.refl _ _).alloc nl _
 ·have he:plcO ps x=dp:=by unfold plcO;rw [if_neg h]
  rw [he]
  clear he hb
  go_enter Tryz.func137,Tryz.ntmps137
  go_wp2_with fail
  refine (hasP_any a ps.length c x _ hn).mono ?_
  rintro e w1 ⟨rfl,rfl⟩
  rw [decide_eq_false h]
  go_wp2
  refine bodyPost_ret (v:=.agg #[.int .i64 0,.int .i64 0]) (by simp [results,Tryz.results137,go_sem]) rfl ⟨rfl,?_⟩
  repeat (refine Below.setCell ?_ (by first | (simp;done) | (simp;omega)) _)
  first | exact hw | exact (Below.refl _ _).alloc nl _
theorem plcO_in (ps:List (Int × Int)) (k:Nat) (h:k<ps.length):plcO ps k=ps.getD k dp:=by unfold plcO;rw [if_pos (by omega),Int.toNat_natCast]
end Go.Proofs.YtaibkchbkedjnaaGreatDoor
namespace Go.Proofs.YtaibkchbkedjnaaGreatDoor
open Go.RowKit Go.Maps Go.ChangeShapes Go.ChangeAt
set_option linter.unusedVariables false
theorem Tryz.lawKI :Keyed Tryz.prog 3:=int_keyed Tryz.underlying3
theorem Tryz.zeroSI (w:World):(zeroValue 29).run Tryz.prog w=.ok (.slice none 0 0) w:=by kernel_rfl
def Itm (d:DataW Unit) (zs:List Int):Prop:=(d=.nil∧zs=[])∨d=.slice (lits .i64 zs) []
theorem lits_inj {zs ys:List Int} (h:(lits .i64 zs:List (DataW Unit))=lits .i64 ys):zs=ys:=by
 unfold lits at h
 exact (List.map_inj_right (fun a b hab=>by simpa using hab)).1 h
theorem Itm.eq {d:DataW Unit} {zs ys:List Int} (h:Itm d zs) (h2:Itm d ys):zs=ys:=by
 rcases h with ⟨h,rfl⟩ | h <;> rcases h2 with ⟨h2,rfl⟩ | h2
 ·rfl
 ·rw [h] at h2;cases h2
 ·rw [h] at h2;cases h2
 ·rw [h] at h2
  injection h2 with h2
  exact lits_inj h2
theorem Itm.of {w:World} {base:Nat} {e:TypeId} {v:Value} {zs:List Int} {d:DataW Unit} (h:w.ownsInts base e .i64 v zs) (hd:d=rowDatum .i64 v zs):Itm d zs:=by
 rcases h.datum (H:=Unit) with ⟨h1,h2⟩ | h1
 ·exact .inl ⟨hd.trans h1,h2⟩
 ·exact .inr (hd.trans h1)
def Liv (w:World) (M n:Nat) (f:Int→List Int):Prop:=
 ∃ D:DataW Unit,w.ownsGroups Tryz.prog 3 (M+1) 3 .i64 M n D∧IsMap D∧∀ s,Itm (D.atKey (.int .i64 s) .nil) (f s)
theorem Liv.made (w:World):Liv (w.alloc (.map #[] 0)) w.heap.size 0 (fun _=>[]):=
 ⟨.map [],World.ownsGroups_made w _ _ _ _,isMap_empty,fun s=>.inl ⟨rfl,rfl⟩⟩
theorem grown_below {w w':World} (hb:Below w.heap.size w w'):w.grownBy w' none:=⟨hb.os,hb.tape,hb.output,hb.size,fun k hk _=>hb.block k hk⟩
theorem Liv.below {w w':World} {M n:Nat} {f:Int→List Int} (h:Liv w M n f) (hb:Below w.heap.size w w'):Liv w' M n f:=by
 obtain ⟨D,h1,h2,h3⟩:=h
 exact ⟨D,h1.kept (grown_below hb) (by simp) (fun _ _ _ x _=>by cases x.val.ownBlock <;> simp),h2,h3⟩
theorem Liv.lt {w:World} {M n:Nat} {f:Int→List Int} (h:Liv w M n f):M<w.heap.size:=by
 obtain ⟨D,⟨es,clock,hb,_⟩,_⟩:=h
 exact (Array.getElem?_eq_some_iff.1 hb).1
theorem Liv.look {w:World} {M n:Nat} {f:Int→List Int} (h:Liv w M n f) (hn:n≤1000) (s:Int) (hs:(Lit.int .i64 s).wf=true) :
  ∃ v,(Instr.lookup 178 (.map (some M)) (.int .i64 s) false).run Tryz.prog w=.ok v w∧OVI w (M+1) v (f s)∧(f s).length≤n:=by
 obtain ⟨D,h1,h2,h3⟩:=h
 obtain ⟨v,zs,hrun,hat,hoi,hzl,_⟩:=h1.at Tryz.lawKI Tryz.underlying178 (Tryz.zeroSI _) (by unfold maxLen;omega) (keyOf_int_mk Tryz.underlying3 hs)
 obtain rfl:zs=f s:=(Itm.of hoi hat).eq (h3 s)
 exact ⟨v,hrun,⟨hoi.1,fun z hz=>bounds_i64 (hoi.2 z hz)⟩,hzl⟩
def liv (ps:List (Int × Int)):Nat→Int→List Int
 | 0,_=>[]
 | k+1,s=>if !nwh (ps.getD k dp) && (ps.getD k dp).1 == s then liv ps k s++[(k:Int)] else liv ps k s
theorem liv_mem (ps:List (Int × Int)) (k:Nat) (s z:Int):z ∈ liv ps k s↔∃ i:Nat,i<k∧z=i∧nwh (ps.getD i dp)=false∧(ps.getD i dp).1=s:=by
 induction k with
 | zero=>simp [liv]
 | succ k ih=>
  simp only [liv]
  constructor
  ·intro h
   split at h
   ·rename_i hc
    simp only [Bool.and_eq_true,Bool.not_eq_true',beq_iff_eq] at hc
    rcases List.mem_append.1 h with h | h
    ·obtain ⟨i,hi,r⟩:=ih.1 h
     exact ⟨i,by omega,r⟩
    ·simp at h
     exact ⟨k,by omega,h,hc.1,hc.2⟩
   ·obtain ⟨i,hi,r⟩:=ih.1 h
    exact ⟨i,by omega,r⟩
  ·rintro ⟨i,hi,rfl,h1,h2⟩
   rcases Nat.lt_or_ge i k with h | h
   ·have:=ih.2 ⟨i,h,rfl,h1,h2⟩
    split
    ·exact List.mem_append_left _ this
    ·exact this
   ·obtain rfl:i=k:=by omega
    rw [if_pos (by rw [h1,h2];simp)]
    simp
theorem liv_len (ps:List (Int × Int)) (k:Nat) (s:Int):(liv ps k s).length≤k:=by
 induction k with
 | zero=>simp [liv]
 | succ k ih=>
  simp only [liv]
  split
  ·simp;omega
  ·omega
theorem liv_nw (ps:List (Int × Int)) (k:Nat) (h:nwh (ps.getD k dp)=true):liv ps (k+1)=liv ps k:=by
 funext s
 simp only [liv,h]
 simp
theorem liv_at (ps:List (Int × Int)) (k:Nat) (h:nwh (ps.getD k dp)=false) (s:Int):liv ps (k+1) s=if s=(ps.getD k dp).1 then liv ps k s++[(k:Int)] else liv ps k s:=by
 simp only [liv,h]
 by_cases hs:s=(ps.getD k dp).1
 ·rw [if_pos hs,if_pos (by rw [hs];simp)]
 ·rw [if_neg hs,if_neg]
  simp
  exact fun e=>hs e.symm
end Go.Proofs.YtaibkchbkedjnaaGreatDoor
