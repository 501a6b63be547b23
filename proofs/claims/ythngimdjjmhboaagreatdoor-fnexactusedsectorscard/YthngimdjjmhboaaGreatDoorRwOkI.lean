/-
  The program's RawOk.
-/
import Derived.Test.YthngimdjjmhboaaGreatDoorMpOkS
namespace Go.Proofs.YthngimdjjmhboaaGreatDoor
open Go.RowKit
set_option linter.unusedVariables false

set_option maxHeartbeats 800000 in
theorem has_any (sa pa:Option Addr) (sc pc n m:Nat) (x:Int) (w:World) (hn:n≤281474976710656) :
  Calls Tryz.prog 126 #[.agg #[.slice sa n sc,.slice pa m pc],.int .i64 x] w fun e w'=>e=.returned (.bool (decide (0≤x∧x<(n:Int))))∧Below w.heap.size w w':=by
 have hw:Below w.heap.size w (w.alloc (Obj.cells #[Value.slice sa n sc,Value.slice pa m pc] 41)):=(Below.refl _ _).alloc (Nat.le_refl _) _
 have key:(x<0)∨(0≤x∧(n:Int)≤x)∨(0≤x∧x<(n:Int)):=by omega
 rcases key with h | ⟨h,h2⟩ | ⟨h,h2⟩
 ·rw [decide_eq_false (show ¬(0≤x∧x<(n:Int)) by omega)]
  go_enter Tryz.func126,Tryz.ntmps126
  go_wp2
  go_ret
  exact ⟨by first | rfl | (simp;omega),hw⟩
 ·rw [decide_eq_false (show ¬(0≤x∧x<(n:Int)) by omega)]
  go_enter Tryz.func126,Tryz.ntmps126
  go_wp2
  go_ret
  exact ⟨by first | rfl | (simp;omega),hw⟩
 ·rw [decide_eq_true (show 0≤x∧x<(n:Int) by omega)]
  go_enter Tryz.func126,Tryz.ntmps126
  go_wp2
  go_ret
  exact ⟨by first | rfl | (simp;omega),hw⟩

set_option maxRecDepth 20000 in
set_option maxHeartbeats 4000000 in
theorem implRawOk_any (sa pa:Option Addr) (sc pc:Nat) (ss ps:List El) (w:World) (hb:RawI w sa pa ss ps) (hx:ss.length≤281474976710656) (hy:ps.length≤281474976710656) (hxl:∀ s ∈ ss,s.ls.length≤281474976710656) (hyl:∀ s ∈ ps,s.ls.length≤281474976710656) :
  Calls Tryz.prog 87 #[.agg #[.slice sa ss.length sc,.slice pa ps.length pc]] w fun e w'=>e=.returned (.bool (rok ss ps))∧Below w.heap.size w w':=by
 have HB:Hid (RawI w sa pa ss ps):=hb
 have HXL:Hid ((∀ s ∈ ss,s.ls.length≤281474976710656)∧∀ s ∈ ps,s.ls.length≤281474976710656):=⟨hxl,hyl⟩
 have HY:Hid (1≤ss.length→ss.length≤24→ps.length≤60→(∀ k,k<ss.length→(ss.getD k de).ls.length=256)→(∀ k,k<ps.length→pok ss.length (ps.getD k de))→rok ss ps=true):=fun a b c d e=>rok_yes ⟨a,b,c,d,e⟩
 have HN0:Hid (¬(1≤ss.length∧ss.length≤24∧ps.length≤60)→rok ss ps=false):=fun h=>rok_no (fun h1=>h ⟨h1.1,h1.2.1,h1.2.2.1⟩)
 have HN1:Hid (∀ k,k<ss.length→(ss.getD k de).ls.length≠256→rok ss ps=false):=fun k hk h=>rok_no (fun h1=>h (h1.2.2.2.1 k hk))
 have HN2:Hid (∀ k,k<ps.length→¬pok ss.length (ps.getD k de)→rok ss ps=false):=fun k hk h=>rok_no (fun h1=>h (h1.2.2.2.2 k hk))
 clear hb hxl hyl
 generalize rok ss ps=O at *
 generalize hlen:ss.length=n at *
 generalize hlen2:ps.length=m at *
 have HL:Hid (ss.length=n∧ps.length=m):=⟨hlen,hlen2⟩
 clear hlen hlen2
 have HW:Hid (Below w.heap.size w (w.alloc (Obj.cells #[Value.slice sa n sc,Value.slice pa m pc] 41))):=(Below.refl _ _).alloc (Nat.le_refl _) _
 have HX:Hid (Box2 (w.alloc (Obj.cells #[Value.slice sa n sc,Value.slice pa m pc] 41)) w.heap.size (.slice sa n sc) (.slice pa m pc)):=Box2.new _ _ _ _
 have key:(n<1)∨(1≤n∧24<n)∨(1≤n∧n≤24∧60<m)∨(1≤n∧n≤24∧m≤60):=by omega
 rcases key with h1 | ⟨h1,h2⟩ | ⟨h1,h2,h3⟩ | ⟨h1,h2,h3⟩
 ·have HF:Hid (O=false∧True):=⟨HN0.out (by omega),trivial⟩
  obtain rfl:n=0:=by omega
  go_enter Tryz.func87,Tryz.ntmps87
  go_wp2
  go_ret
  exact ⟨by rw [HF.out.1];rfl,HW.out⟩
 ·have HF:Hid (O=false∧True):=⟨HN0.out (by omega),trivial⟩
  go_enter Tryz.func87,Tryz.ntmps87
  go_wp2
  go_ret
  exact ⟨by rw [HF.out.1];rfl,HW.out⟩
 ·have HF:Hid (O=false∧True):=⟨HN0.out (by omega),trivial⟩
  go_enter Tryz.func87,Tryz.ntmps87
  go_wp2
  go_ret
  exact ⟨by rw [HF.out.1];rfl,HW.out⟩
 ·clear HN0
  go_enter Tryz.func87,Tryz.ntmps87
  go_wp2
  go_loop [26] (fun i=>∃ k:Nat,k≤n∧i=.int .i64 k∧∀ j,j<k→(ss.getD j de).ls.length=256) (fun i=>n - (intOf i).toNat)
  case atStart=>exact ⟨0,Nat.zero_le _,rfl,by simp⟩
  case round=>
   obtain ⟨k,hk,rfl,hall⟩:=hrel
   have HALL:Hid (∀ j,j<k→(ss.getD j de).ls.length=256):=hall
   clear hall
   by_cases hlt:k<n
   ·obtain ⟨b,off,rfl,hb1,c0,-,-⟩:=(HB.out.1.below HW.out (Nat.le_refl _)).sec k (by rw [HL.out.1];exact hlt)
    have hll:=HXL.out.1 _ (getD_memE (k:=k) (by rw [HL.out.1];exact hlt))
    have HN:=HN1.out k hlt
    have HS:Hid ((ss.getD k de).ls.length=256→∀ j,j<k+1→(ss.getD j de).ls.length=256):=fun h j hj=>by
     by_cases e:j=k
     ·rw [e];exact h
     ·exact HALL.out j (by omega)
    generalize ss.getD k de=s at *
    obtain ⟨sn,sa,sc',sl⟩:=s
    simp only at c0 hll HN HS
    by_cases hc:sl.length=256
    ·have HS2:Hid _:=HS.out hc
     clear HN HS
     generalize sl.length=M at *
     subst hc
     go_wp2
     go_round
     case rel=>exact ⟨k+1,by omega,by go_num,HS2.out⟩
     case measure=>simp [intOf];omega
    ·have HF:Hid (O=false∧True):=⟨HN hc,trivial⟩
     have hc':((sl.length:Int) != 256)=true:=by rw [bne_iff_ne];omega
     clear HN HS hc
     go_wp2
     go_ret
     exact ⟨by rw [HF.out.1];rfl,HW.out⟩
   ·have hkn:k=n:=by omega
    subst hkn
    go_wp2
    obtain ⟨x0,x1,-,-,xl⟩:=HX.out
    go_loopw [37] (fun i wr=>∃ q:Nat,q≤m∧i=.int .i64 q∧(∀ j,j<q→pok k (ps.getD j de))∧Below (w.heap.size+1) (w.alloc (Obj.cells #[Value.slice sa k sc,Value.slice pa m pc] 41)) wr) (fun i _=>m - (intOf i).toNat)
    case atStart=>exact ⟨0,Nat.zero_le _,rfl,by simp,Below.refl _ _⟩
    case round=>
     obtain ⟨q,hq,rfl,hall,hbel⟩:=hrel
     have HAL2:Hid (∀ j,j<q→pok k (ps.getD j de)):=hall
     have y0:=keep hbel (by omega) x0
     have y1:=keep hbel (by omega) x1
     have HBE:Hid (Below (w.heap.size+1) (w.alloc (Obj.cells #[Value.slice sa k sc,Value.slice pa m pc] 41)) wr∧Below w.heap.size w wr):=⟨hbel,HW.out.trans (hbel.mono (by omega))⟩
     have ylt:w.heap.size<wr.heap.size:=by have:=hbel.size;simp at this;omega
     clear hall x0 x1 hbel xl
     by_cases hlt:q<m
     ·obtain ⟨b,off,rfl,hb1,c0,c1,-,hrg⟩:=(HB.out.2.below HBE.out.2 (Nat.le_refl _)).pen q (by rw [HL.out.2];exact hlt)
      have hll:=HXL.out.2 _ (getD_memE (k:=q) (by rw [HL.out.2];exact hlt))
      have HN:=HN2.out q hlt
      have HS:Hid (pok k (ps.getD q de)→∀ j,j<q+1→pok k (ps.getD j de)):=fun h j hj=>by
       by_cases e:j=q
       ·rw [e];exact h
       ·exact HAL2.out j (by omega)
      have hrg1:=hrg.lo
      have hrg2:=hrg.hi
      clear hrg
      generalize ps.getD q de=s at *
      obtain ⟨sn,pa2,pc2,sl⟩:=s
      simp only [pok] at c0 c1 hll HN HS hrg1 hrg2
      have HB2:Hid (Below (w.heap.size+1) (w.alloc (Obj.cells #[Value.slice sa k sc,Value.slice (some ⟨b,off,none⟩) m pc] 41)) (wr.alloc (Obj.cells #[Value.int IntKind.i64 sn,Value.slice pa2 sl.length pc2] 141))∧Below w.heap.size w (wr.alloc (Obj.cells #[Value.int IntKind.i64 sn,Value.slice pa2 sl.length pc2] 141))):=⟨HBE.out.1.alloc (by omega) _,HBE.out.2.alloc (by omega) _⟩
      have hbx:Box2 (wr.alloc (Obj.cells #[Value.int IntKind.i64 sn,Value.slice pa2 sl.length pc2] 141)) wr.heap.size (.int .i64 sn) (.slice pa2 sl.length pc2):=Box2.new _ _ _ _
      have HHS:=has_any sa (some ⟨b,off,none⟩) sc pc k m sn (wr.alloc (Obj.cells #[Value.int IntKind.i64 sn,Value.slice pa2 sl.length pc2] 141)) (by omega)
      go_wp2_with fail
      generalize wr.alloc (Obj.cells #[Value.int IntKind.i64 sn,Value.slice pa2 sl.length pc2] 141)=W at *
      refine HHS.mono ?_
      clear HHS
      rintro e w5 ⟨rfl,hb5⟩
      have hby:=hbx.keep hb5 hbx.lt
      obtain ⟨-,z1,-,-,zl⟩:=hby
      have HB5:Hid (Below (w.heap.size+1) (w.alloc (Obj.cells #[Value.slice sa k sc,Value.slice (some ⟨b,off,none⟩) m pc] 41)) w5∧Below w.heap.size w w5):=⟨HB2.out.1.trans (hb5.mono (by have:=HB2.out.1.size;simp at this;omega)),HB2.out.2.trans (hb5.mono HB2.out.2.size)⟩
      clear hb5 hbx HB2 c0 c1 y0 y1
      by_cases g:0≤sn∧sn<(k:Int)
      ·rw [decide_eq_true g]
       by_cases g3:sl.length=256
       ·have HS2:Hid (∀ j,j<q+1→pok k (ps.getD j de)):=HS.out ⟨g.1,g.2,g3⟩
        clear HN HS
        generalize sl.length=M at *
        subst g3
        go_wp2
        go_roundw
        case rel=>exact ⟨q+1,by omega,by go_num,HS2.out,HB5.out.1⟩
        case measure=>simp [intOf];omega
       ·have HF:Hid (O=false∧True):=⟨HN (by omega),trivial⟩
        have hc':((sl.length:Int) != 256)=true:=by rw [bne_iff_ne];omega
        clear HN HS g3
        go_wp2
        go_ret
        exact ⟨by rw [HF.out.1];rfl,HB5.out.2⟩
      ·rw [decide_eq_false g]
       have HF:Hid (O=false∧True):=⟨HN (by omega),trivial⟩
       clear HN HS
       go_wp2
       go_ret
       exact ⟨by rw [HF.out.1];rfl,HB5.out.2⟩
     ·have hqm:q=m:=by omega
      subst hqm
      have HF:Hid (O=true∧True):=⟨HY.out h1 h2 h3 HALL.out HAL2.out,trivial⟩
      go_wp2
      go_ret
      exact ⟨by rw [HF.out.1];rfl,HBE.out.2⟩
end Go.Proofs.YthngimdjjmhboaaGreatDoor
