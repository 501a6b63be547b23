/-
  RawOk, both.
-/
import Derived.Test.YtbapdnhmodklbaaGreatDoorPkS
import Derived.Test.YtbapdnhmodklbaaGreatDoorElP
import Derived.Test.YtbapdnhmodklbaaGreatDoorElSz
namespace Go.Proofs.YtbapdnhmodklbaaGreatDoor
open Go.RowKit
set_option linter.unusedVariables false

theorem FewI.j {es:List El} (h:FewI es):FewJ es:=⟨h.n,h.l,by have:=h.sum;omega⟩
def pok (n:Nat) (q:El):Prop:=0≤q.n∧q.n<n∧q.ls.length=256
def Rok (ss ps:List El):Prop:=1≤ss.length∧ss.length≤24∧ps.length≤60∧(∀ k,k<ss.length→(ss.getD k de).ls.length=256)∧∀ k,k<ps.length→pok ss.length (ps.getD k de)
theorem Rok.eq (ss ps:List El):Rok ss ps=(1≤ss.length∧ss.length≤24∧ps.length≤60∧(∀ k,k<ss.length→(ss.getD k de).ls.length=256)∧∀ k,k<ps.length→0≤(ps.getD k de).n∧(ps.getD k de).n<ss.length∧(ps.getD k de).ls.length=256):=rfl
def rok (ss ps:List El):Bool:=decide (1≤ss.length∧ss.length≤24∧ps.length≤60∧(∀ k,k<ss.length→(ss.getD k de).ls.length=256)∧∀ k,k<ps.length→0≤(ps.getD k de).n∧(ps.getD k de).n<ss.length∧(ps.getD k de).ls.length=256)
theorem rok_yes {ss ps:List El} (h:Rok ss ps):rok ss ps=true:=decide_eq_true (by rw [Rok.eq] at h;exact h)
theorem rok_no {ss ps:List El} (h:¬ Rok ss ps):rok ss ps=false:=decide_eq_false (by rw [Rok.eq] at h;exact h)
theorem Rok.ct {ss ps ts qs:List El} (h1:ts.map El.ct=ss.map El.ct) (h2:qs.map El.ct=ps.map El.ct) (h:Rok ss ps):Rok ts qs:=by
  obtain ⟨a,b,c,d,e⟩:=h
  have l1:=len_ctE h1
  have l2:=len_ctE h2
  refine ⟨by omega,by omega,by omega,fun k hk=>?_,fun k hk=>?_⟩
  · have:=ctE_get h1 k
    simp only [El.ct,Prod.mk.injEq] at this
    rw [this.2]
    exact d k (by omega)
  · have:=ctE_get h2 k
    simp only [El.ct,Prod.mk.injEq] at this
    have h3:=e k (by omega)
    unfold pok at h3 ⊢
    rw [this.1,this.2,l1]
    exact h3
theorem rok_ct {ss ps ts qs:List El} (h1:ts.map El.ct=ss.map El.ct) (h2:qs.map El.ct=ps.map El.ct):rok ts qs=rok ss ps:=by
  by_cases h:Rok ss ps
  · rw [rok_yes h,rok_yes (h.ct h1 h2)]
  · rw [rok_no h,rok_no (fun h3=>h (h3.ct h1.symm h2.symm))]

set_option maxRecDepth 20000 in
set_option maxHeartbeats 4000000 in
theorem specRawOk_any (sa pa:Option Addr) (sc pc:Nat) (ss ps:List El) (w:World) (hb:RawI w sa pa ss ps) (hx:ss.length≤281474976710656) (hy:ps.length≤281474976710656) (hxl:∀ s ∈ ss,s.ls.length≤281474976710656) (hyl:∀ s ∈ ps,s.ls.length≤281474976710656) :
    Calls Tryz.prog 35 #[.agg #[.slice sa ss.length sc,.slice pa ps.length pc]] w fun e w'=>e=.returned (.bool (rok ss ps))∧Below w.heap.size w w':=by
  have HB:Hid (RawI w sa pa ss ps):=hb
  have HXL:Hid ((∀ s ∈ ss,s.ls.length≤281474976710656)∧∀ s ∈ ps,s.ls.length≤281474976710656):=⟨hxl,hyl⟩
  have HY:Hid (1≤ss.length→ss.length≤24→ps.length≤60→(∀ k,k<ss.length→(ss.getD k de).ls.length=256)→(∀ k,k<ps.length→pok ss.length (ps.getD k de))→rok ss ps=true):=fun a b c d e=>rok_yes ⟨a,b,c,d,e⟩
  have HN0:Hid (¬ (1≤ss.length∧ss.length≤24∧ps.length≤60)→rok ss ps=false):=fun h=>rok_no (fun h1=>h ⟨h1.1,h1.2.1,h1.2.2.1⟩)
  have HN1:Hid (∀ k,k<ss.length→(ss.getD k de).ls.length≠256→rok ss ps=false):=fun k hk h=>rok_no (fun h1=>h (h1.2.2.2.1 k hk))
  have HN2:Hid (∀ k,k<ps.length→¬ pok ss.length (ps.getD k de)→rok ss ps=false):=fun k hk h=>rok_no (fun h1=>h (h1.2.2.2.2 k hk))
  clear hb hxl hyl
  generalize rok ss ps=O at *
  generalize hlen:ss.length=n at *
  generalize hlen2:ps.length=m at *
  have HL:Hid (ss.length=n∧ps.length=m):=⟨hlen,hlen2⟩
  clear hlen hlen2
  have HW:Hid (Below w.heap.size w (w.alloc (Obj.cells #[Value.slice sa n sc,Value.slice pa m pc] 39))):=(Below.refl _ _).alloc (Nat.le_refl _) _
  have HX:Hid (Box2 (w.alloc (Obj.cells #[Value.slice sa n sc,Value.slice pa m pc] 39)) w.heap.size (.slice sa n sc) (.slice pa m pc)):=Box2.new _ _ _ _
  have key:(n<1)∨(1≤n∧24<n)∨(1≤n∧n≤24∧60<m)∨(1≤n∧n≤24∧m≤60):=by omega
  rcases key with h1 | ⟨h1,h2⟩ | ⟨h1,h2,h3⟩ | ⟨h1,h2,h3⟩
  · have HF:Hid (O=false∧True):=⟨HN0.out (by omega),trivial⟩
    obtain rfl:n=0:=by omega
    go_enter Tryz.func35,Tryz.ntmps35
    go_wp2
    go_ret
    exact ⟨by rw [HF.out.1];rfl,HW.out⟩
  · have HF:Hid (O=false∧True):=⟨HN0.out (by omega),trivial⟩
    go_enter Tryz.func35,Tryz.ntmps35
    go_wp2
    go_ret
    exact ⟨by rw [HF.out.1];rfl,HW.out⟩
  · have HF:Hid (O=false∧True):=⟨HN0.out (by omega),trivial⟩
    go_enter Tryz.func35,Tryz.ntmps35
    go_wp2
    go_ret
    exact ⟨by rw [HF.out.1];rfl,HW.out⟩
  · clear HN0
    go_enter Tryz.func35,Tryz.ntmps35
    go_wp2
    go_loop [3] (fun i=>∃ k:Nat,k≤n∧i=.int .i64 k∧∀ j,j<k→(ss.getD j de).ls.length=256) (fun i=>n - (intOf i).toNat)
    case atStart=>exact ⟨0,Nat.zero_le _,rfl,by simp⟩
    case round=>
      obtain ⟨k,hk,rfl,hall⟩:=hrel
      have HALL:Hid (∀ j,j<k→(ss.getD j de).ls.length=256):=hall
      clear hall
      by_cases hlt:k<n
      · obtain ⟨b,off,rfl,hb1,c0,-,-⟩:=(HB.out.1.below HW.out (Nat.le_refl _)).sec k (by rw [HL.out.1];exact hlt)
        have hll:=HXL.out.1 _ (getD_memE (k:=k) (by rw [HL.out.1];exact hlt))
        have HN:=HN1.out k hlt
        have HS:Hid ((ss.getD k de).ls.length=256→∀ j,j<k+1→(ss.getD j de).ls.length=256):=fun h j hj=>by
          by_cases e:j=k
          · rw [e];exact h
          · exact HALL.out j (by omega)
        generalize ss.getD k de=s at *
        obtain ⟨sn,sa,sc',sl⟩:=s
        simp only at c0 hll HN HS
        by_cases hc:sl.length=256
        · have HS2:Hid _:=HS.out hc
          clear HN HS
          generalize sl.length=M at *
          subst hc
          go_wp2
          go_round
          case rel=>exact ⟨k+1,by omega,by go_num,HS2.out⟩
          case measure=>simp [intOf];omega
        · have HF:Hid (O=false∧True):=⟨HN hc,trivial⟩
          have hc':((sl.length:Int) != 256)=true:=by rw [bne_iff_ne];omega
          clear HN HS hc
          go_wp2
          go_ret
          exact ⟨by rw [HF.out.1];rfl,HW.out⟩
      · have hkn:k=n:=by omega
        subst hkn
        go_wp2
        obtain ⟨x0,x1,-,-,xl⟩:=HX.out
        go_loopw [4] (fun i wr=>∃ q:Nat,q≤m∧i=.int .i64 q∧(∀ j,j<q→pok k (ps.getD j de))∧Below (w.heap.size+1) (w.alloc (Obj.cells #[Value.slice sa k sc,Value.slice pa m pc] 39)) wr) (fun i _=>m - (intOf i).toNat)
        case atStart=>exact ⟨0,Nat.zero_le _,rfl,by simp,Below.refl _ _⟩
        case round=>
          obtain ⟨q,hq,rfl,hall,hbel⟩:=hrel
          have HAL2:Hid (∀ j,j<q→pok k (ps.getD j de)):=hall
          have y0:=keep hbel (by omega) x0
          have y1:=keep hbel (by omega) x1
          have HBE:Hid (Below (w.heap.size+1) (w.alloc (Obj.cells #[Value.slice sa k sc,Value.slice pa m pc] 39)) wr∧Below w.heap.size w wr):=⟨hbel,HW.out.trans (hbel.mono (by omega))⟩
          have ylt:w.heap.size<wr.heap.size:=by have:=hbel.size;simp at this;omega
          clear hall x0 x1 hbel xl
          by_cases hlt:q<m
          · obtain ⟨b,off,rfl,hb1,c0,c1,-,hrg⟩:=(HB.out.2.below HBE.out.2 (Nat.le_refl _)).pen q (by rw [HL.out.2];exact hlt)
            have hll:=HXL.out.2 _ (getD_memE (k:=q) (by rw [HL.out.2];exact hlt))
            have HN:=HN2.out q hlt
            have HS:Hid (pok k (ps.getD q de)→∀ j,j<q+1→pok k (ps.getD j de)):=fun h j hj=>by
              by_cases e:j=q
              · rw [e];exact h
              · exact HAL2.out j (by omega)
            have hrg1:=hrg.lo
            have hrg2:=hrg.hi
            clear hrg
            generalize ps.getD q de=s at *
            obtain ⟨sn,pa2,pc2,sl⟩:=s
            simp only [pok] at c0 c1 hll HN HS hrg1 hrg2
            have HB2:Hid (Below (w.heap.size+1) (w.alloc (Obj.cells #[Value.slice sa k sc,Value.slice (some ⟨b,off,none⟩) m pc] 39)) (wr.alloc (Obj.cells #[Value.int IntKind.i64 sn,Value.slice pa2 sl.length pc2] 106))∧Below w.heap.size w (wr.alloc (Obj.cells #[Value.int IntKind.i64 sn,Value.slice pa2 sl.length pc2] 106))):=⟨HBE.out.1.alloc (by omega) _,HBE.out.2.alloc (by omega) _⟩
            have key2:(0≤sn∧sn<k∧sl.length=256)∨(sn<0)∨(0≤sn∧(k:Int)≤sn)∨(0≤sn∧sn<k∧sl.length≠256):=by omega
            rcases key2 with ⟨g1,g2,g3⟩ | g1 | ⟨g1,g2⟩ | ⟨g1,g2,g3⟩
            · have HS2:Hid (∀ j,j<q+1→pok k (ps.getD j de)):=HS.out ⟨g1,g2,g3⟩
              clear HN HS
              generalize sl.length=M at *
              subst g3
              go_wp2
              go_roundw
              case rel=>exact ⟨q+1,by omega,by go_num,HS2.out,HB2.out.1⟩
              case measure=>simp [intOf];omega
            · have HF:Hid (O=false∧True):=⟨HN (by omega),trivial⟩
              clear HN HS
              go_wp2
              go_ret
              exact ⟨by rw [HF.out.1];rfl,HB2.out.2⟩
            · have HF:Hid (O=false∧True):=⟨HN (by omega),trivial⟩
              clear HN HS
              go_wp2
              go_ret
              exact ⟨by rw [HF.out.1];rfl,HB2.out.2⟩
            · have HF:Hid (O=false∧True):=⟨HN (by omega),trivial⟩
              have hc':((sl.length:Int) != 256)=true:=by rw [bne_iff_ne];omega
              clear HN HS g3
              go_wp2
              go_ret
              exact ⟨by rw [HF.out.1];rfl,HB2.out.2⟩
          · have hqm:q=m:=by omega
            subst hqm
            have HF:Hid (O=true∧True):=⟨HY.out h1 h2 h3 HALL.out HAL2.out,trivial⟩
            go_wp2
            go_ret
            exact ⟨by rw [HF.out.1];rfl,HBE.out.2⟩
end Go.Proofs.YtbapdnhmodklbaaGreatDoor
