/- Lemmas on the way. -/
import Derived.Test.YtaibkchbkedjnaaGreatDoorWrW
import Derived.Test.YtaibkchbkedjnaaGreatDoorCopS
import Derived.Test.YtaibkchbkedjnaaGreatDoorCopB
namespace Go.Proofs.YtaibkchbkedjnaaGreatDoor
open Go.RowKit
set_option linter.unusedVariables false
set_option linter.unusedSimpArgs false
def setl (ss ps:List El) (f:Nat→Bool):Nat→List El
 | 0=>ss
 | k+1=>if f k=true then (setl ss ps f k).set (ps.getD k de).n.toNat { ps.getD k de with n:=0 } else setl ss ps f k
theorem setl_len (ss ps:List El) (f:Nat→Bool) (k:Nat):(setl ss ps f k).length=ss.length:=by
 induction k with
 | zero=>rfl
 | succ k ih=>simp only [setl];split <;> simp [ih]
theorem setl_ct {ss ps ts qs:List El} (h1:ts.map El.ct=ss.map El.ct) (h2:qs.map El.ct=ps.map El.ct) (f:Nat→Bool) (k:Nat):(setl ts qs f k).map El.ct=(setl ss ps f k).map El.ct:=by
 induction k with
 | zero=>exact h1
 | succ k ih=>
  have h3:=ctE_get h2 k
  simp only [El.ct,Prod.mk.injEq] at h3
  simp only [setl]
  split
  ·rw [List.map_set,List.map_set,ih,h3.1]
   simp only [El.ct,h3.2]
  ·exact ih
theorem setl_lens {ss ps:List El} (h1:∀ e ∈ ss,e.ls.length=256) (h2:∀ k,k<ps.length→(ps.getD k de).ls.length=256) (f:Nat→Bool) (k:Nat) (hk:k≤ps.length):∀ e ∈ setl ss ps f k,e.ls.length=256:=by
 induction k with
 | zero=>exact h1
 | succ k ih=>
  intro e he
  simp only [setl] at he
  split at he
  ·rcases List.mem_or_eq_of_mem_set he with he | rfl
   ·exact ih (by omega) e he
   ·exact h2 k (by omega)
  ·exact ih (by omega) e he
theorem setl_rE {ss ps:List El} (h1:∀ e ∈ ss,rE false e) (h2:∀ e ∈ ps,rE true e) (f:Nat→Bool) (k:Nat) (hk:k≤ps.length):∀ e ∈ setl ss ps f k,rE false e:=by
 induction k with
 | zero=>exact h1
 | succ k ih=>
  intro e he
  simp only [setl] at he
  split at he
  ·rcases List.mem_or_eq_of_mem_set he with he | rfl
   ·exact ih (by omega) e he
   ·have h3:=h2 _ (getD_memE (es:=ps) (k:=k) (by omega))
    exact ⟨by simp,by simp,h3.len,by simp⟩
  ·exact ih (by omega) e he
def Shl (w:World) (B:Nat) (es:List El):Prop:=∀ e ∈ es,Mine w B w.heap.size e.a e.c e.ls
theorem Shl.stay {S:Nat→Prop} {w w':World} {B:Nat} {es:List El} (h:Shl w B es) (ho:Only S w w') (hs:∀ e ∈ es,∀ k,rowOf e.a k→¬S k):Shl w' B es:=
 fun e he=>((h e he).stay ho (hs e he)).mono nl ho.size
theorem Shl.below {w w':World} {B:Nat} {es:List El} (h:Shl w B es) (hb:Below w.heap.size w w'):Shl w' B es:=h.stay (Only.ofBelow (S:=fun _=>False) hb nl) (by simp)
structure SetS (w W:World) (B X:Nat) (v u:Value) (es qs:List El):Prop where
 bel:Below w.heap.size w W
 hB:w.heap.size≤B
 hX:w.heap.size≤X
 rs:OVr false W B v es
 rp:OVr true W B u qs
 ss:Shl W B es
 sp:Shl W B qs
 box:Box2 W X v u
 nv:¬v.ownBlock=some X
 nu:¬u.ownBlock=some X
 nl:(∀ e ∈ es,¬rowOf e.a X)∧∀ e ∈ qs,¬rowOf e.a X
section
variable {w W W' : World} {B X : Nat} {v u : Value} {es qs : List El}
theorem SetS.step (h:SetS w W B X v u es qs) (hb:Below W.heap.size W W'):SetS w W' B X v u es qs:=
 ⟨h.bel.trans (hb.mono h.bel.size),h.hB,h.hX,h.rs.below hb,h.rp.below hb,h.ss.below hb,h.sp.below hb,h.box.keep hb h.box.lt,h.nv,h.nu,h.nl⟩
theorem SetS.put (h:SetS w W B X v u es qs) {g:Nat} (hg:v.ownBlock=some g) (i j:Nat) (hi:i<es.length) (hj:j<qs.length) :
  SetS w (W.setCell ⟨g,i,none⟩ (.slice (qs.getD j de).a (qs.getD j de).ls.length (qs.getD j de).c)) B X v u (es.set i { qs.getD j de with n:=0 }) qs∧Only (fun b=>b=g) W (W.setCell ⟨g,i,none⟩ (.slice (qs.getD j de).a (qs.getD j de).ls.length (qs.getD j de).c)):=by
 have hon:Only (fun b=>b=g) W (W.setCell ⟨g,i,none⟩ (.slice (qs.getD j de).a (qs.getD j de).ls.length (qs.getD j de).c)):=(Only.refl (fun b=>b=g) W).setCell (p:=⟨g,i,none⟩) (.inl rfl) _
 have hst:=h.rs.store i hi { qs.getD j de with n:=0 } 0 (by simp [eW]) (.slice (qs.getD j de).a (qs.getD j de).ls.length (qs.getD j de).c) rfl hg
 rw [show i*eW false+0=i from by simp [eW]] at hst
 have hgB:=(h.rs.blk hg).1
 have hgX:g≠X:=fun e=>h.nv (e ▸ hg)
 refine ⟨⟨h.bel.setCell (p:=⟨g,i,none⟩) (by have:=h.hB;simp only;omega) _,h.hB,h.hX,hst,h.rp.stay hon (fun k hk e=>h.rs.two h.rp (e ▸ hg) hk),?_,h.sp.stay hon (fun e he k hk ek=>h.rs.other (h.sp e he) hg (ek ▸ hk)),h.box.other (by simp only;exact hgX) _,h.nv,h.nu,?_,h.nl.2⟩,hon⟩
 ·intro e he
  rcases List.mem_or_eq_of_mem_set he with he | rfl
  ·exact (h.ss.stay hon (fun e he k hk ek=>h.rs.other (h.ss e he) hg (ek ▸ hk))) e he
  ·exact (h.sp.stay hon (fun e he k hk ek=>h.rs.other (h.sp e he) hg (ek ▸ hk))) (qs.getD j de) (getD_memE hj)
 ·intro e he
  rcases List.mem_or_eq_of_mem_set he with he | rfl
  ·exact h.nl.1 e he
  ·exact h.nl.2 (qs.getD j de) (getD_memE hj)
theorem SetS.drop {va ua:Option Addr} {n vc m uc:Nat} (h:SetS w W B X (.slice va n vc) (.slice ua m uc) es qs) (hr:∀ e ∈ es,rE false e) :
  RawI (W.setCell ⟨X,1,none⟩ (.slice none 0 0)) va none es []∧Below w.heap.size w (W.setCell ⟨X,1,none⟩ (.slice none 0 0))∧Box2 (W.setCell ⟨X,1,none⟩ (.slice none 0 0)) X (.slice va n vc) (.slice none 0 0):=by
 have hon:Only (fun b=>b=X) W (W.setCell ⟨X,1,none⟩ (.slice none 0 0)):=(Only.refl (fun b=>b=X) W).setCell (p:=⟨X,1,none⟩) (.inl rfl) _
 have h1:=h.rs.stay hon (fun k hk e=>h.nv (e ▸ hk))
 have h2:=h.ss.stay hon (fun e he k hk ek=>h.nl.1 e he (ek ▸ hk))
 exact ⟨⟨h1.els (fun e he=>⟨hr e he,(h2 e he).byt⟩),by simp,by simp⟩,h.bel.setCell (p:=⟨X,1,none⟩) (by have:=h.hX;simp only;omega) _,h.box.set1 _⟩
end
theorem ct_set (es:List El) (i:Nat) (e:El):(es.set i e).map El.ct=(es.map El.ct).set i e.ct:=List.map_set
end Go.Proofs.YtaibkchbkedjnaaGreatDoor
