/-
  Check and LiveBytes, in numbers. (Typed by wip/mkck.py.)
-/
import Derived.Test.YthngimdjjmhboaaGreatDoorCtM
import Derived.Test.YthngimdjjmhboaaGreatDoorVarsC
namespace Go.Proofs.YthngimdjjmhboaaGreatDoor
open Go.RowKit
set_option linter.unusedVariables false
set_option linter.unusedSimpArgs false

def CkK (f:List Int→Option (List Int)) (d:DkV) (v:Int):Prop:=(∃ k:Nat,k<d.ms.length∧v=k∧CtR f d k none∧∀ j,j<k→∃ ls,CtR f d j (some ls))∨(v=-1∧∀ j,j<d.ms.length→∃ ls,CtR f d j (some ls))
def CkR (f:List Int→Option (List Int)) (d:DkV) (v:Int):Prop:=(DkG f d∧CkK f d v)∨(¬DkG f d∧v=-2)
theorem CkR.same {f:List Int→Option (List Int)} {e d:DkV} {v:Int} (hs:DkS e d) (h:CkR f e v):CkR f d v:=by
 rcases h with ⟨h1,h2⟩ | ⟨h1,h2⟩
 ·refine .inl ⟨h1.same hs,?_⟩
  rcases h2 with ⟨k,k1,k2,k3,k4⟩ | ⟨k1,k2⟩
  ·exact .inl ⟨k,by rw [←hs.ms];exact k1,k2,k3.same hs,fun j hj=>(k4 j hj).imp (fun _ h=>h.same hs)⟩
  ·exact .inr ⟨k1,fun j hj=>(k2 j (by rw [hs.ms];exact hj)).imp (fun _ h=>h.same hs)⟩
 ·exact .inr ⟨fun h=>h1 (h.same hs.symm),h2⟩
theorem CkK.uniq {f:List Int→Option (List Int)} {d:DkV} {v u:Int} (h:CkK f d v) (k:CkK f d u):v=u:=by
 have no:∀ {j:Nat} {ls:List Int},CtR f d j none→CtR f d j (some ls)→False:=fun a b=>by cases a.uniq b
 rcases h with ⟨a,a1,a2,a3,a4⟩ | ⟨a1,a2⟩ <;> rcases k with ⟨b,b1,b2,b3,b4⟩ | ⟨b1,b2⟩
 ·rcases Nat.lt_trichotomy a b with h | h | h
  ·exact ((b4 a h).elim fun _=>no a3).elim
  ·rw [a2,b2,h]
  ·exact ((a4 b h).elim fun _=>no b3).elim
 ·exact ((b2 a a1).elim fun _=>no a3).elim
 ·exact ((a2 b b1).elim fun _=>no b3).elim
 ·rw [a1,b1]
theorem CkR.uniq {f:List Int→Option (List Int)} {d:DkV} {v u:Int} (h:CkR f d v) (k:CkR f d u):v=u:=by
 rcases h with ⟨h1,h2⟩ | ⟨h1,h2⟩ <;> rcases k with ⟨k1,k2⟩ | ⟨k1,k2⟩
 ·exact h2.uniq k2
 ·exact absurd h1 k1
 ·exact absurd k1 h1
 ·rw [h2,k2]
def LvS (f:List Int→Option (List Int)) (d:DkV):Nat→Int→Prop
 | 0,v=>v=0
 | k+1,v=>∃ (u:Int) (o:Option (List Int)),LvS f d k u∧CtR f d k o∧v=u+((o.getD []).length:Nat)
theorem LvS.same {f:List Int→Option (List Int)} {e d:DkV} (hs:DkS e d):∀ (k:Nat) (v:Int),LvS f e k v→LvS f d k v
 | 0,v,h=>h
 | k+1,v,⟨u,o,h1,h2,h3⟩=>⟨u,o,LvS.same hs k u h1,h2.same hs,h3⟩
theorem LvS.uniq {f:List Int→Option (List Int)} {d:DkV}:∀ (k:Nat) (v u:Int),LvS f d k v→LvS f d k u→v=u
 | 0,v,u,h,k=>by rw [show v=0 from h,show u=0 from k]
 | k+1,v,u,⟨a,o,h1,h2,h3⟩,⟨b,p,k1,k2,k3⟩=>by
  rw [h3,k3,LvS.uniq k a b h1 k1,h2.uniq k2]
def LbR (f:List Int→Option (List Int)) (d:DkV) (v:Int):Prop:=(DkG f d∧LvS f d d.ms.length v)∨(¬DkG f d∧v=0)
theorem LbR.same {f:List Int→Option (List Int)} {e d:DkV} {v:Int} (hs:DkS e d) (h:LbR f e v):LbR f d v:=by
 rcases h with ⟨h1,h2⟩ | ⟨h1,h2⟩
 ·exact .inl ⟨h1.same hs,by rw [←hs.ms];exact LvS.same hs _ _ h2⟩
 ·exact .inr ⟨fun h=>h1 (h.same hs.symm),h2⟩
theorem LbR.uniq {f:List Int→Option (List Int)} {d:DkV} {v u:Int} (h:LbR f d v) (k:LbR f d u):v=u:=by
 rcases h with ⟨h1,h2⟩ | ⟨h1,h2⟩ <;> rcases k with ⟨k1,k2⟩ | ⟨k1,k2⟩
 ·exact LvS.uniq _ _ _ h2 k2
 ·exact absurd h1 k1
 ·exact absurd k1 h1
 ·rw [h2,k2]
theorem CtR.short {f:List Int→Option (List Int)} {d:DkV} {x:Nat} {o:Option (List Int)} (hG:DkG f d) (h:CtR f d x o):(o.getD []).length≤256:=by
 rcases h with ⟨k,h1,h2,h3,rfl⟩ | ⟨h1,⟨h2,rfl⟩ | ⟨h2,⟨h3,rfl⟩ | ⟨h3,rfl⟩⟩⟩
 ·have h4:=hG.op.sz
  have h5:=elets_mem (getD_memE h1)
  unfold szP at h4
  simp only [Option.getD_some]
  omega
 ·simp
 ·have h4:=h3.1.ok.sz
  have h5:=elets_mem (getD_memE (es:=itL (ctZ d x) (rpM (ctZ d x)) (rpM (ctZ d x))) (k:=ctI d x) (by rw [itL_len];exact h3.2.1))
  rw [itL_getC _ _ h3.2.1] at h5
  unfold szP at h4
  simp only [Option.getD_some]
  unfold ctE
  omega
 ·simp
end Go.Proofs.YthngimdjjmhboaaGreatDoor
