/-
  What an address of a disk has, in numbers.
-/
import Derived.Test.YthngimdjjmhboaaGreatDoorDkS2
import Derived.Test.YthngimdjjmhboaaGreatDoorRp4
import Derived.Test.YthngimdjjmhboaaGreatDoorRdW
import Derived.Test.YthngimdjjmhboaaGreatDoorMpGtM
namespace Go.Proofs.YthngimdjjmhboaaGreatDoor
open Go.RowKit
set_option linter.unusedVariables false

theorem itL_getC (zs:List Int) (m:Nat) {j k:Nat} (h:j<k):(itL zs m k).getD j de=itE zs m j:=by
 induction k with
 | zero=>omega
 | succ k ih=>
  rw [itL,List.getD_eq_getElem?_getD]
  rcases Nat.lt_or_ge j k with h1 | h1
  ·rw [List.getElem?_append_left (by rw [itL_len];exact h1),←List.getD_eq_getElem?_getD,ih h1]
  ·obtain rfl:j=k:=by omega
   rw [List.getElem?_append_right (by rw [itL_len];exact Nat.le_refl _),itL_len]
   simp
theorem plc_all {ps:List (Int × Int)} (h:mapB ps=true) (i:Nat) (hi:i<ps.length):0≤(ps.getD i dp).1∧(ps.getD i dp).1<24∧0≤(ps.getD i dp).2∧(ps.getD i dp).2≤15:=by
 rcases okT_get ps _ i (mapB_okT ps h) hi with h1 | h1
 ·unfold nwh at h1
  simp only [Bool.and_eq_true,beq_iff_eq] at h1
  omega
 ·unfold rgt at h1
  have h2:=of_decide_eq_true h1
  omega
def ctZ (d:DkV) (x:Nat):List Int:=(rdE d.ss d.ps (d.ms.getD x dp).1).ls
def ctI (d:DkV) (x:Nat):Nat:=(d.ms.getD x dp).2.toNat
def ctE (d:DkV) (x:Nat):El:=itE (ctZ d x) (rpM (ctZ d x)) (ctI d x)
def CtG (f:List Int→Option (List Int)) (d:DkV) (x:Nat):Prop:=PrG f (ctZ d x)∧ctI d x<rpM (ctZ d x)∧(ctE d x).n=(x:Int)∧(ctE d x).ls≠[]
def CtR (f:List Int→Option (List Int)) (d:DkV) (x:Nat) (o:Option (List Int)):Prop:=
 (∃ k,k<d.os.length∧(d.os.getD k de).n=(x:Int)∧(∀ j,j<k→(d.os.getD j de).n≠(x:Int))∧o=some (d.os.getD k de).ls) ∨
 ((∀ j,j<d.os.length→(d.os.getD j de).n≠(x:Int))∧(((d.ms.getD x dp).1=0∧o=some [])∨((d.ms.getD x dp).1≠0∧((CtG f d x∧o=some (ctE d x).ls)∨(¬CtG f d x∧o=none)))))
theorem ctZ_same {e d:DkV} (h:DkS e d) (x:Nat):ctZ e x=ctZ d x:=by
 unfold ctZ
 rw [rdE_ct h.ss h.ps,h.ms]
theorem ctE_same {e d:DkV} (h:DkS e d) (x:Nat):ctE e x=ctE d x:=by
 unfold ctE ctI
 rw [ctZ_same h,h.ms]
theorem CtG.same {f:List Int→Option (List Int)} {e d:DkV} {x:Nat} (h:DkS e d) (k:CtG f e x):CtG f d x:=by
 obtain ⟨k1,k2,k3,k4⟩:=k
 rw [ctZ_same h] at k1 k2
 rw [ctE_same h] at k3 k4
 unfold ctI at k2
 rw [h.ms] at k2
 exact ⟨k1,k2,k3,k4⟩
theorem CtR.same {f:List Int→Option (List Int)} {e d:DkV} {x:Nat} {o:Option (List Int)} (h:DkS e d) (k:CtR f e x o):CtR f d x o:=by
 have hl:=len_ctE h.os
 rcases k with ⟨k,k1,k2,k3,k4⟩ | ⟨k1,k2⟩
 ·have h1:(e.os.getD k de).ls=(d.os.getD k de).ls:=congrArg Prod.snd (ctE_get h.os k)
  exact .inl ⟨k,by omega,by rw [←n_ct h.os];exact k2,fun j hj=>by rw [←n_ct h.os];exact k3 j hj,by rw [k4,h1]⟩
 ·refine .inr ⟨fun j hj=>by rw [←n_ct h.os];exact k1 j (by omega),?_⟩
  rw [h.ms] at k2
  rcases k2 with ⟨k2,k3⟩ | ⟨k2,⟨k3,k4⟩ | ⟨k3,k4⟩⟩
  ·exact .inl ⟨k2,k3⟩
  ·exact .inr ⟨k2,.inl ⟨k3.same h,by rw [k4,ctE_same h]⟩⟩
  ·exact .inr ⟨k2,.inr ⟨fun k=>k3 (k.same h.symm),k4⟩⟩
theorem CtR.uniq {f:List Int→Option (List Int)} {d:DkV} {x:Nat} {o q:Option (List Int)} (h:CtR f d x o) (k:CtR f d x q):o=q:=by
 rcases h with ⟨i,h1,h2,h3,h4⟩ | ⟨h1,h2⟩ <;> rcases k with ⟨j,k1,k2,k3,k4⟩ | ⟨k1,k2⟩
 ·rcases Nat.lt_trichotomy i j with h | h | h
  ·exact absurd h2 (k3 i h)
  ·subst h;rw [h4,k4]
  ·exact absurd k2 (h3 j h)
 ·exact absurd h2 (k1 i h1)
 ·exact absurd k2 (h1 j k1)
 ·rcases h2 with ⟨h2,h3⟩ | ⟨h2,⟨h3,h4⟩ | ⟨h3,h4⟩⟩ <;> rcases k2 with ⟨k2,k3⟩ | ⟨k2,⟨k3,k4⟩ | ⟨k3,k4⟩⟩
  ·rw [h3,k3]
  ·exact absurd h2 k2
  ·exact absurd h2 k2
  ·exact absurd k2 h2
  ·rw [h4,k4]
  ·exact absurd h3 k3
  ·exact absurd k2 h2
  ·exact absurd k3 h3
  ·rw [h4,k4]
end Go.Proofs.YthngimdjjmhboaaGreatDoor
