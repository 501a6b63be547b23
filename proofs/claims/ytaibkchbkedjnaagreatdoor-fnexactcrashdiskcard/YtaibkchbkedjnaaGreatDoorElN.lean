/- Lemmas on the way. -/
import Derived.Test.YtaibkchbkedjnaaGreatDoorItEq
import Derived.Test.YtaibkchbkedjnaaGreatDoorMkB
namespace Go.Proofs.YtaibkchbkedjnaaGreatDoor
open Go.RowKit
set_option linter.unusedVariables false
theorem getD_setE (ss:List El) (k i:Nat) (s:El) (hk:k<ss.length):(ss.set k s).getD i de=if i=k then s else ss.getD i de:=by
 by_cases h:i=k
 ·subst h
  rw [if_pos rfl,List.getD_eq_getElem?_getD,List.getElem?_set_self hk];rfl
 ·rw [if_neg h]
  simp only [List.getD_eq_getElem?_getD,List.getElem?_set_ne (Ne.symm h)]
theorem map_setE (ss:List El) (k:Nat) (s:El) (h:s.a=(ss.getD k de).a) (hk:k<ss.length):(ss.set k s).map El.a=ss.map El.a:=by
 apply List.ext_getElem?
 intro i
 rw [List.getElem?_map,List.getElem?_map,List.getElem?_set]
 by_cases e:k=i
 ·subst e
  rw [if_pos rfl,if_pos hk,List.getElem?_eq_getElem hk]
  simp only [Option.map_some,h,List.getD_eq_getElem?_getD,List.getElem?_eq_getElem hk,Option.getD_some]
 ·rw [if_neg e]
theorem flat_setE (p:Bool) (ss:List El) (s:El):∀ k,k<ss.length→s.cells p=(ss.getD k de).cells p→(ss.set k s).flatMap (El.cells p)=ss.flatMap (El.cells p):=by
 induction ss with
 | nil=>intro k hk;simp at hk
 | cons x ss ih=>
  intro k hk hs
  cases k with
  | zero=>
   have hs':s.cells p=x.cells p:=hs
   rw [List.set_cons_zero,List.flatMap_cons,List.flatMap_cons,hs']
  | succ k=>rw [List.set_cons_succ,List.flatMap_cons,List.flatMap_cons,ih k (by simpa using hk) hs]
section
variable {w w' : World} {B : Nat} {es : List El}
theorem apart_ne {es:List El} (h:(es.map El.a).Pairwise (fun x y=>∀ k,rowOf x k→¬rowOf y k)) {i j:Nat} (hi:i<es.length) (hj:j<es.length) (hij:i≠j):∀ k,rowOf (es.getD i de).a k→¬rowOf (es.getD j de).a k:=by
 intro k h1 h2
 rw [List.pairwise_iff_getElem] at h
 have gi:(es.getD i de)=es[i]:=by rw [List.getD_eq_getElem?_getD,List.getElem?_eq_getElem hi];rfl
 have gj:(es.getD j de)=es[j]:=by rw [List.getD_eq_getElem?_getD,List.getElem?_eq_getElem hj];rfl
 rw [gi] at h1
 rw [gj] at h2
 rcases Nat.lt_or_gt_of_ne hij with h3 | h3
 ·have:=h i j (by simpa using hi) (by simpa using hj) h3 k
  simp only [List.getElem_map] at this
  exact this h1 h2
 ·have:=h j i (by simpa using hj) (by simpa using hi) h3 k
  simp only [List.getElem_map] at this
  exact this h2 h1
theorem Deep.letters (h:Deep w B es) (k:Nat) (hk:k<es.length) (s:El) (ha:s.a=(es.getD k de).a) (ho:Only (rowOf (es.getD k de).a) w w') (hm:Mine w' B w.heap.size s.a s.c s.ls):Deep w' B (es.set k s):=by
 refine ⟨?_,?_⟩
 ·intro t ht
  obtain ⟨i,hi,rfl⟩:=memE_get ht
  rw [List.length_set] at hi
  rw [getD_setE es k i _ hk]
  by_cases hik:i=k
  ·rw [if_pos hik]
   exact hm.mono nl ho.size
  ·rw [if_neg hik]
   exact ((h.mine _ (getD_memE hi)).stay ho (fun b hb=>apart_ne h.apart hi hk hik b hb)).mono nl ho.size
 ·rw [map_setE es k s ha hk]
  exact h.apart
theorem Deep.parts {ss ps:List El} (h:Deep w B (ss++ps)):Deep w B ss∧Deep w B ps∧∀ x ∈ ss.map El.a,∀ y ∈ ps.map El.a,∀ k,rowOf x k→¬rowOf y k:=by
 have h1:=h.apart
 rw [List.map_append,List.pairwise_append] at h1
 exact ⟨⟨fun e he=>h.mine e (List.mem_append_left _ he),h1.1⟩,⟨fun e he=>h.mine e (List.mem_append_right _ he),h1.2.1⟩,h1.2.2⟩
theorem Deep.join {ss ps:List El} (h1:Deep w B ss) (h2:Deep w B ps) (h3:∀ x ∈ ss.map El.a,∀ y ∈ ps.map El.a,∀ k,rowOf x k→¬rowOf y k):Deep w B (ss++ps):=by
 refine ⟨fun e he=>(List.mem_append.1 he).elim (h1.mine e) (h2.mine e),?_⟩
 rw [List.map_append,List.pairwise_append]
 exact ⟨h1.apart,h2.apart,h3⟩
end
def mkE (p:Bool):Int→List El→List El
 | _,[]=>[]
 | k,s :: ss=>{ s with n:=cond p k s.n,ls:=marks (k+eO p) s.ls.length } :: mkE p (k+eO p+s.ls.length) ss
theorem mkE_len (p:Bool) (k:Int) (ss:List El):(mkE p k ss).length=ss.length:=by
 induction ss generalizing k with
 | nil=>rfl
 | cons s ss ih=>simp [mkE,ih]
theorem mkE_a (p:Bool) (k:Int) (ss:List El):(mkE p k ss).map El.a=ss.map El.a:=by
 induction ss generalizing k with
 | nil=>rfl
 | cons s ss ih=>simp [mkE,ih]
theorem mkE_app (p:Bool) (k:Int) (a b:List El):mkE p k (a++b)=mkE p k a++mkE p (k+elets a+a.length*eO p) b:=by
 induction a generalizing k with
 | nil=>simp [mkE,elets]
 | cons s a ih=>
  simp only [List.cons_append,mkE,ih,elets,List.length_cons]
  congr 3
  cases p <;> simp [eO] <;> omega
def mk1 (p:Bool) (k:Int) (s:El):El:={ s with n:=cond p k s.n,ls:=marks (k+eO p) s.ls.length }
def mkA (p:Bool) (k:Int) (ss:List El) (j:Nat):Int:=k+elets (ss.take j)+j*eO p
theorem mkE_step (p:Bool) (k:Int) (ss:List El) (j:Nat) (h:j<ss.length):(mkE p k (ss.take j)++ss.drop j).set j (mk1 p (mkA p k ss j) (ss.getD j de))=mkE p k (ss.take (j+1))++ss.drop (j+1):=by
 have hl:(mkE p k (ss.take j)).length=j:=by rw [mkE_len,List.length_take];omega
 rw [List.set_append_right _ _ (by omega),hl,Nat.sub_self,List.drop_eq_getElem_cons h,List.set_cons_zero,List.take_succ_eq_append_getElem h,mkE_app,List.append_assoc]
 congr 1
 have e:ss.getD j de=ss[j]:=by rw [List.getD_eq_getElem?_getD,List.getElem?_eq_getElem h];rfl
 rw [e,show (ss.take j).length=j from by rw [List.length_take];omega]
 rfl
theorem mkE_rest (p:Bool) (k:Int) (ss:List El) (j:Nat) (h:j<ss.length):(mkE p k (ss.take j)++ss.drop j).getD j de=ss.getD j de:=by
 have hl:(mkE p k (ss.take j)).length=j:=by rw [mkE_len,List.length_take];omega
 rw [List.getD_eq_getElem?_getD,List.getElem?_append_right (by omega),hl,Nat.sub_self,List.drop_eq_getElem_cons h,List.getElem?_cons_zero,List.getD_eq_getElem?_getD,List.getElem?_eq_getElem h]
theorem mkE_get (p:Bool) (k:Int) (ss:List El) (j:Nat) (h:j<ss.length):(mkE p k ss).getD j de=mk1 p (mkA p k ss j) (ss.getD j de):=by
 have e:mkE p k ss=mkE p k (ss.take (j+1))++mkE p (k+elets (ss.take (j+1))+(ss.take (j+1)).length*eO p) (ss.drop (j+1)):=by rw [←mkE_app,List.take_append_drop]
 have hl:(mkE p k (ss.take (j+1))).length=j+1:=by rw [mkE_len,List.length_take];omega
 rw [e,List.getD_eq_getElem?_getD,List.getElem?_append_left (by omega),←List.getD_eq_getElem?_getD]
 have h2:=mkE_step p k ss j h
 have h3:((mkE p k (ss.take (j+1))++ss.drop (j+1))).getD j de=(mkE p k (ss.take (j+1))).getD j de:=by
  rw [List.getD_eq_getElem?_getD,List.getElem?_append_left (by omega),←List.getD_eq_getElem?_getD]
 rw [←h3,←h2,getD_setE _ j j _ (by rw [List.length_append,mkE_len,List.length_take,List.length_drop];omega),if_pos rfl]
theorem mkA_succ (p:Bool) (k:Int) (ss:List El) (j:Nat) (h:j<ss.length):mkA p k ss (j+1)=mkA p k ss j+eO p+(ss.getD j de).ls.length:=by
 unfold mkA
 rw [elets_take_succ ss j h]
 cases p <;> simp [eO] <;> omega
theorem mkA_all (p:Bool) (k:Int) (ss:List El):mkA p k ss ss.length=k+elets ss+ss.length*eO p:=by unfold mkA;rw [List.take_length]
theorem mkA_le (p:Bool) (k:Int) (ss:List El) (j:Nat) (h:j≤ss.length):k≤mkA p k ss j∧mkA p k ss j≤k+elets ss+ss.length:=by
 unfold mkA
 have:=elets_take_le ss j
 cases p <;> simp [eO] <;> omega
theorem mkE_rng (p:Bool) (k:Int) (ss:List El) (h:∀ e ∈ ss,rE p e) (h0:0≤k) (h1:k+elets ss+ss.length≤9223372036854775807):∀ e ∈ mkE p k ss,rE p e:=by
 intro e he
 obtain ⟨j,hj,rfl⟩:=memE_get he
 rw [mkE_len] at hj
 rw [mkE_get p k ss j hj]
 have hr:=h _ (getD_memE hj)
 have hA:=mkA_le p k ss j (by omega)
 refine ⟨?_,?_,?_,?_⟩
 ·cases p
  ·exact hr.lo
  ·simp only [mk1,cond_true];omega
 ·cases p
  ·exact hr.hi
  ·simp only [mk1,cond_true];omega
 ·simp only [mk1,marks_len];exact hr.len
 ·intro hp;subst hp;exact hr.zero rfl
end Go.Proofs.YtaibkchbkedjnaaGreatDoor
