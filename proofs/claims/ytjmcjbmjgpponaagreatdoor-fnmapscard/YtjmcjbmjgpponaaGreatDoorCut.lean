import Derived.Test.YtjmcjbmjgpponaaGreatDoorPcH
import Derived.Maps.AppendAt
import Derived.StillTail
namespace Go.Proofs.YtjmcjbmjgpponaaGreatDoor
open Go.RowKit
set_option linter.unusedVariables false
def kAt (ps:List Pc) (i:Nat):Nat:=(ps.getD i dpc).key
def HO (ps:List Pc) (lo n x:Nat):Prop:=∀ p c,(c=2*p+1\/c=2*p+2)->c<n->lo<=p->p≠x->kAt ps p<=kAt ps c
def HG (ps:List Pc) (lo n x:Nat):Prop:=∀ p c,(x=2*p+1\/x=2*p+2)->(c=2*x+1\/c=2*x+2)->c<n->lo<=p->kAt ps p<=kAt ps c
set_option linter.unusedSimpArgs false
structure HpS (W:World) (B H g cap:Nat) (ps:List Pc):Prop where
 blk:W.heap[H]?=some (.cells #[.slice (some ⟨g,0,none⟩) ps.length cap] 261 (0,0))
 row:OwV W B g cap ps
 fin:∀ p ∈ ps,p.fine
def OVV (w:World) (B:Nat) (v:Value) (ps:List Pc):Prop:=w.ownsRow B 235 1 v ps.length (ps.map Pc.vl)
theorem OVV.nil (w:World) (B:Nat):OVV w B (.slice none 0 0) []:=⟨rfl,.inl ⟨rfl,rfl⟩⟩
theorem OVV.below {w w':World} {B:Nat} {v:Value} {ps:List Pc} (h:OVV w B v ps) (hb:Below w.heap.size w w'):OVV w' B v ps:=by
 have hg:w.grownBy w' none:=⟨hb.os,hb.tape,hb.output,hb.size,fun k hk _=>hb.block k hk⟩
 exact World.ownsRow.kept h hg (by cases v.ownBlock <;> simp)
theorem z3b {w:World} {R j:Nat} {cur:Array Value} {T:TypeId} {v:Value} (hR:w.heap[R]?=some (.cells cur T (0,0))) (hv:cur[j]?=some v):w.cell? ⟨R,j,none⟩=some v:=by
 rw [cell_of_row w R j cur T (0,0) hR];exact hv
def zrl (v:Value):Nat:=match v with
 | .slice _ n _=>n
 | _=>0
end Go.Proofs.YtjmcjbmjgpponaaGreatDoor
namespace Go.Proofs.YtjmcjbmjgpponaaGreatDoor
set_option linter.unusedVariables false
section
variable {P : Program} {ops : Array Oper} {md : Region.Mode}
def z0d (P:Program) (ops:Array Oper) (l:List Oper) (Q:Exit->Act->World->Prop):Exit->Act->World->Prop
 | .normal,a,w=>wpList P ops Q l a w
 | e,a,w=>Q e a w
theorem zjq {Q Q':Exit->Act->World->Prop} (hp:∀ c a w,Q' (.panic c) a w->Q (.panic c) a w) (ho:∀ a w,Q' .outgrown a w->Q .outgrown a w) {o:Oper} {a:Act} {w:World} {K:Act->World->Prop} (hh:o.wp P a w K Q'):o.wp P a w K Q:=by
 have hl:LetsOut Q'->LetsOut Q:=fun ⟨a,w,h⟩=>⟨a,w,ho a w h⟩
 unfold Oper.wp at *;generalize (execOp a.eval o).run P w=r at *
 cases r with
 | ok n w'=>
  cases n <;> simp only [Oper.upon] at hh ⊢ <;>
   first
    | exact hh
    | exact Calls.mono hh (fun e w'' he=>by cases e <;> first | exact he | exact hp _ _ _ he | exact hl he)
 | halt x w'=>cases x <;> simp only [Oper.upon] at hh ⊢ <;> first | exact hh | exact hp _ _ _ hh
theorem zju {Q Q':Exit->Act->World->Prop} (hp:∀ c a w,Q' (.panic c) a w->Q (.panic c) a w) (ho:∀ a w,Q' .outgrown a w->Q .outgrown a w) {i:Nat} {a:Act} {w:World} {K:Act->World->Prop} (hh:wpOp P ops Q' i K a w):wpOp P ops Q i K a w:=by
 have hl:LetsOut Q'->LetsOut Q:=fun ⟨a,w,h⟩=>⟨a,w,ho a w h⟩
 unfold wpOp at *
 split
 ·rename_i h;simp only [h] at hh;exact hh
 ·rename_i o h
  simp only [h] at hh
  split
  ·rename_i hw;simp only [hw,if_true] at hh;exact hh.imp (zjq hp ho) (fun h=>⟨h.1,hl h.2⟩)
  ·rename_i hw;simp only [hw] at hh;exact hh
theorem zb2 {Q:Exit->Act->World->Prop}:∀ (m:Nat) (L:Array Bool) (a:Act) (w:World),wpAny P md ops Q m L a w->wpAny P md ops Q (m+1) L a w
 | 0,L,a,w,h=>⟨fun _=>h.2,fun i hi=>by rw [h.1] at hi;cases hi⟩
 | m+1,L,a,w,h=>⟨h.1,fun i hi=>wpOp_mono (fun a' w' h'=>zb2 m _ a' w' h') (h.2 i hi)⟩
theorem zmb {Q:Exit->Act->World->Prop} (m k:Nat) (L:Array Bool) (a:Act) (w:World) (h:wpAny P md ops Q m L a w):wpAny P md ops Q (k+m) L a w:=by
 induction k with
 | zero=>rw [Nat.zero_add];exact h
 | succ k ih=>rw [show k+1+m=(k+m)+1 from by omega];exact zb2 _ _ _ _ ih
structure zhq (md:Region.Mode) (ops:Array Oper) (n:Nat):Prop where
 le:n<=ops.size
 head:∀ i o,i<n->ops[i]?=some o->∀ e ∈ o.after,Region.binds md e=true->e.on<i
 tail:∀ j o,n<=j->ops[j]?=some o->∀ i,i<n->∃ e ∈ o.after,Region.binds md e=true/\e.on=i
 seq:Region.seqB md ops (ops.size-n) n ((Array.replicate n true)++(Array.replicate (ops.size-n) false))=true
structure CutRel (n N:Nat) (L L':Array Bool):Prop where
 s1:L.size=N
 s2:L'.size=N
 eq:∀ i,i<n->∀ d,L.getD i d=L'.getD i d
 t1:∀ j,n<=j->j<N->L.getD j true=false
 t2:∀ j,n<=j->L'.getD j true=true
theorem CutRel.set {n N i:Nat} {L L':Array Bool} (h:CutRel n N L L') (hi:i<n) (hn:n<=N):CutRel n N (L.setIfInBounds i true) (L'.setIfInBounds i true):=by
 refine ⟨by simp [h.s1],by simp [h.s2],fun j hj d=>?_,fun j hj hjN=>?_,fun j hj=>?_⟩
 ·by_cases e:i=j
  ·subst e
   have h1:i<L.size:=by rw [h.s1];omega
   have h2:i<L'.size:=by rw [h.s2];omega
   simp [h1,h2]
  ·rw [getD_set_ne d e,getD_set_ne d e];exact h.eq j hj d
 ·rw [getD_set_ne true (by omega)];exact h.t1 j hj hjN
 ·rw [getD_set_ne true (by omega)];exact h.t2 j hj
theorem CutRel.full {n N:Nat} {L L':Array Bool} (h:CutRel n N L L') (hc:zhq md ops n) (hN:ops.size=N) (hr:Region.ready md ops L'=[]):∀ i,i<n->L.getD i true=true:=by
 intro i
 induction i using Nat.strongRecOn with
 | _ i ih=>
  intro hi
  cases hl:L.getD i true with
  | true=>rfl
  | false=>
   exfalso
   have hiN:i<ops.size:=by have:=hc.le;omega
   have hmem:i ∈ Region.ready md ops L':=by
    rw [mem_ready];refine ⟨by rw [<-h.eq i hi];exact hl,ops[i],Array.getElem?_eq_getElem hiN,fun e he hb=>?_⟩
    have h1:=hc.head i _ hi (Array.getElem?_eq_getElem hiN) e he hb;have h2:=ih e.on h1 (by omega)
    rw [<-h.eq e.on (by omega)]
    have h3:e.on<L.size:=by rw [h.s1];omega
    simp [h3] at h2 ⊢
    exact h2
   rw [hr] at hmem
   cases hmem
theorem zox {Q:Exit->Act->World->Prop} {l:List Oper} {n:Nat} (hl:ops=l.toArray) (hc:zhq md ops n):∀ (m:Nat) (L L':Array Bool) (a:Act) (w:World),CutRel n ops.size L L' ->
  wpAny P md ops (z0d P ops (l.drop n) Q) m L' a w->wpAny P md ops Q (m+(ops.size-n)) L a w:=by
 have base:∀ (L L':Array Bool) (a:Act) (w:World),CutRel n ops.size L L'->Region.ready md ops L'=[]->wpList P ops Q (l.drop n) a w->wpAny P md ops Q (ops.size-n) L a w:=by
  intro L L' a w hr he hw
  have hfull:=hr.full hc rfl he;have hle:=hc.le;have hLe:L=(Array.replicate n true)++(Array.replicate (ops.size-n) false):=by
   apply Array.ext
   ·simp [hr.s1];omega
   ·intro i h1 h2
    by_cases hi:i<n
    ·have:=hfull i hi
     simp [h1] at this
     rw [this]
     simp [hi]
    ·have:=hr.t1 i (by omega) (by rw [hr.s1] at h1;exact h1)
     simp [h1] at this
     rw [this]
     simp [Array.getElem_append,hi]
  have hdl:(l.drop n).length=ops.size-n:=by rw [hl];simp
  have h5:=wpAny_of_seq (P:=P) (md:=md) (ops:=ops) (Q':=Q) (l.drop n) n L a w (fun j=>by rw [hl];simp [List.getElem?_drop]) (by rw [hdl,hLe];exact hc.seq) hw
  rwa [hdl] at h5
 intro m
 induction m with
 | zero=>
  intro L L' a w hr h
  rw [Nat.zero_add];exact base L L' a w hr h.1 h.2
 | succ m ih=>
  intro L L' a w hr h
  by_cases he:Region.ready md ops L'=[]
  ·exact zmb _ _ _ _ _ (base L L' a w hr he (h.1 he))
  ·have h2:∀ i,i ∈ Region.ready md ops L'->i<n/\i ∈ Region.ready md ops L:=by
    intro i hi
    have hin:i<n:=by
     rcases Nat.lt_or_ge i n with h3 | h3
     ·exact h3
     ·have:=(mem_ready.1 hi).1
      rw [hr.t2 i h3] at this
      cases this
    refine ⟨hin,?_⟩;obtain ⟨h3,o,ho,hall⟩:=mem_ready.1 hi;rw [mem_ready];refine ⟨by rw [hr.eq i hin];exact h3,o,ho,fun e hee hb=>?_⟩
    rw [hr.eq e.on (by have:=hc.head i o hin ho e hee hb;omega)]
    exact hall e hee hb
   obtain ⟨i0,hi0⟩:=List.exists_mem_of_ne_nil _ he;obtain ⟨hi0n,hi0r⟩:=h2 i0 hi0;rw [show m+1+(ops.size-n)=(m+(ops.size-n))+1 from by omega]
   refine ⟨fun h3=>(by rw [h3] at hi0r;cases hi0r),fun i hi=>?_⟩
   have hin:i<n:=by
    rcases Nat.lt_or_ge i n with h3 | h3
    ·exact h3
    ·exfalso
     obtain ⟨_,o,ho,hall⟩:=mem_ready.1 hi;obtain ⟨e,hee,hb,hon⟩:=hc.tail i o h3 ho i0 hi0n;have h4:=hall e hee hb;rw [hon,getD_both (mem_ready.1 hi0r).1] at h4
     cases h4
   have hi':i ∈ Region.ready md ops L':=by
    obtain ⟨h3,o,ho,hall⟩:=mem_ready.1 hi;rw [mem_ready];refine ⟨by rw [<-hr.eq i hin];exact h3,o,ho,fun e hee hb=>?_⟩
    rw [<-hr.eq e.on (by have:=hc.head i o hin ho e hee hb;omega)]
    exact hall e hee hb
   exact zju (Q':=z0d P ops (l.drop n) Q) (fun _ _ _ h=>h) (fun _ _ h=>h) (wpOp_mono (fun a' w' h'=>ih _ _ a' w' (hr.set hin hc.le) h') (h.2 i hi'))
def zkn (ops:Array Oper) (n:Nat):Bool:=
 decide (n<=ops.size) && (List.range n).all (fun i=>match ops[i]? with | some o=>o.after.all (fun e=>!Region.binds .any e || decide (e.on<i)) | none=>true) &&
  (List.range ops.size).all (fun j=>decide (j<n) || (List.range n).all (fun i=>Region.waitsFor .any ops j i)) &&
  Region.seqB .any ops (ops.size-n) n ((Array.replicate n true)++(Array.replicate (ops.size-n) false))
theorem zou {n:Nat} (h:zkn ops n=true):zhq .any ops n:=by
 unfold zkn at h
 simp only [Bool.and_eq_true,decide_eq_true_eq,List.all_eq_true,List.mem_range,Bool.or_eq_true] at h
 obtain ⟨⟨⟨h1,h2⟩,h3⟩,h4⟩:=h;refine ⟨h1,fun i o hi ho e he hb=>?_,fun j o hj ho i hi=>?_,h4⟩
 ·have:=h2 i hi
  rw [ho] at this
  simp only [Array.all_eq_true_iff_forall_mem,Bool.or_eq_true,Bool.not_eq_true',decide_eq_true_eq] at this
  rcases this e he with h5 | h5
  ·rw [hb] at h5;cases h5
  ·exact h5
 ·have hjN:j<ops.size:=(Array.getElem?_eq_some_iff.1 ho).1
  rcases h3 j hjN with h5 | h5
  ·omega
  ·obtain ⟨oj,hoj,e,he,hb,hon⟩:=Region.waitsFor_spec (h5 i hi)
   have:oj=o:=Option.some.inj (hoj.symm.trans ho);subst this;exact ⟨e,he,hb,hon⟩
theorem zj {S:World->Prop} {id:Nat} {Q:Exit->Act->World->Prop} {a:Act} {w:World} {l:List Oper} (n:Nat) (hm:P.follows .mixedOrders=true) (hB:zkn l.toArray n=true) (hS:S w.drew)
  (h:S w.drew->wpAnyH P .any l.toArray (z0d P l.toArray (l.drop n) Q) S n ((Array.replicate n false)++(Array.replicate (l.toArray.size-n) true)) a w.drew):(Code.region id l.toArray true).wp P Q a w:=by
 have hc:=zou hB;have hle:=hc.le;refine wp_region_any hm ?_;have h1:=wpAny_of_held _ _ _ _ (h hS);have h2:=zox rfl hc n (Array.replicate l.toArray.size false) _ a _ ⟨by simp,by simp;simp at hle;omega,fun i hi d=>?_,fun j hj hjN=>?_,fun j hj=>?_⟩ h1
 ·rw [show n+(l.toArray.size-n)=l.toArray.size from by omega] at h2
  exact h2
 ·have h3:i<l.length:=by simp at hle;omega
  simp only [Array.getD_eq_getD_getElem?]
  rw [Array.getElem?_append_left (by simp;omega),Array.getElem?_replicate,Array.getElem?_replicate,if_pos (by simpa using h3),if_pos hi]
 ·have h3:j<l.length:=by simpa using hjN
  simp [h3]
 ·have h3:¬j<n:=by omega
  simp only [Array.getD_eq_getD_getElem?]
  rw [Array.getElem?_append_right (by simp;omega),Array.getElem?_replicate]
  split <;> rfl
end
end Go.Proofs.YtjmcjbmjgpponaaGreatDoor
