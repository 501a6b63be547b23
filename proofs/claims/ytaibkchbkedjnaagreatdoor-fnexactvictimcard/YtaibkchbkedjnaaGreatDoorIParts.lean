/- Lemmas on the way. -/
import Derived.StillTail
import Derived.Deep.RegionHeld3
import Derived.WalkKit
import Derived.ProofKit
import Derived.Below
import Derived.Deep.Draws
import Derived.Test.YtaibkchbkedjnaaGreatDoorProg
import Derived.WalkLawsBesides
import Derived.Outline
import Derived.BigQuiet
import Derived.Deep.QuietTactic
set_option maxRecDepth 20000
set_option maxHeartbeats 16000000
namespace Go.Proofs.YtaibkchbkedjnaaGreatDoor
set_option linter.unusedVariables false
section
variable {P : Program} {ops : Array Oper} {md : Region.Mode}
def cutQ (P:Program) (ops:Array Oper) (l:List Oper) (Q:Exit→Act→World→Prop):Exit→Act→World→Prop
 | .normal,a,w=>wpList P ops Q l a w
 | e,a,w=>Q e a w
theorem nl {n:Nat} :n≤n:=Nat.le_refl n
theorem oper_post {Q Q':Exit→Act→World→Prop} (hp:∀ c a w,Q' (.panic c) a w→Q (.panic c) a w) (ho:∀ a w,Q' .outgrown a w→Q .outgrown a w) {o:Oper} {a:Act} {w:World} {K:Act→World→Prop} (hh:o.wp P a w K Q'):o.wp P a w K Q:=by
 have hl:LetsOut Q'→LetsOut Q:=fun ⟨a,w,h⟩=>⟨a,w,ho a w h⟩
 unfold Oper.wp at *
 generalize (execOp a.eval o).run P w=r at *
 cases r with
 | ok n w'=>
  cases n <;> simp only [Oper.upon] at hh ⊢ <;>
   first
    | exact hh
    | exact Calls.mono hh (fun e w'' he=>by cases e <;> first | exact he | exact hp _ _ _ he | exact hl he)
 | halt x w'=>cases x <;> simp only [Oper.upon] at hh ⊢ <;> first | exact hh | exact hp _ _ _ hh
theorem wpOp_post {Q Q':Exit→Act→World→Prop} (hp:∀ c a w,Q' (.panic c) a w→Q (.panic c) a w) (ho:∀ a w,Q' .outgrown a w→Q .outgrown a w) {i:Nat} {a:Act} {w:World} {K:Act→World→Prop} (hh:wpOp P ops Q' i K a w):wpOp P ops Q i K a w:=by
 have hl:LetsOut Q'→LetsOut Q:=fun ⟨a,w,h⟩=>⟨a,w,ho a w h⟩
 unfold wpOp at *
 split
 ·rename_i h;simp only [h] at hh;exact hh
 ·rename_i o h
  simp only [h] at hh
  split
  ·rename_i hw;simp only [hw,if_true] at hh;exact hh.imp (oper_post hp ho) (fun h=>⟨h.1,hl h.2⟩)
  ·rename_i hw;simp only [hw] at hh;exact hh
theorem wpAny_up1 {Q:Exit→Act→World→Prop}:∀ (m:Nat) (L:Array Bool) (a:Act) (w:World),wpAny P md ops Q m L a w→wpAny P md ops Q (m+1) L a w
 | 0,L,a,w,h=>⟨fun _=>h.2,fun i hi=>by rw [h.1] at hi;cases hi⟩
 | m+1,L,a,w,h=>⟨h.1,fun i hi=>wpOp_mono (fun a' w' h'=>wpAny_up1 m _ a' w' h') (h.2 i hi)⟩
theorem wpAny_up {Q:Exit→Act→World→Prop} (m k:Nat) (L:Array Bool) (a:Act) (w:World) (h:wpAny P md ops Q m L a w):wpAny P md ops Q (k+m) L a w:=by
 induction k with
 | zero=>rw [Nat.zero_add];exact h
 | succ k ih=>rw [show k+1+m=(k+m)+1 from by omega];exact wpAny_up1 _ _ _ _ ih
structure CutOk (md:Region.Mode) (ops:Array Oper) (n:Nat):Prop where
 le:n≤ops.size
 head:∀ i o,i<n→ops[i]?=some o→∀ e ∈ o.after,Region.binds md e=true→e.on<i
 tail:∀ j o,n≤j→ops[j]?=some o→∀ i,i<n→∃ e ∈ o.after,Region.binds md e=true∧e.on=i
 seq:Region.seqB md ops (ops.size-n) n ((Array.replicate n true)++(Array.replicate (ops.size-n) false))=true
structure CutRel (n N:Nat) (L L':Array Bool):Prop where
 s1:L.size=N
 s2:L'.size=N
 eq:∀ i,i<n→∀ d,L.getD i d=L'.getD i d
 t1:∀ j,n≤j→j<N→L.getD j true=false
 t2:∀ j,n≤j→L'.getD j true=true
theorem CutRel.set {n N i:Nat} {L L':Array Bool} (h:CutRel n N L L') (hi:i<n) (hn:n≤N):CutRel n N (L.setIfInBounds i true) (L'.setIfInBounds i true):=by
 refine ⟨by simp [h.s1],by simp [h.s2],fun j hj d=>?_,fun j hj hjN=>?_,fun j hj=>?_⟩
 ·by_cases e:i=j
  ·subst e
   have h1:i<L.size:=by rw [h.s1];omega
   have h2:i<L'.size:=by rw [h.s2];omega
   simp [h1,h2]
  ·rw [getD_set_ne d e,getD_set_ne d e];exact h.eq j hj d
 ·rw [getD_set_ne true (by omega)];exact h.t1 j hj hjN
 ·rw [getD_set_ne true (by omega)];exact h.t2 j hj
theorem CutRel.full {n N:Nat} {L L':Array Bool} (h:CutRel n N L L') (hc:CutOk md ops n) (hN:ops.size=N) (hr:Region.ready md ops L'=[]):∀ i,i<n→L.getD i true=true:=by
 intro i
 induction i using Nat.strongRecOn with
 | _ i ih=>
  intro hi
  cases hl:L.getD i true with
  | true=>rfl
  | false=>
   exfalso
   have hiN:i<ops.size:=by have:=hc.le;omega
   have hmem:i ∈ Region.ready md ops L':=by
    rw [mem_ready]
    refine ⟨by rw [←h.eq i hi];exact hl,ops[i],Array.getElem?_eq_getElem hiN,fun e he hb=>?_⟩
    have h1:=hc.head i _ hi (Array.getElem?_eq_getElem hiN) e he hb
    have h2:=ih e.on h1 (by omega)
    rw [←h.eq e.on (by omega)]
    have h3:e.on<L.size:=by rw [h.s1];omega
    simp [h3] at h2 ⊢
    exact h2
   rw [hr] at hmem
   cases hmem
theorem cut_sim {Q:Exit→Act→World→Prop} {l:List Oper} {n:Nat} (hl:ops=l.toArray) (hc:CutOk md ops n):∀ (m:Nat) (L L':Array Bool) (a:Act) (w:World),CutRel n ops.size L L' →
  wpAny P md ops (cutQ P ops (l.drop n) Q) m L' a w→wpAny P md ops Q (m+(ops.size-n)) L a w:=by
 have base:∀ (L L':Array Bool) (a:Act) (w:World),CutRel n ops.size L L'→Region.ready md ops L'=[]→wpList P ops Q (l.drop n) a w→wpAny P md ops Q (ops.size-n) L a w:=by
  intro L L' a w hr he hw
  have hfull:=hr.full hc rfl he
  have hle:=hc.le
  have hLe:L=(Array.replicate n true)++(Array.replicate (ops.size-n) false):=by
   apply Array.ext
   ·simp [hr.s1];omega
   ·intro i h1 h2
    by_cases hi:i<n
    ·have:=hfull i hi
     simp [h1] at this
     rw [this]
     simp [hi]
    ·have:=hr.t1 i (by omega) (by rw [hr.s1] at h1;exact h1)
     simp [h1] at this
     rw [this]
     simp [Array.getElem_append,hi]
  have hdl:(l.drop n).length=ops.size-n:=by rw [hl];simp
  have h5:=wpAny_of_seq (P:=P) (md:=md) (ops:=ops) (Q':=Q) (l.drop n) n L a w (fun j=>by rw [hl];simp [List.getElem?_drop]) (by rw [hdl,hLe];exact hc.seq) hw
  rwa [hdl] at h5
 intro m
 induction m with
 | zero=>
  intro L L' a w hr h
  rw [Nat.zero_add]
  exact base L L' a w hr h.1 h.2
 | succ m ih=>
  intro L L' a w hr h
  by_cases he:Region.ready md ops L'=[]
  ·exact wpAny_up _ _ _ _ _ (base L L' a w hr he (h.1 he))
  ·have h2:∀ i,i ∈ Region.ready md ops L'→i<n∧i ∈ Region.ready md ops L:=by
    intro i hi
    have hin:i<n:=by
     rcases Nat.lt_or_ge i n with h3 | h3
     ·exact h3
     ·have:=(mem_ready.1 hi).1
      rw [hr.t2 i h3] at this
      cases this
    refine ⟨hin,?_⟩
    obtain ⟨h3,o,ho,hall⟩:=mem_ready.1 hi
    rw [mem_ready]
    refine ⟨by rw [hr.eq i hin];exact h3,o,ho,fun e hee hb=>?_⟩
    rw [hr.eq e.on (by have:=hc.head i o hin ho e hee hb;omega)]
    exact hall e hee hb
   obtain ⟨i0,hi0⟩:=List.exists_mem_of_ne_nil _ he
   obtain ⟨hi0n,hi0r⟩:=h2 i0 hi0
   rw [show m+1+(ops.size-n)=(m+(ops.size-n))+1 from by omega]
   refine ⟨fun h3=>(by rw [h3] at hi0r;cases hi0r),fun i hi=>?_⟩
   have hin:i<n:=by
    rcases Nat.lt_or_ge i n with h3 | h3
    ·exact h3
    ·exfalso
     obtain ⟨_,o,ho,hall⟩:=mem_ready.1 hi
     obtain ⟨e,hee,hb,hon⟩:=hc.tail i o h3 ho i0 hi0n
     have h4:=hall e hee hb
     rw [hon,getD_both (mem_ready.1 hi0r).1] at h4
     cases h4
   have hi':i ∈ Region.ready md ops L':=by
    obtain ⟨h3,o,ho,hall⟩:=mem_ready.1 hi
    rw [mem_ready]
    refine ⟨by rw [←hr.eq i hin];exact h3,o,ho,fun e hee hb=>?_⟩
    rw [←hr.eq e.on (by have:=hc.head i o hin ho e hee hb;omega)]
    exact hall e hee hb
   exact wpOp_post (Q':=cutQ P ops (l.drop n) Q) (fun _ _ _ h=>h) (fun _ _ h=>h) (wpOp_mono (fun a' w' h'=>ih _ _ a' w' (hr.set hin hc.le) h') (h.2 i hi'))
def cutB (ops:Array Oper) (n:Nat):Bool:=
 decide (n≤ops.size) && (List.range n).all (fun i=>match ops[i]? with | some o=>o.after.all (fun e=>!Region.binds .any e || decide (e.on<i)) | none=>true) &&
  (List.range ops.size).all (fun j=>decide (j<n) || (List.range n).all (fun i=>Region.waitsFor .any ops j i)) &&
  Region.seqB .any ops (ops.size-n) n ((Array.replicate n true)++(Array.replicate (ops.size-n) false))
theorem cutB_ok {n:Nat} (h:cutB ops n=true):CutOk .any ops n:=by
 unfold cutB at h
 simp only [Bool.and_eq_true,decide_eq_true_eq,List.all_eq_true,List.mem_range,Bool.or_eq_true] at h
 obtain ⟨⟨⟨h1,h2⟩,h3⟩,h4⟩:=h
 refine ⟨h1,fun i o hi ho e he hb=>?_,fun j o hj ho i hi=>?_,h4⟩
 ·have:=h2 i hi
  rw [ho] at this
  simp only [Array.all_eq_true_iff_forall_mem,Bool.or_eq_true,Bool.not_eq_true',decide_eq_true_eq] at this
  rcases this e he with h5 | h5
  ·rw [hb] at h5;cases h5
  ·exact h5
 ·have hjN:j<ops.size:=(Array.getElem?_eq_some_iff.1 ho).1
  rcases h3 j hjN with h5 | h5
  ·omega
  ·obtain ⟨oj,hoj,e,he,hb,hon⟩:=Region.waitsFor_spec (h5 i hi)
   have:oj=o:=Option.some.inj (hoj.symm.trans ho)
   subst this
   exact ⟨e,he,hb,hon⟩
theorem wp_region_cut {S:World→Prop} {id:Nat} {Q:Exit→Act→World→Prop} {a:Act} {w:World} {l:List Oper} (n:Nat) (hm:P.follows .mixedOrders=true) (hB:cutB l.toArray n=true) (hS:S w.drew)
  (h:S w.drew→wpAnyH P .any l.toArray (cutQ P l.toArray (l.drop n) Q) S n ((Array.replicate n false)++(Array.replicate (l.toArray.size-n) true)) a w.drew):(Code.region id l.toArray true).wp P Q a w:=by
 have hc:=cutB_ok hB
 have hle:=hc.le
 refine wp_region_any hm ?_
 have h1:=wpAny_of_held _ _ _ _ (h hS)
 have h2:=cut_sim rfl hc n (Array.replicate l.toArray.size false) _ a _ ⟨by simp,by simp;simp at hle;omega,fun i hi d=>?_,fun j hj hjN=>?_,fun j hj=>?_⟩ h1
 ·rw [show n+(l.toArray.size-n)=l.toArray.size from by omega] at h2
  exact h2
 ·have h3:i<l.length:=by simp at hle;omega
  simp only [Array.getD_eq_getD_getElem?]
  rw [Array.getElem?_append_left (by simp;omega),Array.getElem?_replicate,Array.getElem?_replicate,if_pos (by simpa using h3),if_pos hi]
 ·have h3:j<l.length:=by simpa using hjN
  simp [h3]
 ·have h3:¬j<n:=by omega
  simp only [Array.getD_eq_getD_getElem?]
  rw [Array.getElem?_append_right (by simp;omega),Array.getElem?_replicate]
  split <;> rfl
end
end Go.Proofs.YtaibkchbkedjnaaGreatDoor
namespace Go.Proofs.YtaibkchbkedjnaaGreatDoor
set_option linter.unusedVariables false
section
variable {P : Program} {ops : Array Oper} {md : Region.Mode} {Q : Exit → Act → World → Prop} {S : World → Prop}
theorem tk (i:Nat) {oi:Oper} {v:Value} {fuel:Nat} {listed:Array Bool} {a:Act} {w:World} (y:∀ w,S w→(execOp a.eval oi).run P w=.ok (.value v) w)
  (h:wpAnyH P md ops Q S fuel (listed.setIfInBounds i true) (a.put oi.dst v) w) (hi:ops[i]?=some oi:=by rfl) (hs:Region.noSelect ops=true:=by kernel_rfl) (hf:Region.free md ops listed i=true:=by kernel_rfl) (hr:(Region.ready md ops listed).contains i=true:=by kernel_rfl)
  (hQ:∀ c a w,Q (.panic c) (a.put oi.dst v) w→Q (.panic c) a w:=by exact fun _ _ _ h=>h) (hg:Region.wanted oi (yielded ops a.tmps)=true:=by rfl) (hS:S w:=by assumption):wpAnyH P md ops Q S (fuel+1) listed a w:=
 wpAnyH_take hi hs hf hr hQ (Or.inl ⟨hg,y⟩) hS h
theorem tu (i:Nat) {oi:Oper} {fuel:Nat} {listed:Array Bool} {a:Act} {w:World}
  (h:wpAnyH P md ops Q S fuel (listed.setIfInBounds i true) (a.put oi.dst undef) w) (hi:ops[i]?=some oi:=by rfl) (hs:Region.noSelect ops=true:=by kernel_rfl) (hf:Region.free md ops listed i=true:=by kernel_rfl) (hr:(Region.ready md ops listed).contains i=true:=by kernel_rfl)
  (hQ:∀ c a w,Q (.panic c) (a.put oi.dst undef) w→Q (.panic c) a w:=by exact fun _ _ _ h=>h) (hg:Region.wanted oi (yielded ops a.tmps)=false:=by rfl) (hS:S w:=by assumption):wpAnyH P md ops Q S (fuel+1) listed a w:=
 wpAnyH_take hi hs hf hr hQ (Or.inr ⟨hg,rfl⟩) hS h
end
theorem tkS :(∀ (α:Type) (l:List α) (i:Nat) (h:i<l.toArray.size),l.toArray[i]=l[i]'(by simpa using h))∧(∀ (α:Type) (a:α) (l:List α) (h:0<(a :: l).length),(a :: l)[0]=a)∧(∀ (α:Type) (a:α) (l:List α) (i:Nat) (h:i+1<(a :: l).length),(a :: l)[i+1]=l[i]'(Nat.lt_of_succ_lt_succ h)) ∧
  (∀ (a:Act) (d:Tmp) (v:Value),a.put (some d) v={ a with tmps:=a.tmps.setIfInBounds d v })∧(∀ (a:Act) (v:Value),a.put none v=a)∧(∀ (α:Type) (l:List α) (i:Nat) (a:α),l.toArray.setIfInBounds i a=(l.set i a).toArray)∧(∀ (α:Type) (a:α) (l:List α) (b:α),(a :: l).set 0 b=b :: l)∧(∀ (α:Type) (a:α) (l:List α) (i:Nat) (b:α),(a :: l).set (i+1) b=a :: l.set i b):=
 ⟨fun _ _ _ _=>by simp,fun _ _ _ _=>rfl,fun _ _ _ _ _=>rfl,fun _ _ _=>rfl,fun _ _=>rfl,fun _ _ _ _=>by simp,fun _ _ _ _=>rfl,fun _ _ _ _ _=>rfl⟩
end Go.Proofs.YtaibkchbkedjnaaGreatDoor
namespace Go.Proofs.YtaibkchbkedjnaaGreatDoor
open Go.RowKit
def Byt (w:World) (a:Option Addr) (zs:List Int):Prop:=
 (∀ z ∈ zs,0≤z∧z≤255)∧(0<zs.length→∃ b off,a=some ⟨b,off,none⟩∧b<w.heap.size∧∀ i,i<zs.length→w.cell? ⟨b,off+i,none⟩=some (.int .u8 (zs.getD i 0)))
def Own (w:World) (B g cap:Nat) (zs:List Int):Prop:=
 w.ownsRow B 5 1 (.slice (some ⟨g,0,none⟩) zs.length cap) zs.length (zs.map (Value.int .u8))∧∀ z ∈ zs,0≤z∧z≤255
theorem Own.lt {w:World} {B g cap:Nat} {zs:List Int} (h:Own w B g cap zs):B≤g∧g<w.heap.size:=h.1.lt g rfl
theorem Own.cell {w:World} {B g cap:Nat} {zs:List Int} (h:Own w B g cap zs) (i:Nat) (hi:i<zs.length):w.cell? ⟨g,i,none⟩=some (.int .u8 (zs.getD i 0)):=by
 rw [h.1.cellAt i (by omega)]
 simp [List.getElem?_eq_getElem hi]
theorem Own.byt {w:World} {B g cap:Nat} {zs:List Int} (h:Own w B g cap zs):Byt w (some ⟨g,0,none⟩) zs:=
 ⟨h.2,fun _=>⟨g,0,rfl,h.lt.2,fun i hi=>by rw [Nat.zero_add];exact h.cell i hi⟩⟩
theorem Byt.below {w w':World} {a:Option Addr} {zs:List Int} {B:Nat} (h:Byt w a zs) (hb:Below B w w') (hB:w.heap.size≤B):Byt w' a zs:=by
 refine ⟨h.1,fun hz=>?_⟩
 obtain ⟨b,off,rfl,hlt,hc⟩:=h.2 hz
 refine ⟨b,off,rfl,Nat.lt_of_lt_of_le hlt hb.size,fun i hi=>?_⟩
 rw [hb.cell (p:=⟨b,off+i,none⟩) (Nat.lt_of_lt_of_le hlt hB)]
 exact hc i hi
theorem Own.below {w w':World} {B B' g cap:Nat} {zs:List Int} (h:Own w B g cap zs) (hb:Below B' w w') (hB:w.heap.size≤B'):Own w' B g cap zs:=by
 refine ⟨⟨h.1.1,?_⟩,h.2⟩
 rcases h.1.2 with ⟨h',_⟩ | ⟨g',cap',cur,h',hg,hh,r⟩
 ·simp at h'
 ·refine .inr ⟨g',cap',cur,h',hg,?_,r⟩
  rw [hb.block g' (by have:=(Array.getElem?_eq_some_iff.1 hh).1;omega)]
  exact hh
theorem Own.mono {w:World} {B B' g cap:Nat} {zs:List Int} (h:Own w B g cap zs) (hB:B'≤B):Own w B' g cap zs:=by
 refine ⟨⟨h.1.1,?_⟩,h.2⟩
 rcases h.1.2 with ⟨h',_⟩ | ⟨g',cap',cur,h',hg,r⟩
 ·simp at h'
 ·exact .inr ⟨g',cap',cur,h',by omega,r⟩
theorem Byt.len_pos {w:World} {a:Option Addr} {zs:List Int} (h:Byt w a zs) (i:Nat) (hi:i<zs.length):∃ b off,a=some ⟨b,off,none⟩∧b<w.heap.size∧∀ i,i<zs.length→w.cell? ⟨b,off+i,none⟩=some (.int .u8 (zs.getD i 0)):=h.2 (by omega)
theorem ret_int {k:IntKind} {a b:Int} (h:a=b):Ending.returned (.int k a)=.returned (.int k b):=by rw [h]
theorem bcell {B:Nat} {W w1:World} (hb:Below B W w1):(∀ b o,b<B→w1.cell? ⟨b,o,none⟩=W.cell? ⟨b,o,none⟩)∧(∀ b o,b<B→w1.frozen? ⟨b,o,none⟩=W.frozen? ⟨b,o,none⟩):=
 ⟨fun b o h=>hb.cell (p:=⟨b,o,none⟩) h,fun b o h=>hb.frozen (p:=⟨b,o,none⟩) h⟩
def part (zs:List Int) (k:Nat):List Int:=zs.take k++List.replicate (zs.length-k) 0
theorem part_len (zs:List Int) (k:Nat) (h:k≤zs.length):(part zs k).length=zs.length:=by simp [part];omega
theorem part_all (zs:List Int):part zs zs.length=zs:=by simp [part]
theorem part_zero (zs:List Int):part zs 0=List.replicate zs.length 0:=by simp [part]
theorem part_get (zs:List Int) (k i:Nat) (h:k≤zs.length):(part zs k)[i]?=if i<k then zs[i]? else if i<zs.length then some 0 else none:=by
 unfold part
 rw [List.getElem?_append,List.length_take,Nat.min_eq_left h]
 by_cases h1:i<k
 ·rw [if_pos h1,if_pos h1,List.getElem?_take,if_pos h1]
 ·rw [if_neg h1,if_neg h1,List.getElem?_replicate]
  by_cases h2:i<zs.length
  ·rw [if_pos (by omega),if_pos h2]
  ·rw [if_neg (by omega),if_neg h2]
theorem part_set (zs:List Int) (k:Nat) (h:k<zs.length):(part zs k).set k (zs.getD k 0)=part zs (k+1):=by
 apply List.ext_getElem?
 intro i
 rw [List.getElem?_set,part_get _ _ _ (by omega),part_get _ _ _ (by omega),part_len _ _ (by omega)]
 by_cases e:k=i
 ·subst e
  rw [if_pos rfl,if_pos h,if_pos (by omega)]
  simp [h]
 ·rw [if_neg e]
  by_cases h1:i<k
  ·rw [if_pos h1,if_pos (by omega)]
  ·have h3:¬i<k+1:=by omega
   rw [if_neg h1,if_neg h3]
theorem getD_rng {zs:List Int} (h:∀ z ∈ zs,0≤z∧z≤255) (i:Nat):0≤zs.getD i 0∧zs.getD i 0≤255:=by
 rw [List.getD_eq_getElem?_getD]
 by_cases hi:i<zs.length
 ·rw [List.getElem?_eq_getElem hi];exact h _ (List.getElem_mem hi)
 ·rw [List.getElem?_eq_none (by omega)];simp
theorem Own.store {w:World} {B g cap:Nat} {zs:List Int} (h:Own w B g cap zs) (i:Nat) (z:Int) (hz:0≤z∧z≤255):Own (w.setCell ⟨g,i,none⟩ (.int .u8 z)) B g cap (zs.set i z):=by
 have:=(h.1.stored i (.int .u8 z)).1
 refine ⟨?_,?_⟩
 ·simpa [List.map_set] using this
 ·intro y hy
  rcases List.mem_or_eq_of_mem_set hy with hy | rfl
  ·exact h.2 y hy
  ·exact hz
theorem Own.frozen {w:World} {B g cap:Nat} {zs:List Int} (h:Own w B g cap zs) (i:Nat):w.frozen? ⟨g,i,none⟩=false:=h.1.frozenAt i
theorem Own.setCell_other {w:World} {B g cap:Nat} {zs:List Int} (h:Own w B g cap zs) {p:Addr} (hp:p.block≠g) (u:Value):Own (w.setCell p u) B g cap zs:=by
 refine ⟨⟨h.1.1,?_⟩,h.2⟩
 rcases h.1.2 with ⟨h',_⟩ | ⟨g',cap',cur,h',hg,hh,r⟩
 ·simp at h'
 ·have e:g'=g:=by simp at h';exact h'.1.symm
  subst e
  exact .inr ⟨g',cap',cur,h',hg,by rw [Below.heap_setCell _ _ _ _ (by omega)];exact hh,r⟩
theorem take_eq_succ {xs ys:List Int} {k:Nat} (h:xs.take k=ys.take k) (hx:k<xs.length) (hy:k<ys.length) (he:xs.getD k 0=ys.getD k 0):xs.take (k+1)=ys.take (k+1):=by
 rw [List.take_succ_eq_append_getElem hx,List.take_succ_eq_append_getElem hy,h]
 simp [hx,hy] at he
 rw [he]
theorem ne_of_getD {xs ys:List Int} {k:Nat} (he:xs.getD k 0≠ys.getD k 0):xs≠ys:=fun h=>he (by rw [h])
theorem Byt.drewN {w:World} {a:Option Addr} {zs:List Int} (h:Byt w a zs) (n:Nat):Byt (w.drewN n) a zs:=h
theorem Own.drewN {w:World} {B g cap:Nat} {zs:List Int} (h:Own w B g cap zs) (n:Nat):Own (w.drewN n) B g cap zs:=h
theorem keep {B:Nat} {w w':World} (h:Below B w w') {b o:Nat} {v:Value} (hb:b<B) (hc:w.cell? ⟨b,o,none⟩=some v):w'.cell? ⟨b,o,none⟩=some v:=(h.cell (p:=⟨b,o,none⟩) hb).trans hc
theorem kp {B:Nat} {w w':World} (h:Below B w w') {b o:Nat} {v:Value} (hb:b<B) (hc:w.cell? ⟨b,o,none⟩=some v):w'.cell? ⟨b,o,none⟩=some v:=(h.cell (p:=⟨b,o,none⟩) hb).trans hc
theorem bAw {w:World} {o:Obj} :Below w.heap.size w (w.alloc o):=((Below.refl _ _).alloc nl _)
theorem keepA {w:World} (ob:Obj) {b o:Nat} {v:Value} (hb:b<w.heap.size) (hc:w.cell? ⟨b,o,none⟩=some v):(w.alloc ob).cell? ⟨b,o,none⟩=some v:=keep ((Below.refl w.heap.size w).alloc nl ob) hb hc
theorem Own.alloc {w:World} {B g cap:Nat} {zs:List Int} (h:Own w B g cap zs) (ob:Obj):Own (w.alloc ob) B g cap zs:=h.below ((Below.refl w.heap.size w).alloc nl ob) nl
theorem Byt.alloc {w:World} {a:Option Addr} {zs:List Int} (h:Byt w a zs) (ob:Obj):Byt (w.alloc ob) a zs:=h.below ((Below.refl w.heap.size w).alloc nl ob) nl
theorem Below.drewS {B:Nat} {w w':World} (h:Below B w.drew w'):Below B w w':=⟨h.os,h.tape,h.output,h.size,h.block⟩
set_option linter.unusedVariables false
theorem Tryz.infoU8 :(Tryz.prog.info? 5).map (fun i=>(i.zero,i.size,i.bytes))=some (some (.int .u8 0),1,1):=by kernel_rfl
theorem made_zero (n:Nat):(madeCells (Value.int .u8 0).cells (n*1)).toList=(List.replicate n (0:Int)).map (Value.int .u8):=by
 simp only [madeCells,Value.cells,Nat.mul_one,Array.toList_map,Array.toList_range,List.map_replicate]
 rw [List.eq_replicate_iff]
 refine ⟨by simp,fun b hb=>?_⟩
 simp only [List.mem_map] at hb
 obtain ⟨x,_,rfl⟩:=hb
 simp [Nat.mod_one]
structure Only (S:Nat→Prop) (w w':World):Prop where
 os:w'.os=w.os
 tape:w'.tape=w.tape
 output:w'.output=w.output
 size:w.heap.size≤w'.heap.size
 block:∀ k,k<w.heap.size→¬S k→w'.heap[k]?=w.heap[k]?
theorem Only.refl (S:Nat→Prop) (w:World):Only S w w:=⟨rfl,rfl,rfl,Nat.le_refl _,fun _ _ _=>rfl⟩
theorem Only.trans {S:Nat→Prop} {a b c:World} (h:Only S a b) (k:Only S b c):Only S a c:=
 ⟨k.os.trans h.os,k.tape.trans h.tape,k.output.trans h.output,Nat.le_trans h.size k.size,fun i hi hs=>(k.block i (Nat.lt_of_lt_of_le hi h.size) hs).trans (h.block i hi hs)⟩
theorem Only.mono {S T:Nat→Prop} {a b:World} (h:Only S a b) (hs:∀ k,k<a.heap.size→S k→T k):Only T a b:=
 ⟨h.os,h.tape,h.output,h.size,fun i hi ht=>h.block i hi (fun hh=>ht (hs i hi hh))⟩
theorem Only.ofBelow {S:Nat→Prop} {B:Nat} {a b:World} (h:Below B a b) (hB:a.heap.size≤B):Only S a b:=⟨h.os,h.tape,h.output,h.size,fun i hi _=>h.block i (by omega)⟩
theorem Only.below {S:Nat→Prop} {B:Nat} {a b:World} (h:Only S a b) (hB:B≤a.heap.size) (hs:∀ k,S k→B≤k):Below B a b:=
 ⟨h.os,h.tape,h.output,h.size,fun k hk=>h.block k (by omega) (fun hh=>by have:=hs k hh;omega)⟩
theorem Only.alloc {S:Nat→Prop} {a b:World} (h:Only S a b) (o:Obj):Only S a (b.alloc o):=
 ⟨h.os,h.tape,h.output,by have:=h.size;simp;omega,fun i hi hs=>(Below.heap_alloc _ _ _ (by have:=h.size;omega)).trans (h.block i hi hs)⟩
theorem Only.drewN {S:Nat→Prop} {a b:World} (h:Only S a b) (n:Nat):Only S a (b.drewN n):=⟨h.os,h.tape,h.output,h.size,h.block⟩
theorem Only.drew {S:Nat→Prop} {a b:World} (h:Only S a b):Only S a b.drew:=⟨h.os,h.tape,h.output,h.size,h.block⟩
theorem Only.setCell {S:Nat→Prop} {a b:World} (h:Only S a b) {p:Addr} (hp:S p.block∨a.heap.size≤p.block) (u:Value):Only S a (b.setCell p u):=by
 refine ⟨h.os,h.tape,h.output,by have:=h.size;simp [World.setCell];omega,fun i hi hs=>?_⟩
 have hne:i≠p.block:=by
  rintro rfl
  rcases hp with hp | hp
  ·exact hs hp
  ·omega
 exact (Below.heap_setCell _ _ _ _ hne).trans (h.block i hi hs)
theorem Only.grown {S:Nat→Prop} {a b c:World} {row:Option Nat} (h:Only S a b) (hg:b.grownBy c row) (hr:∀ k,row=some k→S k∨a.heap.size≤k):Only S a c:=
 ⟨hg.os.trans h.os,hg.tape.trans h.tape,hg.output.trans h.output,Nat.le_trans h.size hg.size,fun i hi hs=>(hg.block i (Nat.lt_of_lt_of_le hi h.size) (fun e=>by
  rcases hr i e.symm with hh | hh
  ·exact hs hh
  ·omega)).trans (h.block i hi hs)⟩
theorem Only.cell {S:Nat→Prop} {w w':World} (h:Only S w w') {b o:Nat} {v:Value} (hb:b<w.heap.size) (hs:¬S b) (hc:w.cell? ⟨b,o,none⟩=some v):w'.cell? ⟨b,o,none⟩=some v:=
 (World.cell?_of_block (w:=w) (a:=⟨b,o,none⟩) (h.block b hb hs)).trans hc
theorem Own.only {S:Nat→Prop} {w w':World} {B g cap:Nat} {zs:List Int} (h:Own w B g cap zs) (ho:Only S w w') (hs:¬S g):Own w' B g cap zs:=by
 refine ⟨⟨h.1.1,?_⟩,h.2⟩
 have hlt:=h.lt.2
 rcases h.1.2 with ⟨h',_⟩ | ⟨g',cap',cur,h',hg,hh,r⟩
 ·simp at h'
 ·have e:g'=g:=by simp at h';exact h'.1.symm
  subst e
  exact .inr ⟨g',cap',cur,h',hg,by rw [ho.block g' hlt hs];exact hh,r⟩
def Mine (w:World) (B U:Nat) (a:Option Addr) (cap:Nat) (zs:List Int):Prop:=
 (a=none∧zs=[]∧cap=0)∨∃ g,a=some ⟨g,0,none⟩∧B≤g∧g<U∧Own w B g cap zs
theorem Mine.byt {w:World} {B U:Nat} {a:Option Addr} {cap:Nat} {zs:List Int} (h:Mine w B U a cap zs):Byt w a zs:=by
 rcases h with ⟨rfl,rfl,rfl⟩ | ⟨g,rfl,_,_,h⟩
 ·exact ⟨by simp,by simp⟩
 ·exact h.byt
theorem Mine.only {S:Nat→Prop} {w w':World} {B U:Nat} {a:Option Addr} {cap:Nat} {zs:List Int} (h:Mine w B U a cap zs) (ho:Only S w w') (hs:∀ k,B≤k→k<U→¬S k):Mine w' B U a cap zs:=by
 rcases h with h | ⟨g,rfl,h1,h2,h⟩
 ·exact .inl h
 ·exact .inr ⟨g,rfl,h1,h2,h.only ho (hs g h1 h2)⟩
theorem Mine.below {w w':World} {B U:Nat} {a:Option Addr} {cap:Nat} {zs:List Int} (h:Mine w B U a cap zs) (ho:Below w.heap.size w w'):Mine w' B U a cap zs:=h.only (Only.ofBelow (S:=fun _=>False) ho nl) (by simp)
theorem Mine.mono {w:World} {B U B' U':Nat} {a:Option Addr} {cap:Nat} {zs:List Int} (h:Mine w B U a cap zs) (h1:B'≤B) (h2:U≤U'):Mine w B' U' a cap zs:=by
 rcases h with h | ⟨g,rfl,g1,g2,h⟩
 ·exact .inl h
 ·exact .inr ⟨g,rfl,by omega,by omega,h.mono h1⟩
theorem Own.mine {w:World} {B g cap:Nat} {zs:List Int} (h:Own w B g cap zs):Mine w B w.heap.size (some ⟨g,0,none⟩) cap zs:=.inr ⟨g,rfl,h.lt.1,h.lt.2,h⟩
def rowOf (a:Option Addr) (k:Nat):Prop:=∃ x:Addr,a=some x∧x.block=k
structure El where
 n:Int
 a:Option Addr
 c:Nat
 ls:List Int
def El.ct (e:El):Int × List Int:=(e.n,e.ls)
def de :El:=⟨0,none,0,[]⟩
def eW (p:Bool):Nat:=cond p 2 1
def eO (p:Bool):Nat:=cond p 1 0
def El.cells (p:Bool) (e:El):List Value:=cond p [.int .i64 e.n,.slice e.a e.ls.length e.c] [.slice e.a e.ls.length e.c]
structure rE (p:Bool) (e:El):Prop where
 lo:-9223372036854775808≤e.n
 hi:e.n≤9223372036854775807
 len:e.ls.length≤maxLen
 zero:p=false→e.n=0
structure LieE (p:Bool) (w:World) (b o:Nat) (e:El):Prop where
 c0:p=true→w.cell? ⟨b,o,none⟩=some (.int .i64 e.n)
 c1:w.cell? ⟨b,o+eO p,none⟩=some (.slice e.a e.ls.length e.c)
def Els (p:Bool) (w:World) (a:Option Addr) (es:List El):Prop:=
 (∀ e ∈ es,rE p e∧Byt w e.a e.ls)∧(0<es.length→∃ b off,a=some ⟨b,off,none⟩∧b<w.heap.size∧∀ i,i<es.length→LieE p w b (off+i*eW p) (es.getD i de))
theorem getD_memE {es:List El} {k:Nat} (hk:k<es.length):es.getD k de ∈ es:=by
 rw [List.getD_eq_getElem?_getD,List.getElem?_eq_getElem hk];exact List.getElem_mem hk
theorem ctE_get {ss ts:List El} (h:ss.map El.ct=ts.map El.ct) (k:Nat):(ss.getD k de).ct=(ts.getD k de).ct:=by
 have:(ss.map El.ct).getD k de.ct=(ts.map El.ct).getD k de.ct:=by rw [h]
 simpa [List.getD_eq_getElem?_getD,List.getElem?_map,Option.getD_map] using this
theorem len_ctE {ss ts:List El} (h:ts.map El.ct=ss.map El.ct):ts.length=ss.length:=by have:=congrArg List.length h;simpa using this
theorem LieE.below {p:Bool} {w w':World} {b o:Nat} {e:El} {B:Nat} (h:LieE p w b o e) (hb:Below B w w') (hB:b<B):LieE p w' b o e:=
 ⟨fun hp=>keep hb hB (h.c0 hp),keep hb hB h.c1⟩
theorem Els.below {p:Bool} {w w':World} {a:Option Addr} {es:List El} {B:Nat} (h:Els p w a es) (hb:Below B w w') (hB:w.heap.size≤B):Els p w' a es:=by
 refine ⟨fun e he=>⟨(h.1 e he).1,(h.1 e he).2.below hb hB⟩,fun hz=>?_⟩
 obtain ⟨b,off,rfl,hlt,hc⟩:=h.2 hz
 exact ⟨b,off,rfl,Nat.lt_of_lt_of_le hlt hb.size,fun i hi=>(hc i hi).below hb (by omega)⟩
theorem Els.pos {p:Bool} {w:World} {a:Option Addr} {es:List El} (h:Els p w a es) (i:Nat) (hi:i<es.length):∃ b off,a=some ⟨b,off,none⟩∧b<w.heap.size∧∀ i,i<es.length→LieE p w b (off+i*eW p) (es.getD i de):=h.2 (by omega)
theorem Els.at {p:Bool} {w:World} {a:Option Addr} {es:List El} (h:Els p w a es) (k:Nat) (hk:k<es.length):rE p (es.getD k de)∧Byt w (es.getD k de).a (es.getD k de).ls:=h.1 _ (getD_memE hk)
theorem Els.sec {w:World} {a:Option Addr} {es:List El} (h:Els false w a es) (k:Nat) (hk:k<es.length):∃ b off,a=some ⟨b,off,none⟩∧b<w.heap.size∧w.cell? ⟨b,off+k,none⟩=some (.slice (es.getD k de).a (es.getD k de).ls.length (es.getD k de).c)∧Byt w (es.getD k de).a (es.getD k de).ls∧rE false (es.getD k de):=by
 obtain ⟨b,off,rfl,hb,hc⟩:=h.pos k hk
 have h1:=(hc k hk).c1
 simp only [eW,eO,cond_false,Nat.mul_one,Nat.add_zero] at h1
 exact ⟨b,off,rfl,hb,h1,(h.at k hk).2,(h.at k hk).1⟩
theorem Els.pen {w:World} {a:Option Addr} {es:List El} (h:Els true w a es) (k:Nat) (hk:k<es.length):∃ b off,a=some ⟨b,off,none⟩∧b<w.heap.size∧w.cell? ⟨b,off+k*2,none⟩=some (.int .i64 (es.getD k de).n)∧w.cell? ⟨b,off+k*2+1,none⟩=some (.slice (es.getD k de).a (es.getD k de).ls.length (es.getD k de).c)∧Byt w (es.getD k de).a (es.getD k de).ls∧rE true (es.getD k de):=by
 obtain ⟨b,off,rfl,hb,hc⟩:=h.pos k hk
 have h0:=(hc k hk).c0 rfl
 have h1:=(hc k hk).c1
 simp only [eW,eO,cond_true] at h0 h1
 exact ⟨b,off,rfl,hb,h0,h1,(h.at k hk).2,(h.at k hk).1⟩
/-! Rows of the call's own -/
theorem cells_lenE (p:Bool) (e:El):(e.cells p).length=eW p:=by cases p <;> rfl
theorem eflat_len (p:Bool) (es:List El):(es.flatMap (El.cells p)).length=es.length*eW p:=by
 induction es with
 | nil=>simp
 | cons s es ih=>rw [List.flatMap_cons,List.length_append,ih,List.length_cons,cells_lenE,Nat.add_mul,Nat.one_mul,Nat.add_comm]
theorem eflat_get (p:Bool) (es:List El):∀ k,k<es.length→∀ j,j<eW p→(es.flatMap (El.cells p))[k*eW p+j]?=((es.getD k de).cells p)[j]?:=by
 induction es with
 | nil=>intro k hk;simp at hk
 | cons s es ih=>
  intro k hk j hj
  rw [List.flatMap_cons]
  cases k with
  | zero=>
   rw [Nat.zero_mul,Nat.zero_add,List.getElem?_append_left (by rw [cells_lenE];exact hj)]
   rfl
  | succ k=>
   rw [List.getElem?_append_right (by rw [cells_lenE,Nat.add_mul];omega),cells_lenE,show (k+1)*eW p+j-eW p=k*eW p+j from by rw [Nat.add_mul];omega,ih k (by simpa using hk) j hj]
   rfl
theorem eflat_set (p:Bool) (es:List El) (e:El) (j:Nat) (hj:j<eW p) (v:Value):∀ k,k<es.length→((es.getD k de).cells p).set j v=e.cells p→(es.flatMap (El.cells p)).set (k*eW p+j) v=(es.set k e).flatMap (El.cells p):=by
 induction es with
 | nil=>intro k hk;simp at hk
 | cons s es ih=>
  intro k hk he
  rw [List.flatMap_cons]
  cases k with
  | zero=>
   rw [Nat.zero_mul,Nat.zero_add,List.set_append_left _ _ (by rw [cells_lenE];exact hj),List.set_cons_zero,List.flatMap_cons,←he]
   rfl
  | succ k=>
   rw [List.set_append_right _ _ (by rw [cells_lenE,Nat.add_mul];omega),cells_lenE,show (k+1)*eW p+j-eW p=k*eW p+j from by rw [Nat.add_mul];omega,ih k (by simpa using hk) he,List.set_cons_succ,List.flatMap_cons]
structure Deep (w:World) (B:Nat) (es:List El):Prop where
 mine:∀ e ∈ es,Mine w B w.heap.size e.a e.c e.ls
 apart:(es.map El.a).Pairwise (fun x y=>∀ k,rowOf x k→¬rowOf y k)
section
variable {w w' : World} {B : Nat} {es : List El}
theorem Deep.nil (w:World) (B:Nat):Deep w B []:=⟨by simp,by simp⟩
theorem Mine.rowE {a:Option Addr} {U c k:Nat} {zs:List Int} (h:Mine w B U a c zs) (hr:rowOf a k):B≤k∧k<U:=by
 obtain ⟨x,hx,rfl⟩:=hr
 rcases h with ⟨h',_⟩ | ⟨g,h',g1,g2,_⟩
 ·rw [h'] at hx;cases hx
 ·rw [h'] at hx
  simp at hx
  rw [←hx]
  exact ⟨g1,g2⟩
theorem Mine.stay {S:Nat→Prop} {a:Option Addr} {U c:Nat} {zs:List Int} (h:Mine w B U a c zs) (ho:Only S w w') (hs:∀ k,rowOf a k→¬S k):Mine w' B U a c zs:=by
 rcases h with h | ⟨g,rfl,h1,h2,h⟩
 ·exact .inl h
 ·exact .inr ⟨g,rfl,h1,h2,h.only ho (hs g ⟨_,rfl,rfl⟩)⟩
theorem Deep.stay {S:Nat→Prop} (h:Deep w B es) (ho:Only S w w') (hs:∀ e ∈ es,∀ k,rowOf e.a k→¬S k):Deep w' B es:=
 ⟨fun e he=>((h.mine e he).stay ho (hs e he)).mono nl ho.size,h.apart⟩
theorem Deep.below (h:Deep w B es) (hb:Below w.heap.size w w'):Deep w' B es:=h.stay (Only.ofBelow (S:=fun _=>False) hb nl) (by simp)
theorem Deep.weak {B':Nat} (h:Deep w B es) (hB:B'≤B):Deep w B' es:=⟨fun e he=>(h.mine e he).mono hB nl,h.apart⟩
theorem Deep.byt (h:Deep w B es):∀ e ∈ es,Byt w e.a e.ls:=fun e he=>(h.mine e he).byt
theorem Deep.snoc {U:Nat} {e:El} (h:Deep w B es) (hm:Mine w U w.heap.size e.a e.c e.ls) (hU:∀ x ∈ es,∀ k,rowOf x.a k→k<U) (hB:B≤U):Deep w B (es++[e]):=by
 refine ⟨?_,?_⟩
 ·intro x hx
  rcases List.mem_append.1 hx with hx | hx
  ·exact h.mine x hx
  ·simp at hx
   subst hx
   exact hm.mono hB nl
 ·rw [List.map_append,List.pairwise_append]
  refine ⟨h.apart,by simp,?_⟩
  intro x hx y hy k hk hk2
  simp at hy
  subst hy
  obtain ⟨z,hz,rfl⟩:=List.mem_map.1 hx
  have h1:=hU z hz k hk
  have h2:=(hm.rowE hk2).1
  omega
end
theorem getD_replE (n k:Nat):(List.replicate n de).getD k de=de:=by
 rw [List.getD_eq_getElem?_getD,List.getElem?_replicate];split <;> rfl
theorem made_secs (n:Nat):(madeCells (Value.slice none 0 0).cells (n*1)).toList=(List.replicate n de).flatMap (El.cells false):=by
 apply List.ext_getElem?
 intro i
 by_cases hi:i<n*1
 ·have e:=eflat_get false (List.replicate n de) i (by simp;omega) 0 (by simp [eW])
  rw [getD_replE] at e
  simp only [eW,cond_false,Nat.mul_one,Nat.add_zero] at e
  rw [e]
  simp only [madeCells,Array.toList_map,Array.toList_range,List.getElem?_map,List.getElem?_range hi,Option.map_some]
  simp [Value.cells,de,El.cells,Nat.mod_one]
 ·rw [List.getElem?_eq_none (by simp [madeCells];omega),List.getElem?_eq_none (by rw [eflat_len];simp [eW];omega)]
theorem made_pens (n:Nat):(madeCells (Value.agg #[.int .i64 0,.slice none 0 0]).cells (n*2)).toList=(List.replicate n de).flatMap (El.cells true):=by
 apply List.ext_getElem?
 intro i
 by_cases hi:i<n*2
 ·have e:=eflat_get true (List.replicate n de) (i / 2) (by simp;omega) (i % 2) (by simp [eW];omega)
  rw [getD_replE] at e
  simp only [eW,cond_true] at e
  rw [show i / 2*2+i % 2=i from by omega] at e
  rw [e]
  simp only [madeCells,Array.toList_map,Array.toList_range,List.getElem?_map,List.getElem?_range hi,Option.map_some]
  have h2:i % 2=0∨i % 2=1:=by omega
  rcases h2 with h2 | h2 <;> simp [Value.cells,de,El.cells,h2]
 ·rw [List.getElem?_eq_none (by simp [madeCells];omega),List.getElem?_eq_none (by rw [eflat_len];simp [eW];omega)]
theorem getD_app_replE (bs:List El) (m i:Nat) (h:bs.length≤i):(bs++List.replicate m de).getD i de=de:=by
 rw [List.getD_eq_getElem?_getD,List.getElem?_append_right h,List.getElem?_replicate];split <;> rfl
theorem set_app_replE (bs:List El) (m k:Nat) (s:El) (h:bs.length=k) (hk:0<m):(bs++List.replicate m de).set k s=(bs++[s])++List.replicate (m-1) de:=by
 rw [List.set_append_right _ _ (by omega),h,Nat.sub_self,show m=(m-1)+1 from by omega,List.replicate_succ,List.set_cons_zero,List.append_assoc]
 rfl
theorem ctE_take_succ (ss:List El) (k:Nat) (h:k<ss.length):(ss.take (k+1)).map El.ct=(ss.take k).map El.ct++[(ss.getD k de).ct]:=by
 rw [List.take_succ_eq_append_getElem h,List.map_append]
 simp [List.getD_eq_getElem?_getD,List.getElem?_eq_getElem h]
theorem rE_snoc {p:Bool} {bs:List El} {e:El} (h:∀ x ∈ bs,rE p x) (he:rE p e):∀ x ∈ bs++[e],rE p x:=by
 intro x hx
 rcases List.mem_append.1 hx with hx | hx
 ·exact h x hx
 ·simp at hx;subst hx;exact he
theorem Deep.lt {w:World} {B:Nat} {es:List El} (h:Deep w B es):∀ x ∈ es,∀ k,rowOf x.a k→k<w.heap.size:=fun x hx k hk=>((h.mine x hx).rowE hk).2
theorem Deep.app {w:World} {B U:Nat} {es fs:List El} (h:Deep w B es) (h2:Deep w U fs) (hU:∀ x ∈ es,∀ k,rowOf x.a k→k<U) (hB:B≤U):Deep w B (es++fs):=by
 refine ⟨?_,?_⟩
 ·intro x hx
  rcases List.mem_append.1 hx with hx | hx
  ·exact h.mine x hx
  ·exact (h2.mine x hx).mono hB nl
 ·rw [List.map_append,List.pairwise_append]
  refine ⟨h.apart,h2.apart,?_⟩
  intro x hx y hy k hk hk2
  obtain ⟨z,hz,rfl⟩:=List.mem_map.1 hx
  obtain ⟨z2,hz2,rfl⟩:=List.mem_map.1 hy
  have h3:=hU z hz k hk
  have h4:=((h2.mine z2 hz2).rowE hk2).1
  omega
def elets :List El→Nat
 | []=>0
 | s :: ss=>s.ls.length+elets ss
theorem elets_app (a b:List El):elets (a++b)=elets a+elets b:=by
 induction a with
 | nil=>simp [elets]
 | cons s a ih=>simp only [List.cons_append,elets,ih];omega
theorem elets_take_succ (ss:List El) (k:Nat) (h:k<ss.length):elets (ss.take (k+1))=elets (ss.take k)+(ss.getD k de).ls.length:=by
 rw [List.take_succ_eq_append_getElem h,elets_app]
 simp [elets,List.getD_eq_getElem?_getD,List.getElem?_eq_getElem h]
theorem elets_take_le (ss:List El) (k:Nat):elets (ss.take k)≤elets ss:=by
 have h1:=elets_app (ss.take k) (ss.drop k)
 rw [List.take_append_drop] at h1
 omega
theorem elets_mem {s:El} {ss:List El} (h:s ∈ ss):s.ls.length≤elets ss:=by
 induction ss with
 | nil=>cases h
 | cons x ss ih=>
  rcases List.mem_cons.1 h with rfl | h
  ·simp only [elets];omega
  ·have:=ih h;simp only [elets];omega
theorem elets_ct (ss ts:List El) (h:ss.map El.ct=ts.map El.ct):elets ss=elets ts:=by
 induction ss generalizing ts with
 | nil=>cases ts with
  | nil=>rfl
  | cons t ts=>simp at h
 | cons s ss ih=>cases ts with
  | nil=>simp at h
  | cons t ts=>
   simp only [List.map_cons,List.cons.injEq] at h
   have h1:s.ls=t.ls:=by have:=congrArg Prod.snd h.1;exact this
   simp only [elets,h1,ih ts h.2]
structure OVt (w:World) (B:Nat) (v:Value) (es:List El):Prop where
 own:w.ownsRow B 113 (eW true) v es.length (es.flatMap (El.cells true))
section
variable {w w' : World} {B : Nat} {v : Value} {es : List El}
theorem OVt.form (h:OVt w B v es):∃ (a:Option Addr) (c:Nat),v=.slice a es.length c:=by
 rcases h.own.2 with ⟨rfl,h0⟩ | ⟨g,cap,cur,rfl,_⟩
 ·exact ⟨none,0,by rw [h0]⟩
 ·exact ⟨_,_,rfl⟩
theorem OVt.blk (h:OVt w B v es) {k:Nat} (hk:v.ownBlock=some k):B≤k∧k<w.heap.size:=by
 rcases h.own.2 with ⟨rfl,h0⟩ | ⟨g,cap,cur,rfl,hg,hh,_⟩
 ·simp [Value.ownBlock] at hk
 ·simp [Value.ownBlock] at hk
  subst hk
  exact ⟨hg,(Array.getElem?_eq_some_iff.1 hh).1⟩
theorem OVt.stay {S:Nat→Prop} (h:OVt w B v es) (ho:Only S w w') (hs:∀ k,v.ownBlock=some k→¬S k):OVt w' B v es:=by
 refine ⟨⟨h.own.1,?_⟩⟩
 rcases h.own.2 with h' | ⟨g,cap,cur,rfl,hg,hh,r⟩
 ·exact .inl h'
 ·exact .inr ⟨g,cap,cur,rfl,hg,(ho.block g (Array.getElem?_eq_some_iff.1 hh).1 (hs g rfl)).trans hh,r⟩
theorem OVt.below (h:OVt w B v es) (hb:Below w.heap.size w w'):OVt w' B v es:=h.stay (Only.ofBelow (S:=fun _=>False) hb nl) (by simp)
theorem OVt.weak {B':Nat} (h:OVt w B v es) (hB:B'≤B):OVt w B' v es:=by
 refine ⟨⟨h.own.1,?_⟩⟩
 rcases h.own.2 with h' | ⟨g,cap,cur,h',hg,r⟩
 ·exact .inl h'
 ·exact .inr ⟨g,cap,cur,h',by omega,r⟩
theorem OVt.cell (h:OVt w B v es) (k:Nat) (hk:k<es.length):∃ g cap,v=.slice (some ⟨g,0,none⟩) es.length cap∧B≤g∧g<w.heap.size∧(∀ i,w.frozen? ⟨g,i,none⟩=false)∧∀ i,i<es.length→LieE true w g (i*eW true) (es.getD i de):=by
 rcases h.own.2 with ⟨_,h0⟩ | ⟨g,cap,cur,rfl,hg,hh,r⟩
 ·omega
 ·refine ⟨g,cap,rfl,hg,(Array.getElem?_eq_some_iff.1 hh).1,fun i=>h.own.frozenAt i,fun i hi=>?_⟩
  have hp:i*eW true+eW true≤es.length*eW true:=by rw [show i*eW true+eW true=(i+1)*eW true from by rw [Nat.add_mul,Nat.one_mul]];exact Nat.mul_le_mul_right _ hi
  refine ⟨fun hp1=>?_,?_⟩
  ·have e0:=eflat_get true es i hi 0 (by simp [eW])
   rw [Nat.add_zero] at e0
   rw [h.own.cellAt (i*eW true) (by simp [eW] at hp ⊢;omega),e0]
   rfl
  ·rw [h.own.cellAt (i*eW true+eO true) (by simp [eW,eO] at hp ⊢;omega),eflat_get true es i hi (eO true) (by simp [eW,eO])]
   rfl
theorem OVt.els {a:Option Addr} {n c:Nat} (h:OVt w B (.slice a n c) es) (hr:∀ e ∈ es,rE true e∧Byt w e.a e.ls):Els true w a es:=by
 refine ⟨hr,fun hz=>?_⟩
 obtain ⟨g,cap,e,h1,h2,_,h4⟩:=h.cell 0 hz
 simp at e
 obtain ⟨rfl,rfl,rfl⟩:=e
 exact ⟨g,0,rfl,h2,fun i hi=>by rw [Nat.zero_add];exact h4 i hi⟩
theorem OVt.store (h:OVt w B v es) (k:Nat) (hk:k<es.length) (e:El) (j:Nat) (hj:j<eW true) (u:Value) (he:((es.getD k de).cells true).set j u=e.cells true) {g:Nat} (hg:v.ownBlock=some g):OVt (w.setCell ⟨g,k*eW true+j,none⟩ u) B v (es.set k e):=by
 obtain ⟨a,c,rfl⟩:=h.form
 have hv:∃ g',a=some ⟨g',0,none⟩:=by
  obtain ⟨g',cap,e,_⟩:=h.cell k hk
  simp at e
  exact ⟨g',e.1⟩
 obtain ⟨g',rfl⟩:=hv
 obtain rfl:g'=g:=by simpa [Value.ownBlock] using hg
 have r:=(h.own.stored (k*eW true+j) u).1
 rw [eflat_set true es e j hj u k hk he] at r
 exact ⟨by rw [List.length_set];exact r⟩
theorem OVt.other (h:OVt w B v es) {a:Option Addr} {B' U c:Nat} {zs:List Int} (hm:Mine w B' U a c zs) {g:Nat} (hg:v.ownBlock=some g):¬rowOf a g:=by
 rintro ⟨x,hx,hxg⟩
 rcases hm with ⟨h',_⟩ | ⟨g',h',g1,g2,ho⟩
 ·rw [h'] at hx;cases hx
 ·rw [h'] at hx
  simp at hx
  rw [←hx] at hxg
  simp at hxg
  subst hxg
  rcases ho.1.2 with ⟨e,_⟩ | ⟨k,cap1,cur1,e,_,hh,_⟩
  ·simp at e
  ·obtain rfl:g'=k:=by simp at e;exact e.1
   rcases h.own.2 with ⟨e2,_⟩ | ⟨k2,cap2,cur2,e2,_,hh2,_⟩
   ·subst e2;simp [Value.ownBlock] at hg
   ·subst e2
    obtain rfl:k2=g':=by simpa [Value.ownBlock] using hg
    rw [hh] at hh2
    simp at hh2
end
theorem Tryz.infoItem :(Tryz.prog.info? 113).map (fun i=>(i.zero,i.size,i.bytes))=some (some (.agg #[.int .i64 0,.slice none 0 0]),2,32):=by kernel_rfl
structure CopT (w:World) (B:Nat) (v:Value) (ts ss:List El):Prop where
 ct:ts.map El.ct=ss.map El.ct
 row:OVt w B v ts
 deep:Deep w B ts
 rng:∀ e ∈ ts,rE true e
theorem CopT.stay {S:Nat→Prop} {w w':World} {B:Nat} {v:Value} {ts ss:List El} (h:CopT w B v ts ss) (ho:Only S w w') (hs:∀ k,B≤k→¬S k):CopT w' B v ts ss:=
 ⟨h.ct,h.row.stay ho (fun k hk=>hs k (h.row.blk hk).1),h.deep.stay ho (fun e he k hk=>hs k ((h.deep.mine e he).rowE hk).1),h.rng⟩
theorem CopT.weak {w:World} {B B':Nat} {v:Value} {ts ss:List El} (h:CopT w B v ts ss) (hB:B'≤B):CopT w B' v ts ss:=⟨h.ct,h.row.weak hB,h.deep.weak hB,h.rng⟩
theorem Mine.capM {w:World} {B U:Nat} {a:Option Addr} {c:Nat} {zs:List Int} (h:Mine w B U a c zs):zs.length≤c:=by
 rcases h with ⟨-,rfl,rfl⟩ | ⟨g,-,-,-,h⟩
 ·simp
 ·rcases h.1.2 with ⟨e,_⟩ | ⟨g',cap',cur,e,-,-,r,-⟩
  ·simp at e
  ·simp at e
   omega
structure ItI (w:World) (a:Option Addr) (es:List El):Prop where
 els:Els true w a es
 cap:∀ e ∈ es,e.ls.length≤e.c
theorem ItI.below {w w':World} {a:Option Addr} {es:List El} {B:Nat} (h:ItI w a es) (hb:Below B w w') (hB:w.heap.size≤B):ItI w' a es:=⟨h.els.below hb hB,h.cap⟩
theorem CopT.its {w:World} {B n c:Nat} {a:Option Addr} {ts ss:List El} (h:CopT w B (.slice a n c) ts ss):ItI w a ts:=
 ⟨h.row.els (fun e he=>⟨h.rng e he,h.deep.byt e he⟩),fun e he=>(h.deep.mine e he).capM⟩
structure Box3 (W:World) (b:Nat) (x y z:Value):Prop where
 c0:W.cell? ⟨b,0,none⟩=some x
 c1:W.cell? ⟨b,1,none⟩=some y
 c2:W.cell? ⟨b,2,none⟩=some z
 f0:W.frozen? ⟨b,0,none⟩=false
 f1:W.frozen? ⟨b,1,none⟩=false
 f2:W.frozen? ⟨b,2,none⟩=false
 lt:b<W.heap.size
theorem Box3.new (w:World) (x y z:Value) (T:TypeId):Box3 (w.alloc (Obj.cells #[x,y,z] T)) w.heap.size x y z:=⟨by simp,by simp,by simp,by simp,by simp,by simp,by simp⟩
theorem Box3.keep {W W':World} {b B:Nat} {x y z:Value} (h:Box3 W b x y z) (hb:Below B W W') (hB:b<B):Box3 W' b x y z:=
 ⟨kp hb hB h.c0,kp hb hB h.c1,kp hb hB h.c2,(hb.frozen (p:=⟨b,0,none⟩) hB).trans h.f0,(hb.frozen (p:=⟨b,1,none⟩) hB).trans h.f1,(hb.frozen (p:=⟨b,2,none⟩) hB).trans h.f2,Nat.lt_of_lt_of_le h.lt hb.size⟩
theorem Box3.step {W W':World} {b:Nat} {x y z:Value} (h:Box3 W b x y z) (hb:Below W.heap.size W W'):Box3 W' b x y z:=h.keep hb h.lt
structure FewI (es:List El):Prop where
 n:es.length≤1048576
 l:∀ s ∈ es,s.ls.length≤1048576
 sum:es.length+elets es≤1048576
theorem FewI.mk' {es:List El} (h:es.length+elets es≤1048576):FewI es:=⟨by omega,fun s hs=>by have:=elets_mem hs;omega,h⟩
theorem eqByteS_any (a b:Option Addr) (ca cb:Nat) (xs ys:List Int) (w:World) (ha:Byt w a xs) (hb:Byt w b ys) (hx:xs.length≤281474976710656) (hy:ys.length≤281474976710656) :
  Calls Tryz.prog 14 #[.slice a xs.length ca,.slice b ys.length cb] w fun e w'=>e=.returned (.bool (decide (xs=ys)))∧∃ n,w'=w.drewN n:=by
 by_cases hl:xs.length=ys.length
 ·generalize hlx:xs.length=n at *
  have HX:Hid (xs.length=n):=hlx
  have HY:Hid (ys.length=n):=hl.symm
  rw [←hl]
  have hnn:((n:Int) != (n:Int))=false:=by simp
  clear hlx hl hy
  go_enter Tryz.func14,Tryz.ntmps14
  go_wp2
  go_loopw [5] (fun i wr=>∃ k m:Nat,k≤n∧i=.int .i64 k∧wr=w.drewN m∧xs.take k=ys.take k) (fun i _=>n-(intOf i).toNat)
  case atStart=>exact ⟨0,0,Nat.zero_le _,rfl,rfl,by simp⟩
  case round=>
   obtain ⟨k,m,hk,rfl,rfl,htk⟩:=hrel
   have HT:Hid (xs.take k=ys.take k):=htk
   clear htk
   by_cases hlt:k<n
   ·obtain ⟨b1,o1,rfl,hb1,hc1⟩:=ha.len_pos k (by rw [HX.out];exact hlt)
    obtain ⟨b2,o2,rfl,hb2,hc2⟩:=hb.len_pos k (by rw [HY.out];exact hlt)
    have hs1:=hc1 k (by rw [HX.out];exact hlt)
    have hs2:=hc2 k (by rw [HY.out];exact hlt)
    have g1:=getD_rng ha.1 k
    have g2:=getD_rng hb.1 k
    clear hc1 hc2 ha hb
    generalize hx1:xs.getD k 0=x1 at *
    generalize hy1:ys.getD k 0=y1 at *
    have HX1:Hid (xs.getD k 0=x1):=hx1
    have HY1:Hid (ys.getD k 0=y1):=hy1
    clear hx1 hy1
    by_cases hxy:x1=y1
    ·subst hxy
     have hq:(x1 != x1)=false:=by simp
     have HT':Hid (xs.take (k+1)=ys.take (k+1)):=take_eq_succ HT.out (by rw [HX.out];exact hlt) (by rw [HY.out];exact hlt) (by rw [HX1.out,HY1.out])
     go_wp2
     go_quiet (fail)
     go_wp2
     go_roundw
     case rel=>exact ⟨k+1,_,by omega,by go_num,rfl,HT'.out⟩
     case measure=>simp [intOf];omega
    ·have hq:(x1 != y1)=true:=by rw [bne_iff_ne];exact hxy
     have HN:Hid (decide (xs=ys)=false):=by
      have:xs≠ys:=ne_of_getD (k:=k) (by rw [HX1.out,HY1.out];exact hxy)
      simpa [Hid] using this
     clear hxy
     go_wp2
     go_quiet (fail)
     go_wp2
     go_ret
     exact ⟨by rw [HN.out];rfl,_,World.drewN_drewN ..⟩
   ·have HE:Hid (decide (xs=ys)=true):=by
     have h1:=HT.out
     rw [List.take_of_length_le (by rw [HX.out];omega),List.take_of_length_le (by rw [HY.out];omega)] at h1
     simpa [Hid] using h1
    go_wp2
    go_ret
    exact ⟨by rw [HE.out];rfl,_,rfl⟩
 ·have hne:decide (xs=ys)=false:=by simp;intro h;exact hl (by rw [h])
  have hl':((xs.length:Int) != (ys.length:Int))=true:=by rw [bne_iff_ne];omega
  rw [hne]
  go_enter Tryz.func14,Tryz.ntmps14
  go_wp2
  go_ret
  exact ⟨rfl,0,rfl⟩
theorem eqByteS_yes (a b:Option Addr) (ca cb:Nat) (xs:List Int) (w:World) (ha:Byt w a xs) (hb:Byt w b xs) (hx:xs.length≤281474976710656) :
  Calls Tryz.prog 14 #[.slice a xs.length ca,.slice b xs.length cb] w fun e w'=>e=.returned (.bool true)∧∃ n,w'=w.drewN n:=by
 refine (eqByteS_any a b ca cb xs xs w ha hb hx hx).mono ?_
 rintro e w' ⟨rfl,h⟩
 exact ⟨by simp,h⟩
theorem below_dI {w W:World} {B:Nat} (h:Below B w W) (n:Nat):Below B w (W.drewN n):=⟨h.os,h.tape,h.output,h.size,h.block⟩
theorem eqItem_yes (a b:Option Addr) (ca cb:Nat) (xs:List Int) (n:Int) (w:World) (ha:Byt w a xs) (hb:Byt w b xs) (hx:xs.length≤281474976710656) :
  Calls Tryz.prog 144 #[.agg #[.int .i64 n,.slice a xs.length ca],.agg #[.int .i64 n,.slice b xs.length cb]] w fun e w'=>e=.returned (.bool true)∧Below w.heap.size w w':=by
 have hw:Below w.heap.size w ((w.alloc (Obj.cells #[.int .i64 n,.slice a xs.length ca] 113)).alloc (Obj.cells #[.int .i64 n,.slice b xs.length cb] 113)):=((Below.refl _ _).alloc nl _).alloc (by simp) _
 have hnn:(n != n)=false:=by simp
 go_enter Tryz.func144,Tryz.ntmps144
 go_wp2_with fail
 refine (eqByteS_yes a b ca cb xs _ (ha.below hw nl) (hb.below hw nl) hx).mono ?_
 rintro e w1 ⟨rfl,nq,rfl⟩
 go_wp2
 go_ret
 exact ⟨rfl,below_dI hw _⟩
theorem eqItemS_yes (a b:Option Addr) (ca cb:Nat) (ss ts:List El) (w:World) (ha:Els true w a ss) (hb:Els true w b ts) (hct:ss.map El.ct=ts.map El.ct) (hx:ss.length≤281474976710656) (hxl:∀ s ∈ ss,s.ls.length≤281474976710656) :
  Calls Tryz.prog 100 #[.slice a ss.length ca,.slice b ss.length cb] w fun e w'=>e=.returned (.bool true)∧Below w.heap.size w w':=by
 have htl:ts.length=ss.length:=by have:=congrArg List.length hct;simpa using this.symm
 have HA:Hid (Els true w a ss):=ha
 have HB:Hid (Els true w b ts):=hb
 have HCT:Hid (ss.map El.ct=ts.map El.ct∧ts.length=ss.length):=⟨hct,htl⟩
 have HXL:Hid (∀ s ∈ ss,s.ls.length≤281474976710656):=hxl
 clear ha hb hct htl hxl
 generalize hlen:ss.length=n at *
 have HL:Hid (ss.length=n∧True):=⟨hlen,trivial⟩
 clear hlen
 have hnn:((n:Int) != (n:Int))=false:=by simp
 go_enter Tryz.func100,Tryz.ntmps100
 go_wp2
 go_loopw [5] (fun i wr=>∃ k:Nat,k≤n∧i=.int .i64 k∧Below w.heap.size w wr) (fun i _=>n-(intOf i).toNat)
 case atStart=>exact ⟨0,Nat.zero_le _,rfl,Below.refl _ _⟩
 case round=>
  obtain ⟨k,hk,rfl,hbel⟩:=hrel
  by_cases hlt:k<n
  ·obtain ⟨b1,o1,rfl,hb1,c0,c1,hy1,-⟩:=(HA.out.below hbel nl).pen k (by rw [HL.out.1];exact hlt)
   obtain ⟨b2,o2,rfl,hb2,d0,d1,hy2,-⟩:=(HB.out.below hbel nl).pen k (by rw [HCT.out.2];exact hlt)
   have hml:=HXL.out _ (getD_memE (k:=k) (by rw [HL.out.1];exact hlt))
   have hce:=ctE_get HCT.out.1 k
   generalize ss.getD k de=s at *
   generalize ts.getD k de=t at *
   obtain ⟨sn,sa,sc,sl⟩:=s
   obtain ⟨tn,ta,tc,tl⟩:=t
   simp only [El.ct,Prod.mk.injEq] at hce
   obtain ⟨rfl,rfl⟩:=hce
   simp only at c0 c1 d0 d1 hy1 hy2 hml
   have HY1:Hid (Byt wr sa sl):=hy1
   have HY2:Hid (Byt wr ta sl):=hy2
   have HML:Hid (sl.length≤281474976710656):=hml
   have HC:Hid (wr.cell? ⟨b1,o1+k*2,none⟩=some (.int .i64 sn)∧wr.cell? ⟨b1,o1+k*2+1,none⟩=some (.slice sa sl.length sc)∧wr.cell? ⟨b2,o2+k*2,none⟩=some (.int .i64 sn)∧wr.cell? ⟨b2,o2+k*2+1,none⟩=some (.slice ta sl.length tc)):=⟨c0,c1,d0,d1⟩
   clear hy1 hy2 hml c0 c1 d0 d1
   go_wp2_with fail
   go_region_held3 (fun W=>W.cell? ⟨b1,o1+k*2,none⟩=some (.int .i64 sn)∧W.cell? ⟨b1,o1+k*2+1,none⟩=some (.slice sa sl.length sc)∧W.cell? ⟨b2,o2+k*2,none⟩=some (.int .i64 sn)∧W.cell? ⟨b2,o2+k*2+1,none⟩=some (.slice ta sl.length tc))
    (first | exact HC.out | exact HC8.out)
    (first
     | (go_at_call 144;refine (eqItem_yes sa ta sc tc sl sn _ (by exact HY1.out) (by exact HY2.out) HML.out).mono ?_;rintro e w8 ⟨rfl,hb8'⟩;have HB8:Hid (Below w.heap.size w w8):=hbel.trans ((Below.drewS hb8').mono hbel.size);have HC8:Hid (w8.cell? ⟨b1,o1+k*2,none⟩=some (.int .i64 sn)∧w8.cell? ⟨b1,o1+k*2+1,none⟩=some (.slice sa sl.length sc)∧w8.cell? ⟨b2,o2+k*2,none⟩=some (.int .i64 sn)∧w8.cell? ⟨b2,o2+k*2+1,none⟩=some (.slice ta sl.length tc)):=⟨keep (Below.drewS hb8') hb1 HC.out.1,keep (Below.drewS hb8') hb1 HC.out.2.1,keep (Below.drewS hb8') hb2 HC.out.2.2.1,keep (Below.drewS hb8') hb2 HC.out.2.2.2⟩;clear hb8'))
   clear HC HC8
   go_wp2
   go_roundw
   case rel=>exact ⟨k+1,by omega,by go_num,HB8.out⟩
   case measure=>simp [intOf];omega
  ·have hkn:k=n:=by omega
   subst hkn
   go_wp2
   go_ret
   exact ⟨rfl,hbel⟩
theorem eqPack_yes (E O:Int) (a b:Option Addr) (ca cb:Nat) (ss ts:List El) (w:World) (ha:Els true w a ss) (hb:Els true w b ts) (hct:ss.map El.ct=ts.map El.ct) (hx:FewI ss) :
  Calls Tryz.prog 57 #[.agg #[.int .i64 E,.int .i64 O,.slice a ss.length ca],.agg #[.int .i64 E,.int .i64 O,.slice b ss.length cb]] w fun e w'=>e=.returned (.bool true)∧Below w.heap.size w w':=by
 have hw:Below w.heap.size w ((w.alloc (Obj.cells #[.int .i64 E,.int .i64 O,.slice a ss.length ca] 47)).alloc (Obj.cells #[.int .i64 E,.int .i64 O,.slice b ss.length cb] 47)):=((Below.refl _ _).alloc nl _).alloc (by simp) _
 have HE:=eqItemS_yes a b ca cb ss ts _ (ha.below hw nl) (hb.below hw nl) hct (by have:=hx.n;omega) (fun s hs=>by have:=hx.l s hs;omega)
 have hE:(E != E)=false:=by simp
 have hO:(O != O)=false:=by simp
 clear ha hb hct hx
 go_enter Tryz.func57,Tryz.ntmps57
 go_wp2_with fail
 refine HE.mono ?_
 clear HE
 rintro e w1 ⟨rfl,hb1⟩
 have HB1:Hid (Below w.heap.size w w1):=hw.trans (hb1.mono (by simp;omega))
 clear hw hb1
 go_wp2
 go_ret
 exact ⟨rfl,HB1.out⟩
def Ins (w:World) (a:Option Addr) (zs:List Int):Prop:=
 (∀ z ∈ zs,-9223372036854775808≤z∧z≤9223372036854775807)∧(0<zs.length→∃ b off,a=some ⟨b,off,none⟩∧b<w.heap.size∧∀ i,i<zs.length→w.cell? ⟨b,off+i,none⟩=some (.int .i64 (zs.getD i 0)))
def OwI (w:World) (B g cap:Nat) (zs:List Int):Prop:=
 w.ownsRow B 3 1 (.slice (some ⟨g,0,none⟩) zs.length cap) zs.length (zs.map (Value.int .i64))∧∀ z ∈ zs,-9223372036854775808≤z∧z≤9223372036854775807
theorem OwI.lt {w:World} {B g cap:Nat} {zs:List Int} (h:OwI w B g cap zs):B≤g∧g<w.heap.size:=h.1.lt g rfl
theorem OwI.cell {w:World} {B g cap:Nat} {zs:List Int} (h:OwI w B g cap zs) (i:Nat) (hi:i<zs.length):w.cell? ⟨g,i,none⟩=some (.int .i64 (zs.getD i 0)):=by
 rw [h.1.cellAt i (by omega)]
 simp [List.getElem?_eq_getElem hi]
theorem OwI.byt {w:World} {B g cap:Nat} {zs:List Int} (h:OwI w B g cap zs):Ins w (some ⟨g,0,none⟩) zs:=
 ⟨h.2,fun _=>⟨g,0,rfl,h.lt.2,fun i hi=>by rw [Nat.zero_add];exact h.cell i hi⟩⟩
theorem Ins.below {w w':World} {a:Option Addr} {zs:List Int} {B:Nat} (h:Ins w a zs) (hb:Below B w w') (hB:w.heap.size≤B):Ins w' a zs:=by
 refine ⟨h.1,fun hz=>?_⟩
 obtain ⟨b,off,rfl,hlt,hc⟩:=h.2 hz
 refine ⟨b,off,rfl,Nat.lt_of_lt_of_le hlt hb.size,fun i hi=>?_⟩
 rw [hb.cell (p:=⟨b,off+i,none⟩) (Nat.lt_of_lt_of_le hlt hB)]
 exact hc i hi
theorem OwI.below {w w':World} {B B' g cap:Nat} {zs:List Int} (h:OwI w B g cap zs) (hb:Below B' w w') (hB:w.heap.size≤B'):OwI w' B g cap zs:=by
 refine ⟨⟨h.1.1,?_⟩,h.2⟩
 rcases h.1.2 with ⟨h',_⟩ | ⟨g',cap',cur,h',hg,hh,r⟩
 ·simp at h'
 ·refine .inr ⟨g',cap',cur,h',hg,?_,r⟩
  rw [hb.block g' (by have:=(Array.getElem?_eq_some_iff.1 hh).1;omega)]
  exact hh
theorem OwI.mono {w:World} {B B' g cap:Nat} {zs:List Int} (h:OwI w B g cap zs) (hB:B'≤B):OwI w B' g cap zs:=by
 refine ⟨⟨h.1.1,?_⟩,h.2⟩
 rcases h.1.2 with ⟨h',_⟩ | ⟨g',cap',cur,h',hg,r⟩
 ·simp at h'
 ·exact .inr ⟨g',cap',cur,h',by omega,r⟩
theorem Ins.len_pos {w:World} {a:Option Addr} {zs:List Int} (h:Ins w a zs) (i:Nat) (hi:i<zs.length):∃ b off,a=some ⟨b,off,none⟩∧b<w.heap.size∧∀ i,i<zs.length→w.cell? ⟨b,off+i,none⟩=some (.int .i64 (zs.getD i 0)):=h.2 (by omega)
theorem getD_rngI {zs:List Int} (h:∀ z ∈ zs,-9223372036854775808≤z∧z≤9223372036854775807) (i:Nat):-9223372036854775808≤zs.getD i 0∧zs.getD i 0≤9223372036854775807:=by
 rw [List.getD_eq_getElem?_getD]
 by_cases hi:i<zs.length
 ·rw [List.getElem?_eq_getElem hi];exact h _ (List.getElem_mem hi)
 ·rw [List.getElem?_eq_none (by omega)];simp
theorem OwI.store {w:World} {B g cap:Nat} {zs:List Int} (h:OwI w B g cap zs) (i:Nat) (z:Int) (hz:-9223372036854775808≤z∧z≤9223372036854775807):OwI (w.setCell ⟨g,i,none⟩ (.int .i64 z)) B g cap (zs.set i z):=by
 have:=(h.1.stored i (.int .i64 z)).1
 refine ⟨?_,?_⟩
 ·simpa [List.map_set] using this
 ·intro y hy
  rcases List.mem_or_eq_of_mem_set hy with hy | rfl
  ·exact h.2 y hy
  ·exact hz
theorem OwI.frozen {w:World} {B g cap:Nat} {zs:List Int} (h:OwI w B g cap zs) (i:Nat):w.frozen? ⟨g,i,none⟩=false:=h.1.frozenAt i
theorem OwI.drewN {w:World} {B g cap:Nat} {zs:List Int} (h:OwI w B g cap zs) (n:Nat):OwI (w.drewN n) B g cap zs:=h
theorem OwI.alloc {w:World} {B g cap:Nat} {zs:List Int} (h:OwI w B g cap zs) (ob:Obj):OwI (w.alloc ob) B g cap zs:=h.below ((Below.refl w.heap.size w).alloc nl ob) nl
end Go.Proofs.YtaibkchbkedjnaaGreatDoor
