/- Lemmas on the way. -/
import Derived.Test.YtaibkchbkedjnaaGreatDoorIParts
import Derived.Test.YtaibkchbkedjnaaGreatDoorPlP
import Derived.Test.YtaibkchbkedjnaaGreatDoorOpen1
import Derived.Maps.AppendAt
import Derived.Test.YtaibkchbkedjnaaGreatDoorUs2
set_option maxRecDepth 20000
set_option maxHeartbeats 16000000
namespace Go.Proofs.YtaibkchbkedjnaaGreatDoor
open Go.RowKit
set_option linter.unusedVariables false
structure Sq where
 a:Option Addr
 c:Nat
 ls:List Int
 n:Int
 d:Int
def Sq.ct (s:Sq):List Int × Int × Int:=(s.ls,s.n,s.d)
def dq :Sq:=⟨none,0,[],0,0⟩
def rI (z:Int):Prop:=-9223372036854775808≤z∧z≤9223372036854775807
def Sq.cells (s:Sq):List Value:=[.slice s.a s.ls.length s.c,.int .i64 s.n,.int .i64 s.d]
structure Lies (w:World) (b o:Nat) (s:Sq):Prop where
 c0:w.cell? ⟨b,o,none⟩=some (.slice s.a s.ls.length s.c)
 c1:w.cell? ⟨b,o+1,none⟩=some (.int .i64 s.n)
 c2:w.cell? ⟨b,o+2,none⟩=some (.int .i64 s.d)
 byt:Byt w s.a s.ls
def Sqs (w:World) (a:Option Addr) (ss:List Sq):Prop:=
 (∀ s ∈ ss,rI s.n∧rI s.d∧s.ls.length≤maxLen)∧(0<ss.length→∃ b off,a=some ⟨b,off,none⟩∧b<w.heap.size∧∀ i,i<ss.length→Lies w b (off+i*3) (ss.getD i dq))
theorem Lies.below {w w':World} {b o:Nat} {s:Sq} {B:Nat} (h:Lies w b o s) (hb:Below B w w') (hB:w.heap.size≤B) (hlt:b<w.heap.size):Lies w' b o s:=
 ⟨keep hb (by omega) h.c0,keep hb (by omega) h.c1,keep hb (by omega) h.c2,h.byt.below hb hB⟩
theorem Sqs.below {w w':World} {a:Option Addr} {ss:List Sq} {B:Nat} (h:Sqs w a ss) (hb:Below B w w') (hB:w.heap.size≤B):Sqs w' a ss:=by
 refine ⟨h.1,fun hz=>?_⟩
 obtain ⟨b,off,rfl,hlt,hc⟩:=h.2 hz
 exact ⟨b,off,rfl,Nat.lt_of_lt_of_le hlt hb.size,fun i hi=>(hc i hi).below hb hB hlt⟩
theorem Sqs.len_pos {w:World} {a:Option Addr} {ss:List Sq} (h:Sqs w a ss) (i:Nat) (hi:i<ss.length):∃ b off,a=some ⟨b,off,none⟩∧b<w.heap.size∧∀ i,i<ss.length→Lies w b (off+i*3) (ss.getD i dq):=h.2 (by omega)
theorem getD_memS {ss:List Sq} {k:Nat} (hk:k<ss.length):ss.getD k dq ∈ ss:=by
 rw [List.getD_eq_getElem?_getD,List.getElem?_eq_getElem hk];exact List.getElem_mem hk
theorem Sqs.rng {w:World} {a:Option Addr} {ss:List Sq} (h:Sqs w a ss) (k:Nat) (hk:k<ss.length):rI (ss.getD k dq).n∧rI (ss.getD k dq).d∧(ss.getD k dq).ls.length≤maxLen:=h.1 _ (getD_memS hk)
theorem flat_get (ss:List Sq):∀ k,k<ss.length→(ss.flatMap Sq.cells)[k*3]?=some (.slice (ss.getD k dq).a (ss.getD k dq).ls.length (ss.getD k dq).c)∧(ss.flatMap Sq.cells)[k*3+1]?=some (.int .i64 (ss.getD k dq).n)∧(ss.flatMap Sq.cells)[k*3+2]?=some (.int .i64 (ss.getD k dq).d):=by
 induction ss with
 | nil=>intro k hk;simp at hk
 | cons s ss ih=>
  intro k hk
  cases k with
  | zero=>simp [List.flatMap_cons,Sq.cells]
  | succ k=>
   have:=ih k (by simpa using hk)
   rw [List.flatMap_cons,show (k+1)*3=k*3+3 from by omega]
   simpa [Sq.cells] using this
structure OwS (w:World) (B g cap:Nat) (ss:List Sq):Prop where
 row:w.ownsRow B 209 3 (.slice (some ⟨g,0,none⟩) ss.length cap) ss.length (ss.flatMap Sq.cells)
 rng:∀ s ∈ ss,rI s.n∧rI s.d∧s.ls.length≤maxLen
 mine:∀ s ∈ ss,Mine w B w.heap.size s.a s.c s.ls
 apart:∀ i j,i<ss.length→j<ss.length→i≠j→∀ k,rowOf (ss.getD i dq).a k→¬rowOf (ss.getD j dq).a k
section
variable {w w' : World} {B g cap : Nat} {ss : List Sq}
theorem Mine.rowB {a:Option Addr} {U c k:Nat} {zs:List Int} (h:Mine w B U a c zs) (hr:rowOf a k):B≤k∧k<U:=by
 obtain ⟨x,hx,rfl⟩:=hr
 rcases h with ⟨h',_⟩ | ⟨g,h',g1,g2,_⟩
 ·rw [h'] at hx;cases hx
 ·rw [h'] at hx
  simp at hx
  rw [←hx]
  exact ⟨g1,g2⟩
end
theorem Tryz.infoSeq :(Tryz.prog.info? 209).map (fun i=>(i.zero,i.size,i.bytes))=some (some (.agg #[.slice none 0 0,.int .i64 0,.int .i64 0]),3,40):=by kernel_rfl
def OVB (w:World) (B:Nat) (v:Value) (zs:List Int):Prop:=w.ownsRow B 5 1 v zs.length (zs.map (Value.int .u8))∧∀ z ∈ zs,0≤z∧z≤255
theorem OVB.nil (w:World) (B:Nat):OVB w B (.slice none 0 0) []:=⟨⟨rfl,.inl ⟨rfl,rfl⟩⟩,by simp⟩
theorem OVB.form {w:World} {B:Nat} {v:Value} {zs:List Int} (h:OVB w B v zs):∃ (a:Option Addr) (c:Nat),v=.slice a zs.length c:=by
 rcases h.1.2 with ⟨rfl,h0⟩ | ⟨g,cap,cur,rfl,_⟩
 ·exact ⟨none,0,by rw [h0]⟩
 ·exact ⟨_,_,rfl⟩
theorem OVB.blk {w:World} {B:Nat} {v:Value} {zs:List Int} (h:OVB w B v zs) {k:Nat} (hk:v.ownBlock=some k):B≤k:=by
 rcases h.1.2 with ⟨rfl,h0⟩ | ⟨g,cap,cur,rfl,hg,_⟩
 ·simp [Value.ownBlock] at hk
 ·simp [Value.ownBlock] at hk
  omega
theorem OVB.mine {w:World} {B:Nat} {v:Value} {zs:List Int} (h:OVB w B v zs):∃ (a:Option Addr) (cp:Nat),v=.slice a zs.length cp∧Mine w B w.heap.size a cp zs:=by
 rcases h.1.2 with ⟨rfl,h0⟩ | ⟨g,cap,cur,rfl,hg,hh,r⟩
 ·exact ⟨none,0,by rw [h0],.inl ⟨rfl,List.eq_nil_of_length_eq_zero h0,rfl⟩⟩
 ·exact ⟨some ⟨g,0,none⟩,cap,rfl,Own.mine (cap:=cap) h⟩
theorem OVB.stay {S:Nat→Prop} {w w':World} {B:Nat} {v:Value} {zs:List Int} (h:OVB w B v zs) (ho:Only S w w') (hs:∀ k,B≤k→¬S k):OVB w' B v zs:=by
 refine ⟨⟨h.1.1,?_⟩,h.2⟩
 rcases h.1.2 with h' | ⟨g,cap,cur,h',hg,hh,r⟩
 ·exact .inl h'
 ·exact .inr ⟨g,cap,cur,h',hg,(ho.block g (Array.getElem?_eq_some_iff.1 hh).1 (hs g hg)).trans hh,r⟩
theorem OVB.weak {w:World} {B B':Nat} {v:Value} {zs:List Int} (h:OVB w B v zs) (hB:B'≤B):OVB w B' v zs:=by
 refine ⟨⟨h.1.1,?_⟩,h.2⟩
 rcases h.1.2 with h' | ⟨g,cap,cur,h',hg,r⟩
 ·exact .inl h'
 ·exact .inr ⟨g,cap,cur,h',by omega,r⟩
theorem OVB.alloc {w:World} {B:Nat} {v:Value} {zs:List Int} (h:OVB w B v zs) (o:Obj):OVB (w.alloc o) B v zs:=⟨h.1.alloc o,h.2⟩
theorem OVB.byt {w:World} {B:Nat} {a:Option Addr} {n c:Nat} {zs:List Int} (h:OVB w B (.slice a n c) zs):Byt w a zs:=by
 obtain ⟨a',c',e,hm⟩:=h.mine
 obtain ⟨rfl,-,-⟩:a=a'∧n=zs.length∧c=c':=by simpa using e
 exact hm.byt
theorem OVB.below {w w':World} {B:Nat} {v:Value} {zs:List Int} (h:OVB w B v zs) (hb:Below w.heap.size w w'):OVB w' B v zs:=h.stay (Only.ofBelow (S:=fun _=>False) hb nl) (by simp)
theorem byt_one (w:World) (z:Int) (hz:0≤z∧z≤255):Byt (w.alloc (.cells #[.int .u8 z] 5)) (some ⟨w.heap.size,0,none⟩) [z]:=by
 refine ⟨by intro y hy;simp at hy;rw [hy];exact hz,fun _=>⟨w.heap.size,0,rfl,by simp,fun i hi=>?_⟩⟩
 obtain rfl:i=0:=by simp at hi;omega
 simp
theorem run_append_none {P:Program} (w:World) (t ty e:TypeId) (i:TypeInfo) (ht:P.underlying t=some (.slice e)) (hi:P.info? e=some i) (base size n:Nat) (v:Value) (xs:List Value) (hown:w.ownsRow base e size v n xs) (c:Nat) :
  (Builtin.append_ #[t,t] ty #[v,.slice none 0 c]).run P w=.ok v w:=by
 rcases hown.2 with ⟨rfl,rfl⟩ | ⟨g,cap,cur,rfl,_,hg,hnc,_⟩
 ·simp [Builtin.append_,run_underlying ht,sizeOf,typeInfo,hi,Builtin.lenOf,Builtin.firstCells]
 ·simp [Builtin.append_,run_underlying ht,sizeOf,typeInfo,hi,Builtin.lenOf,Builtin.firstCells,hnc,storeCells]
theorem wpList_append_byt {ops:Array Oper} {rest:List Oper} {o:Oper} {a:Act} {Q:Exit→Act→World→Prop} {w:World} (hgd:o.guard=none) (s x:Operand)
  (ho:o.op=.call { callee:=.builtin .append,args:=#[s,x],argTypes:=#[36,36] })
  (B:Nat) (v:Value) (zs:List Int) (hs:a.eval s=v) (hown:OVB w B v zs) (xa:Option Addr) (c:Nat) (ys:List Int) (hx:a.eval x=.slice xa ys.length c) (hy:Byt w xa ys) (hb1:zs.length+ys.length≤1000000) (hbase:B≤w.heap.size)
  (h:∀ v' w',OVB w' B v' (zs++ys)→w.grownBy w' v.ownBlock→wpList Tryz.prog ops Q rest (a.put o.dst v') w'):wpList Tryz.prog ops Q (o :: rest) a w:=by
 obtain ⟨i0,hi,hz0,hz1,hz2⟩:=info_parts Tryz.infoU8
 have hr:∀ z ∈ zs++ys,0≤z∧z≤255:=fun z hz=>(List.mem_append.1 hz).elim (hown.2 z) (hy.1 z)
 cases xa with
 | none=>
  have hy0:ys=[]:=by
   rcases Nat.eq_zero_or_pos ys.length with h0 | h0
   ·exact List.eq_nil_of_length_eq_zero h0
   ·obtain ⟨b,off,e,_⟩:=hy.2 h0
    cases e
  subst hy0
  refine wpList_plain hgd fun K hK'=>?_
  have hrun:=run_append_none (P:=Tryz.prog) w 36 o.type 5 i0 Tryz.underlying36 hi B 1 zs.length v _ hown.1 c
  unfold Oper.wp execOp
  simp only [List.length_nil] at hx
  simp only [ho,resolve,invoke,builtin,Sem.run_bind,Sem.run_pure,Result.andThen_ok,List.map_toArray,List.map_cons,List.map_nil,hs,hx,hrun]
  exact hK' _ _ (h v w (by simpa using hown) (World.grownBy.refl w _))
 | some ad=>
  have hnews:∀ j u,(ys.map (Value.int .u8))[j]?=some u→w.cell? (ad.add j)=some u:=by
   intro j u hu
   have hj:j<ys.length:=by
    rcases Nat.lt_or_ge j ys.length with h | h
    ·exact h
    ·rw [List.getElem?_eq_none (by simpa using h)] at hu;cases hu
   obtain ⟨b,off,e,_,hc⟩:=hy.2 (by omega)
   obtain rfl:ad=⟨b,off,none⟩:=by simpa using e
   exact news_of hc j u hu
  refine wpList_append_own w hgd s x 36 ho B 5 i0 (.int .u8 0) 1 1 Tryz.underlying36 hi hz0 hz1 hz2 rfl (by decide) v zs.length _ hs hown.1 ad ys.length c (ys.map (Value.int .u8)) hx (by simp) hnews (oneCells ys) (by unfold maxLen;omega) (by omega) hbase ?_
  intro v' w' h1 h2 _
  refine h v' w' ⟨?_,hr⟩ h2
  rw [List.length_append,List.map_append]
  exact h1
theorem appB_below {w0 wr w1:World} {B:Nat} {v:Value} {zs:List Int} (hbel:Below B w0 wr) (hB:B≤wr.heap.size) (h:OVB wr B v zs) (hg:wr.grownBy w1 v.ownBlock):Below B w0 w1:=
 hbel.grown hg hB (fun k hk=>h.blk hk)
theorem OVB.blk_ne {w:World} {B:Nat} {v:Value} {zs:List Int} (h:OVB w B v zs) {Q:Nat} {cur:Array Value} {T:TypeId} (hQ:w.heap[Q]?=some (.cells cur T (0,0))) (hT:T≠5):some Q≠v.ownBlock:=by
 rcases h.1.2 with ⟨rfl,h0⟩ | ⟨g,cap,cur',rfl,hg,hh,_⟩
 ·simp [Value.ownBlock]
 ·simp only [Value.ownBlock,ne_eq,Option.some.injEq]
  rintro rfl
  rw [hQ] at hh
  simp at hh
  exact hT hh.2
theorem grown_blk {w w':World} {row:Option Nat} (hg:w.grownBy w' row) {Q:Nat} {o:Obj} (hQ:w.heap[Q]?=some o) (hne:some Q≠row):w'.heap[Q]?=some o:=(hg.block Q (Array.getElem?_eq_some_iff.1 hQ).1 hne).trans hQ
theorem blk_cell {w:World} {R j:Nat} {cur:Array Value} {T:TypeId} {v:Value} (hR:w.heap[R]?=some (.cells cur T (0,0))) (hv:cur[j]?=some v):w.cell? ⟨R,j,none⟩=some v:=by
 rw [cell_of_row w R j cur T (0,0) hR];exact hv
structure OVq (w:World) (B:Nat) (v:Value) (ss:List Sq):Prop where
 own:w.ownsRow B 209 3 v ss.length (ss.flatMap Sq.cells)
structure DeepQ (w:World) (B:Nat) (ss:List Sq):Prop where
 mine:∀ s ∈ ss,Mine w B w.heap.size s.a s.c s.ls
 apart:(ss.map Sq.a).Pairwise (fun x y=>∀ k,rowOf x k→¬rowOf y k)
section
variable {w w' : World} {B : Nat} {v : Value} {ss : List Sq}
theorem OVq.nil (w:World) (B:Nat):OVq w B (.slice none 0 0) []:=⟨⟨by simp,.inl ⟨rfl,rfl⟩⟩⟩
theorem OVq.form (h:OVq w B v ss):∃ (a:Option Addr) (c:Nat),v=.slice a ss.length c:=by
 rcases h.own.2 with ⟨rfl,h0⟩ | ⟨g,cap,cur,rfl,_⟩
 ·exact ⟨none,0,by rw [h0]⟩
 ·exact ⟨_,_,rfl⟩
theorem OVq.blk (h:OVq w B v ss) {k:Nat} (hk:v.ownBlock=some k):B≤k∧k<w.heap.size:=by
 rcases h.own.2 with ⟨rfl,h0⟩ | ⟨g,cap,cur,rfl,hg,hh,_⟩
 ·simp [Value.ownBlock] at hk
 ·simp [Value.ownBlock] at hk
  subst hk
  exact ⟨hg,(Array.getElem?_eq_some_iff.1 hh).1⟩
theorem OVq.stay {S:Nat→Prop} (h:OVq w B v ss) (ho:Only S w w') (hs:∀ k,v.ownBlock=some k→¬S k):OVq w' B v ss:=by
 refine ⟨⟨h.own.1,?_⟩⟩
 rcases h.own.2 with h' | ⟨g,cap,cur,rfl,hg,hh,r⟩
 ·exact .inl h'
 ·exact .inr ⟨g,cap,cur,rfl,hg,(ho.block g (Array.getElem?_eq_some_iff.1 hh).1 (hs g rfl)).trans hh,r⟩
theorem OVq.below (h:OVq w B v ss) (hb:Below w.heap.size w w'):OVq w' B v ss:=h.stay (Only.ofBelow (S:=fun _=>False) hb nl) (by simp)
theorem OVq.weak {B':Nat} (h:OVq w B v ss) (hB:B'≤B):OVq w B' v ss:=by
 refine ⟨⟨h.own.1,?_⟩⟩
 rcases h.own.2 with h' | ⟨g,cap,cur,h',hg,r⟩
 ·exact .inl h'
 ·exact .inr ⟨g,cap,cur,h',by omega,r⟩
theorem OVq.sqs {a:Option Addr} {n c:Nat} (h:OVq w B (.slice a n c) ss) (hr:∀ s ∈ ss,(rI s.n∧rI s.d∧s.ls.length≤maxLen)∧Byt w s.a s.ls):Sqs w a ss:=by
 refine ⟨fun s hs=>(hr s hs).1,fun hz=>?_⟩
 rcases h.own.2 with ⟨_,h0⟩ | ⟨g,cap,cur,e,hg,hh,r⟩
 ·omega
 ·simp at e
  obtain ⟨rfl,rfl,rfl⟩:=e
  refine ⟨g,0,rfl,(Array.getElem?_eq_some_iff.1 hh).1,fun i hi=>?_⟩
  obtain ⟨f0,f1,f2⟩:=flat_get ss i hi
  refine ⟨?_,?_,?_,(hr _ (getD_memS hi)).2⟩
  ·rw [Nat.zero_add,h.own.cellAt (i*3) (by omega),f0]
  ·rw [Nat.zero_add,h.own.cellAt (i*3+1) (by omega),f1]
  ·rw [Nat.zero_add,h.own.cellAt (i*3+2) (by omega),f2]
theorem DeepQ.nil (w:World) (B:Nat):DeepQ w B []:=⟨by simp,by simp⟩
theorem Mine.stayQ {S:Nat→Prop} {a:Option Addr} {U c:Nat} {zs:List Int} (h:Mine w B U a c zs) (ho:Only S w w') (hs:∀ k,rowOf a k→¬S k):Mine w' B U a c zs:=by
 rcases h with h | ⟨g,rfl,h1,h2,h⟩
 ·exact .inl h
 ·exact .inr ⟨g,rfl,h1,h2,h.only ho (hs g ⟨_,rfl,rfl⟩)⟩
theorem DeepQ.stay {S:Nat→Prop} (h:DeepQ w B ss) (ho:Only S w w') (hs:∀ s ∈ ss,∀ k,rowOf s.a k→¬S k):DeepQ w' B ss:=
 ⟨fun s hm=>((h.mine s hm).stayQ ho (hs s hm)).mono nl ho.size,h.apart⟩
theorem DeepQ.below (h:DeepQ w B ss) (hb:Below w.heap.size w w'):DeepQ w' B ss:=h.stay (Only.ofBelow (S:=fun _=>False) hb nl) (by simp)
theorem DeepQ.snoc {s:Sq} (h:DeepQ w B ss) (hm:Mine w B w.heap.size s.a s.c s.ls) (hap:∀ x ∈ ss,∀ k,rowOf x.a k→¬rowOf s.a k):DeepQ w B (ss++[s]):=by
 refine ⟨fun x hx=>?_,?_⟩
 ·rcases List.mem_append.1 hx with hx | hx
  ·exact h.mine x hx
  ·obtain rfl:x=s:=by simpa using hx
   exact hm
 ·rw [List.map_append,List.pairwise_append]
  refine ⟨h.apart,by simp,fun x hx y hy=>?_⟩
  obtain ⟨z,hz,rfl⟩:=List.mem_map.1 hx
  obtain rfl:y=s.a:=by simpa using hy
  exact hap z hz
theorem bytes_ne {a:Option Addr} {B' U c:Nat} {zs:List Int} (hm:Mine w B' U a c zs) {Q:Nat} {cur:Array Value} {T:TypeId} (hQ:w.heap[Q]?=some (.cells cur T (0,0))) (hT:T≠5):¬rowOf a Q:=by
 rintro ⟨x,hx,hxg⟩
 rcases hm with ⟨h',_⟩ | ⟨g',h',g1,g2,ho⟩
 ·rw [h'] at hx;cases hx
 ·rw [h'] at hx
  simp at hx
  rw [←hx] at hxg
  simp at hxg
  subst hxg
  rcases ho.1.2 with ⟨e,_⟩ | ⟨k,cap1,cur1,e,_,hh,_⟩
  ·simp at e
  ·obtain rfl:g'=k:=by simp at e;exact e.1
   rw [hQ] at hh
   simp at hh
   exact hT hh.2
theorem OVq.other (h:OVq w B v ss) {a:Option Addr} {B' U c:Nat} {zs:List Int} (hm:Mine w B' U a c zs) {g:Nat} (hg:v.ownBlock=some g):¬rowOf a g:=by
 rcases h.own.2 with ⟨e2,_⟩ | ⟨k2,cap2,cur2,e2,_,hh2,_⟩
 ·subst e2;simp [Value.ownBlock] at hg
 ·subst e2
  obtain rfl:k2=g:=by simpa [Value.ownBlock] using hg
  exact bytes_ne hm hh2 (by decide)
theorem Only.ofGrownQ {row:Option Nat} (hg:w.grownBy w' row):Only (fun k=>row=some k) w w':=(Only.refl (fun k=>row=some k) w).grown hg (fun k hk=>.inl hk)
theorem DeepQ.grown {ts:List Sq} (hd:DeepQ w B ts) (h:OVq w B v ss) (hg:w.grownBy w' v.ownBlock):DeepQ w' B ts:=
 hd.stay (Only.ofGrownQ hg) (fun x hx k hk e=>h.other (hd.mine x hx) e hk)
theorem DeepQ.byt (h:DeepQ w B ss) {s:Sq} (hs:s ∈ ss):Byt w s.a s.ls:=(h.mine s hs).byt
end
theorem oneCellQ (s:Sq):∀ u ∈ s.cells,u.oneCell'=true:=by
 intro u hu
 simp [Sq.cells] at hu
 rcases hu with rfl | rfl | rfl <;> rfl
theorem newsQ (w:World) (a:Option Addr) (L c:Nat) (n d:Int) (T:TypeId) (s:Sq) (h1:s.a=a) (h2:s.ls.length=L) (h3:s.c=c) (h4:s.n=n) (h5:s.d=d):∀ j u,s.cells[j]?=some u→(w.alloc (Obj.cells #[.slice a L c,.int .i64 n,.int .i64 d] T)).cell? ⟨w.heap.size,j,none⟩=some u:=by
 intro j u hu
 subst h1 h2 h3 h4 h5
 match j with
 | 0=>simp [Sq.cells] at hu;simp [hu]
 | 1=>simp [Sq.cells] at hu;simp [hu]
 | 2=>simp [Sq.cells] at hu;simp [hu]
 | j+3=>simp [Sq.cells] at hu
theorem wpList_append_sq {ops:Array Oper} {rest:List Oper} {o:Oper} {a:Act} {Q:Exit→Act→World→Prop} {w:World} (hgd:o.guard=none) (s x:Operand)
  (ho:o.op=.call { callee:=.builtin .append,args:=#[s,x],argTypes:=#[160,160] })
  (B:Nat) (v:Value) (ss:List Sq) (hs:a.eval s=v) (hown:OVq w B v ss) (X c:Nat) (e:Sq) (hx:a.eval x=.slice (some ⟨X,0,none⟩) 1 c) (hX:∀ j u,e.cells[j]?=some u→w.cell? ⟨X,j,none⟩=some u) (hb1:ss.length≤1000000) (hbase:B≤w.heap.size)
  (h:∀ v' w',OVq w' B v' (ss++[e])→w.grownBy w' v.ownBlock→wpList Tryz.prog ops Q rest (a.put o.dst v') w'):wpList Tryz.prog ops Q (o :: rest) a w:=by
 obtain ⟨i0,hi,hz0,hz1,hz2⟩:=info_parts Tryz.infoSeq
 obtain ⟨v',w',hr,h2,h3,_,_⟩:=run_append_own_at (P:=Tryz.prog) w B 160 o.type 209 i0 (.agg #[.slice none 0 0,.int .i64 0,.int .i64 0]) 3 40 Tryz.underlying160 hi hz0 hz1 hz2 rfl (by decide) v ss.length _ hown.own ⟨X,0,none⟩ 1 c e.cells rfl (fun j u hu=>by rw [show (⟨X,0,none⟩:Addr).add j=⟨X,j,none⟩ from by unfold Addr.add;split <;> simp_all];exact hX j u hu) (oneCellQ e) (by unfold maxLen;omega) (by omega) hbase
 refine wpList_plain hgd fun K hK'=>?_
 unfold Oper.wp execOp
 simp only [ho,resolve,invoke,builtin,Sem.run_bind,Sem.run_pure,Result.andThen_ok,List.map_toArray,List.map_cons,List.map_nil,hs,hx,hr]
 refine hK' _ _ (h v' w' ⟨?_⟩ h3)
 rw [List.length_append,List.flatMap_append]
 simpa using h2
theorem wpList_append_b1 {ops:Array Oper} {rest:List Oper} {o:Oper} {a:Act} {Q:Exit→Act→World→Prop} {w:World} (hgd:o.guard=none) (s x:Operand)
  (ho:o.op=.call { callee:=.builtin .append,args:=#[s,x],argTypes:=#[36,36] })
  (B:Nat) (v:Value) (zs:List Int) (hs:a.eval s=v) (hown:OVB w B v zs) (X c:Nat) (z:Int) (hx:a.eval x=.slice (some ⟨X,0,none⟩) 1 c) (hX:w.cell? ⟨X,0,none⟩=some (.int .u8 z)) (hz:0≤z∧z≤255) (hb1:zs.length≤1000000) (hbase:B≤w.heap.size)
  (h:∀ v' w',OVB w' B v' (zs++[z])→w.grownBy w' v.ownBlock→(v'.ownBlock=v.ownBlock∨v'.ownBlock=some w.heap.size)→wpList Tryz.prog ops Q rest (a.put o.dst v') w'):wpList Tryz.prog ops Q (o :: rest) a w:=by
 obtain ⟨i0,hi,hz0,hz1,hz2⟩:=info_parts Tryz.infoU8
 obtain ⟨v',w',hr,h2,h3,_,h5⟩:=run_append_own_at (P:=Tryz.prog) w B 36 o.type 5 i0 (.int .u8 0) 1 1 Tryz.underlying36 hi hz0 hz1 hz2 rfl (by decide) v zs.length _ hown.1 ⟨X,0,none⟩ 1 c [.int .u8 z] rfl (fun j u hu=>by
  match j,hu with
  | 0,hu=>(simp at hu;subst hu;simpa [Addr.add] using hX)) (by intro u hu;simp at hu;subst hu;rfl) (by unfold maxLen;omega) (by omega) hbase
 refine wpList_plain hgd fun K hK'=>?_
 unfold Oper.wp execOp
 simp only [ho,resolve,invoke,builtin,Sem.run_bind,Sem.run_pure,Result.andThen_ok,List.map_toArray,List.map_cons,List.map_nil,hs,hx,hr]
 refine hK' _ _ (h v' w' ⟨?_,?_⟩ h3 h5)
 ·rw [List.length_append,List.map_append]
  simpa using h2
 ·intro y hy
  rcases List.mem_append.1 hy with hy | hy
  ·exact hown.2 y hy
  ·obtain rfl:y=z:=by simpa using hy
   exact hz
set_option linter.unusedSimpArgs false
def lenAt (Q:Nat) (w:World):Nat:=match w.cell? ⟨Q,0,none⟩ with | some v=>lenS v | none=>0
theorem SR.lenAt {w0 w:World} {B Q R:Nat} {rest:List Int} (h:SR w0 w B Q R rest):lenAt Q w=rest.length:=by
 obtain ⟨la,lc,h1,_⟩:=h
 unfold Go.Proofs.YtaibkchbkedjnaaGreatDoor.lenAt
 rw [cellRR (j:=0) h1 rfl]
 rfl
def BxS (w:World) (X:Nat) (v:Value) (n d:Int):Prop:=w.heap[X]?=some (.cells #[v,.int .i64 n,.int .i64 d] 209 (0,0))
theorem BxS.only {S:Nat→Prop} {w w':World} {X:Nat} {v:Value} {n d:Int} (h:BxS w X v n d) (ho:Only S w w') (hs:¬S X):BxS w' X v n d:=(ho.block X (Array.getElem?_eq_some_iff.1 h).1 hs).trans h
theorem BxS.c0 {w:World} {X:Nat} {v:Value} {n d:Int} (h:BxS w X v n d):w.cell? ⟨X,0,none⟩=some v:=cellRR (j:=0) h rfl
theorem BxS.c1 {w:World} {X:Nat} {v:Value} {n d:Int} (h:BxS w X v n d):w.cell? ⟨X,1,none⟩=some (.int .i64 n):=cellRR (j:=1) h rfl
theorem BxS.c2 {w:World} {X:Nat} {v:Value} {n d:Int} (h:BxS w X v n d):w.cell? ⟨X,2,none⟩=some (.int .i64 d):=cellRR (j:=2) h rfl
theorem BxS.fz {w:World} {X:Nat} {v:Value} {n d:Int} (h:BxS w X v n d) (j:Nat):w.frozen? ⟨X,j,none⟩=false:=frozen_of_row w X j _ _ h
theorem BxS.lt {w:World} {X:Nat} {v:Value} {n d:Int} (h:BxS w X v n d):X<w.heap.size:=(Array.getElem?_eq_some_iff.1 h).1
theorem BxS.set0 {w:World} {X:Nat} {v:Value} {n d:Int} (h:BxS w X v n d) (u:Value):BxS (w.setCell ⟨X,0,none⟩ u) X u n d:=by
 unfold BxS
 rw [heap_setCell_same _ X 0 _ _ _ h]
 simp
theorem BxS.set1 {w:World} {X:Nat} {v:Value} {n d:Int} (h:BxS w X v n d) (u:Int):BxS (w.setCell ⟨X,1,none⟩ (.int .i64 u)) X v u d:=by
 unfold BxS
 rw [heap_setCell_same _ X 1 _ _ _ h]
 simp
theorem BxS.set2 {w:World} {X:Nat} {v:Value} {n d:Int} (h:BxS w X v n d) (u:Int):BxS (w.setCell ⟨X,2,none⟩ (.int .i64 u)) X v n u:=by
 unfold BxS
 rw [heap_setCell_same _ X 2 _ _ _ h]
 simp
theorem set_only (w:World) (X j:Nat) (v:Value):Only (fun b=>b=X) w (w.setCell ⟨X,j,none⟩ v):=Only.setCell (Only.refl (fun b=>b=X) w) (p:=⟨X,j,none⟩) (.inl rfl) _
theorem OVB.notBox {w:World} {B:Nat} {v:Value} {zs:List Int} (h:OVB w B v zs) {X:Nat} {u:Value} {n d:Int} (hx:BxS w X u n d):∀ k,v.ownBlock=some k→¬k=X:=by
 rintro k hk rfl
 exact h.blk_ne hx (by decide) hk.symm
theorem OVB.stayK {S:Nat→Prop} {w w':World} {B:Nat} {v:Value} {zs:List Int} (h:OVB w B v zs) (ho:Only S w w') (hs:∀ k,v.ownBlock=some k→¬S k):OVB w' B v zs:=by
 refine ⟨⟨h.1.1,?_⟩,h.2⟩
 rcases h.1.2 with h' | ⟨g,cap,cur,h',hg,hh,r⟩
 ·exact .inl h'
 ·exact .inr ⟨g,cap,cur,h',hg,(ho.block g (Array.getElem?_eq_some_iff.1 hh).1 (hs g (by rw [h'];rfl))).trans hh,r⟩
structure SqSt (w0 w wr:World) (B Q R:Nat) (x:Option Addr) (L cx N V p:Nat) (rest rest':List Int) (p':Nat) (lv:Value) (ls:List Int) (n1 d1:Int):Prop where
 sr:SR w0 wr B Q R rest'
 rd:RD wr B R x L cx N p'
 le:p'≤N
 one:BxS wr (w.heap.size+1) lv n1 d1
 res:BxS wr w.heap.size (.slice none 0 0) 0 0
 ov:OVB wr (w.heap.size+2) lv ls
 on:Only (fun b=>b=Q∨b=R) w wr
 QR:Q<w.heap.size∧R<w.heap.size
 len:ls.length+rest'.length≤rest.length
 bel:Below B w0 wr
def sqR (w0 w w':World) (B Q R:Nat) (x:Option Addr) (L cx N V p:Nat) (rest:List Int) (e:Ending):Prop:=
 (∃ (lv:Value) (ls:List Int) (n d:Int) (rest':List Int) (p':Nat),e=.returned (.tuple #[.agg #[lv,.int .i64 n,.int .i64 d],.nilIface])∧SR w0 w' B Q R rest'∧RD w' B R x L cx N p'∧p'≤N∧OVB w' w.heap.size lv ls∧Only (fun b=>b=Q∨b=R) w w'∧(ls.length+rest'.length≤rest.length∧rest'.length<rest.length)∧(0≤n∧n≤10000∧0≤d∧d≤10000)∧(∀ z ∈ rest',z ∈ rest) ∧
   ∀ out,uqE N (uq N V rest p [] 0 out)=uqE N (uq N V rest' p' [] 0 (out++[(ls,n,d)]))) ∨
 ((∃ (T:TypeId) (y:Value) (sa:Option Addr) (sl sc:Nat) (c d:Int),e=.returned (.tuple #[.agg #[.slice sa sl sc,.int .i64 c,.int .i64 d],.iface T y]))∧(∀ out,uqE N (uq N V rest p [] 0 out)=none)∧Only (fun b=>b=Q∨b=R) w w')
theorem SqSt.app {w0 w wr w4:World} {B Q R:Nat} {x:Option Addr} {L cx N V p:Nat} {rest rest':List Int} {p':Nat} {lv v4:Value} {ls ls4:List Int} (h:SqSt w0 w wr B Q R x L cx N V p rest rest' p' lv ls 0 0) (hB:w0.heap.size=B) (hBw:B≤w.heap.size) (o:Obj) (hov:OVB w4 (w.heap.size+2) v4 ls4) (hg:(wr.alloc o).grownBy w4 lv.ownBlock) (hl:ls4.length+rest'.length≤rest.length) :
  BxS w4 (w.heap.size+1) lv 0 0∧SqSt w0 w (w4.setCell ⟨w.heap.size+1,0,none⟩ v4) B Q R x L cx N V p rest rest' p' v4 ls4 0 0:=by
 have hA:Only (fun _=>False) wr (wr.alloc o):=Only.ofBelow ((Below.refl _ _).alloc nl o) nl
 have hG:=Only.ofGrownQ hg
 have hsz:=h.on.size
 have n1:¬lv.ownBlock=some (w.heap.size+1):=fun e=>h.ov.notBox h.one _ e rfl
 have n2:¬lv.ownBlock=some w.heap.size:=fun e=>h.ov.notBox h.res _ e rfl
 have nQ:¬lv.ownBlock=some Q:=fun e=>by have:=h.ov.blk e;have:=h.QR.1;omega
 have nR:¬lv.ownBlock=some R:=fun e=>by have:=h.ov.blk e;have:=h.QR.2;omega
 have hx4:BxS w4 (w.heap.size+1) lv 0 0:=(h.one.only hA (by simp)).only hG n1
 have hr4:BxS w4 w.heap.size (.slice none 0 0) 0 0:=(h.res.only hA (by simp)).only hG n2
 have hst:=set_only w4 (w.heap.size+1) 0 v4
 refine ⟨hx4,⟨((h.sr.only hA (by simp)).only hG nQ).only hst (by have:=h.QR.1;omega),((h.rd.only hA (by simp)).only hG nR).only hst (by have:=h.QR.2;omega),h.le,hx4.set0 v4,hr4.only hst (by omega),hov.stayK hst (hov.notBox hx4),?_,h.QR,hl,?_⟩⟩
 ·exact ((h.on.alloc o).grown hg (fun k hk=>.inr (by have:=h.ov.blk hk;omega))).setCell (p:=⟨w.heap.size+1,0,none⟩) (.inr (by simp)) _
 ·have hb1:Below B w0 (wr.alloc o):=h.bel.alloc (by have:=h.bel.size;omega) o
  exact (hb1.grown hg (by have:=h.bel.size;simp;omega) (fun k hk=>by have:=h.ov.blk hk;omega)).setCell (p:=⟨w.heap.size+1,0,none⟩) (by simp;omega) _
theorem SqSt.moved {w0 w wr w2:World} {B Q R:Nat} {x:Option Addr} {L cx N V p:Nat} {rest rest' t:List Int} {p' p2:Nat} {lv:Value} {ls:List Int} {n1 d1:Int} (h:SqSt w0 w wr B Q R x L cx N V p rest rest' p' lv ls n1 d1) (hB:w0.heap.size=B) (hBw:B≤w.heap.size) (hs:SR w0 w2 B Q R t) (hr:RD w2 B R x L cx N p2) (ho:Only (fun b=>b=Q∨b=R) wr w2) (hle:p2≤N) (hl:ls.length+t.length≤rest.length) (hQR:B≤Q∧B≤R) :
  SqSt w0 w w2 B Q R x L cx N V p rest t p2 lv ls n1 d1:=by
 have hq:=h.QR
 exact ⟨hs,hr,hle,h.one.only ho (by omega),h.res.only ho (by omega),h.ov.stayK ho (fun k hk=>by have:=h.ov.blk hk;omega),h.on.trans ho,hq,hl,h.bel.trans (ho.below (by have:=h.bel.size;omega) (fun k hk=>by rcases hk with rfl | rfl <;> omega))⟩
theorem SqSt.fin {w0 w wr:World} {B Q R:Nat} {x:Option Addr} {L cx N V p:Nat} {rest rest':List Int} {p':Nat} {lv:Value} {ls:List Int} {n1 d1:Int} (h:SqSt w0 w wr B Q R x L cx N V p rest rest' p' lv ls n1 d1) (v:Value) (n d:Int) (m:Nat) :
  SR w0 ((((wr.drewN m).setCell ⟨w.heap.size,0,none⟩ v).setCell ⟨w.heap.size,1,none⟩ (.int .i64 n)).setCell ⟨w.heap.size,2,none⟩ (.int .i64 d)) B Q R rest'∧RD ((((wr.drewN m).setCell ⟨w.heap.size,0,none⟩ v).setCell ⟨w.heap.size,1,none⟩ (.int .i64 n)).setCell ⟨w.heap.size,2,none⟩ (.int .i64 d)) B R x L cx N p'∧OVB ((((wr.drewN m).setCell ⟨w.heap.size,0,none⟩ v).setCell ⟨w.heap.size,1,none⟩ (.int .i64 n)).setCell ⟨w.heap.size,2,none⟩ (.int .i64 d)) w.heap.size lv ls∧Only (fun b=>b=Q∨b=R) w ((((wr.drewN m).setCell ⟨w.heap.size,0,none⟩ v).setCell ⟨w.heap.size,1,none⟩ (.int .i64 n)).setCell ⟨w.heap.size,2,none⟩ (.int .i64 d)):=by
 have hm:Only (fun b=>b=w.heap.size) wr (wr.drewN m):=⟨rfl,rfl,rfl,Nat.le_refl _,fun _ _ _=>rfl⟩
 have hm2:Only (fun b=>b=Q∨b=R) w (wr.drewN m):=h.on.trans ⟨rfl,rfl,rfl,Nat.le_refl _,fun _ _ _=>rfl⟩
 have ho:Only (fun b=>b=w.heap.size) wr ((((wr.drewN m).setCell ⟨w.heap.size,0,none⟩ v).setCell ⟨w.heap.size,1,none⟩ (.int .i64 n)).setCell ⟨w.heap.size,2,none⟩ (.int .i64 d)):=((hm.setCell (p:=⟨w.heap.size,0,none⟩) (.inl rfl) _).setCell (p:=⟨w.heap.size,1,none⟩) (.inl rfl) _).setCell (p:=⟨w.heap.size,2,none⟩) (.inl rfl) _
 have hq:=h.QR
 refine ⟨h.sr.only ho (by omega),h.rd.only ho (by omega),(h.ov.stayK ho (h.ov.notBox h.res)).weak (by omega),?_⟩
 exact ((hm2.setCell (p:=⟨w.heap.size,0,none⟩) (.inr nl) _).setCell (p:=⟨w.heap.size,1,none⟩) (.inr nl) _).setCell (p:=⟨w.heap.size,2,none⟩) (.inr nl) _
theorem SqSt.setN {w0 w wr:World} {B Q R:Nat} {x:Option Addr} {L cx N V p:Nat} {rest rest':List Int} {p':Nat} {lv:Value} {ls:List Int} {n1 d1:Int} (h:SqSt w0 w wr B Q R x L cx N V p rest rest' p' lv ls n1 d1) (hBw:B≤w.heap.size) (n:Int):SqSt w0 w (wr.setCell ⟨w.heap.size+1,1,none⟩ (.int .i64 n)) B Q R x L cx N V p rest rest' p' lv ls n d1:=by
 have ho:=set_only wr (w.heap.size+1) 1 (.int .i64 n)
 have hq:=h.QR
 exact ⟨h.sr.only ho (by omega),h.rd.only ho (by omega),h.le,h.one.set1 n,h.res.only ho (by omega),h.ov.stayK ho (h.ov.notBox h.one),h.on.setCell (p:=⟨w.heap.size+1,1,none⟩) (.inr (by simp)) _,hq,h.len,h.bel.setCell (p:=⟨w.heap.size+1,1,none⟩) (by simp;omega) _⟩
theorem SqSt.setD {w0 w wr:World} {B Q R:Nat} {x:Option Addr} {L cx N V p:Nat} {rest rest':List Int} {p':Nat} {lv:Value} {ls:List Int} {n1 d1:Int} (h:SqSt w0 w wr B Q R x L cx N V p rest rest' p' lv ls n1 d1) (hBw:B≤w.heap.size) (d:Int):SqSt w0 w (wr.setCell ⟨w.heap.size+1,2,none⟩ (.int .i64 d)) B Q R x L cx N V p rest rest' p' lv ls n1 d:=by
 have ho:=set_only wr (w.heap.size+1) 2 (.int .i64 d)
 have hq:=h.QR
 exact ⟨h.sr.only ho (by omega),h.rd.only ho (by omega),h.le,h.one.set2 d,h.res.only ho (by omega),h.ov.stayK ho (h.ov.notBox h.one),h.on.setCell (p:=⟨w.heap.size+1,2,none⟩) (.inr (by simp)) _,hq,h.len,h.bel.setCell (p:=⟨w.heap.size+1,2,none⟩) (by simp;omega) _⟩
theorem SqSt.drew {w0 w wr:World} {B Q R:Nat} {x:Option Addr} {L cx N V p:Nat} {rest rest':List Int} {p':Nat} {lv:Value} {ls:List Int} {n1 d1:Int} (h:SqSt w0 w wr B Q R x L cx N V p rest rest' p' lv ls n1 d1) (m:Nat):SqSt w0 w (wr.drewN m) B Q R x L cx N V p rest rest' p' lv ls n1 d1:=by
 have ho:Only (fun _=>False) wr (wr.drewN m):=⟨rfl,rfl,rfl,Nat.le_refl _,fun _ _ _=>rfl⟩
 exact ⟨h.sr.only ho (by simp),h.rd.only ho (by simp),h.le,h.one.only ho (by simp),h.res.only ho (by simp),h.ov.stayK ho (by simp),h.on.trans ⟨rfl,rfl,rfl,Nat.le_refl _,fun _ _ _=>rfl⟩,h.QR,h.len,⟨h.bel.os,h.bel.tape,h.bel.output,h.bel.size,h.bel.block⟩⟩
theorem uqE_end (N V p':Nat) (ls:List Int) (out:List (List Int × Int × Int)) (h:ls≠[]):uqE N (uq N V [] p' ls 0 out)=uqE N (uq N V [] p' [] 0 (out++[(ls,0,0)])):=by
 simp [uq,uqE,h]
theorem seq_any (B Q R:Nat) (rest:List Int) (x:Option Addr) (cx:Nat) (zs:List Int) (N V p:Nat) (w0 w:World) (hB:w0.heap.size=B) (hbel:Below B w0 w) (hS:SR w0 w B Q R rest) (hR:RD w B R x zs.length cx N p) (hp:p≤N) (hb:Byt w0 x zs) (hz:zs=enc N V) (hN:N≤4096) (hr:∀ z ∈ rest,0≤z∧z<40) (hl:rest.length≤300) (hne:rest≠[])
  (s0:Sent w0 17) (s1:Sent w0 18) (s2:Sent w0 22) (hG:17<B∧18<B∧22<B) :
  Calls Tryz.prog 216 #[.pointer (some ⟨Q,0,none⟩)] w fun e w'=>sqR w0 w w' B Q R x zs.length cx N V p rest e:=by
 have hBw:B≤w.heap.size:=by have:=hbel.size;omega
 have hQR:Q<w.heap.size∧R<w.heap.size:=⟨by obtain ⟨la,lc,h1,_⟩:=hS;exact (Array.getElem?_eq_some_iff.1 h1).1,(Array.getElem?_eq_some_iff.1 hR.1).1⟩
 have hQB:B≤Q∧B≤R:=⟨by obtain ⟨la,lc,_,_,_,h4⟩:=hS;exact h4,hR.2.1⟩
 have HST:Hid (SqSt w0 w ((w.alloc (Obj.cells #[.slice none 0 0,.int .i64 0,.int .i64 0] 209)).alloc (Obj.cells #[.slice none 0 0,.int .i64 0,.int .i64 0] 209)) B Q R x zs.length cx N V p rest rest p (.slice none 0 0) [] 0 0):=by
  have hA:Below w.heap.size w ((w.alloc (Obj.cells #[.slice none 0 0,.int .i64 0,.int .i64 0] 209)).alloc (Obj.cells #[.slice none 0 0,.int .i64 0,.int .i64 0] 209)):=((Below.refl _ _).alloc nl _).alloc (by simp) _
  have hO:Only (fun b=>b=Q∨b=R) w ((w.alloc (Obj.cells #[.slice none 0 0,.int .i64 0,.int .i64 0] 209)).alloc (Obj.cells #[.slice none 0 0,.int .i64 0,.int .i64 0] 209)):=Only.ofBelow hA nl
  have hF:Only (fun _=>False) w ((w.alloc (Obj.cells #[.slice none 0 0,.int .i64 0,.int .i64 0] 209)).alloc (Obj.cells #[.slice none 0 0,.int .i64 0,.int .i64 0] 209)):=Only.ofBelow hA nl
  refine ⟨hS.only hF (by simp),hR.only hF (by simp),hp,?_,?_,OVB.nil _ _,hO,hQR,by simp,hbel.trans (hA.mono hBw)⟩
  ·have:=heap_alloc_new (w.alloc (Obj.cells #[.slice none 0 0,.int .i64 0,.int .i64 0] 209)) (Obj.cells #[.slice none 0 0,.int .i64 0,.int .i64 0] 209)
   unfold BxS
   simpa using this
  ·have h1:BxS (w.alloc (Obj.cells #[.slice none 0 0,.int .i64 0,.int .i64 0] 209)) w.heap.size (.slice none 0 0) 0 0:=heap_alloc_new w _
   exact h1.only (Only.ofBelow (S:=fun _=>False) ((Below.refl _ _).alloc nl _) nl) (by simp)
 have HE:Hid (Sent w0 17∧Sent w0 18∧Sent w0 22∧w0.heap.size=B∧Byt w0 x zs∧zs=enc N V):=⟨s0,s1,s2,hB,hb,hz⟩
 have HR:Hid (∀ z ∈ rest,0≤z∧z<40):=hr
 have HNE:Hid (rest≠[]):=hne
 have HLE:Hid (rest.length≤300∧True):=⟨hl,trivial⟩
 clear hS hR s0 s1 s2 hb hz hB hbel hr hne hl
 go_enter Tryz.func216,Tryz.ntmps216
 go_wp2
 generalize (w.alloc (Obj.cells #[.slice none 0 0,.int .i64 0,.int .i64 0] 209)).alloc (Obj.cells #[.slice none 0 0,.int .i64 0,.int .i64 0] 209)=W1 at *
 go_loopw [5] (fun _ wr=>∃ (rest':List Int) (p':Nat) (la:Option Addr) (lc:Nat) (ls:List Int),SqSt w0 w wr B Q R x zs.length cx N V p rest rest' p' (.slice la ls.length lc) ls 0 0∧(∀ out,uq N V rest' p' ls 0 out=uq N V rest p [] 0 out)∧(∀ z ∈ rest',z ∈ rest)∧(rest'≠[]∨ls≠[])) (fun _ wr=>lenAt Q wr)
 case atStart=>exact ⟨rest,p,none,0,[],HST.out,fun _=>rfl,fun _ h=>h,.inl HNE.out⟩
 case round=>
  clear HST
  obtain ⟨rest',p',la,lc,ls,hst,hu,hsub,hnn⟩:=hrel
  have HT:Hid (SqSt w0 w wr B Q R x zs.length cx N V p rest rest' p' (.slice la ls.length lc) ls 0 0∧(∀ out,uq N V rest' p' ls 0 out=uq N V rest p [] 0 out)∧(∀ z ∈ rest',z ∈ rest)∧(rest'≠[]∨ls≠[])):=⟨hst,hu,hsub,hnn⟩
  have HLA:Hid (lenAt Q wr=rest'.length∧True):=⟨hst.sr.lenAt,trivial⟩
  have hpN:=hst.le
  have hll:ls.length≤300:=by have:=hst.len;have:=HLE.out.1;omega
  have HC:=atLetter_any B Q R rest' w0 wr HE.out.2.2.2.1 hst.bel hst.sr (fun z hz=>HR.out z (hsub z hz))
  clear hst hu hsub hnn
  cases rest' with
  | nil=>
   simp only [List.length_nil] at HC
   have hdec:decide (0<0∧([]:List Int).getD 0 0<16)=false:=by simp
   rw [hdec] at HC
   clear hdec
   go_wp2_with fail
   refine HC.mono ?_
   clear HC
   rintro e w9 ⟨rfl,hw9⟩
   rw [hw9]
   clear hw9
   obtain ⟨qa,qc,hq1,-⟩:=HT.out.1.sr
   have q0:wr.cell? ⟨Q,0,none⟩=some (.slice qa 0 qc):=cellRR (j:=0) hq1 rfl
   have o0:=HT.out.1.one.c0
   have o1:=HT.out.1.one.c1
   have o2:=HT.out.1.one.c2
   have r0:=HT.out.1.res.c0
   have r1:=HT.out.1.res.c1
   have r2:=HT.out.1.res.c2
   have f0:=HT.out.1.res.fz 0
   have f1:=HT.out.1.res.fz 1
   have f2:=HT.out.1.res.fz 2
   clear hq1
   go_wp2
   have HF:=HT.out.1.fin (.slice la ls.length lc) 0 0 0
   have HY:Hid (sqR w0 w (((wr.setCell ⟨w.heap.size,0,none⟩ (.slice la ls.length lc)).setCell ⟨w.heap.size,1,none⟩ (.int .i64 0)).setCell ⟨w.heap.size,2,none⟩ (.int .i64 0)) B Q R x zs.length cx N V p rest (.returned (.tuple #[.agg #[.slice la ls.length lc,.int .i64 0,.int .i64 0],.nilIface]))):=by
    have hls:ls≠[]:=HT.out.2.2.2.resolve_left (by simp)
    refine .inl ⟨.slice la ls.length lc,ls,0,0,[],p',rfl,HF.1,HF.2.1,hpN,HF.2.2.1,HF.2.2.2,⟨HT.out.1.len,?_⟩,by simp,by simp,fun out=>?_⟩
    ·have:=HT.out.1.len
     have:=List.length_pos_iff.2 hls
     simp only [List.length_nil] at *
     omega
    ·rw [←HT.out.2.1 out]
     exact uqE_end N V p' ls out hls
   clear HF
   exact bodyPost_ret (v:=.tuple #[.agg #[.slice la ls.length lc,.int .i64 0,.int .i64 0],.nilIface]) (by simp [results,Tryz.results216,go_sem,r0,r1,r2]) rfl HY.out
  | cons s t=>
   have hsr:=HR.out s (HT.out.2.2.1 s (by simp))
   have hdec:decide (0<(s :: t).length∧(s :: t).getD 0 0<16)=decide (s<16):=by simp
   rw [hdec] at HC
   clear hdec
   by_cases hs16:s<16
   ·rw [decide_eq_true hs16] at HC
    by_cases h4:p'+4≤N
    ·have HC2:=letter_yes B Q R s t x cx zs N V p' w0 wr HE.out.2.2.2.1 HT.out.1.bel HT.out.1.sr HT.out.1.rd HE.out.2.2.2.2.1 HE.out.2.2.2.2.2 hN h4 ⟨hsr.1,hs16⟩
     go_wp2_with fail
     refine HC.mono ?_
     clear HC
     rintro e w9 ⟨rfl,hw9⟩
     rw [hw9]
     clear hw9
     go_wp2_with fail
     refine HC2.mono ?_
     clear HC2
     rintro e w2 ⟨rfl,hsr2,hrd2,ho2⟩
     have hbt:=bt_lt V p' 4
     have hlen:=HT.out.1.len
     simp only [List.length_cons] at hlen
     have HU3:Hid (∀ out,uq N V t (p'+4) (ls++[16*s+(bt V p' 4:Nat)]) 0 out=uq N V rest p [] 0 out):=fun out=>by rw [←HT.out.2.1 out];exact (uq_let h4 rfl hs16).symm
     have HT2:Hid (SqSt w0 w w2 B Q R x zs.length cx N V p rest t (p'+4) (.slice la ls.length lc) ls 0 0):=HT.out.1.moved HE.out.2.2.2.1 hBw hsr2 hrd2 ho2 h4 (by omega) hQB
     have HSUB:Hid (∀ z ∈ t,z ∈ rest):=fun z hz=>HT.out.2.2.1 z (List.mem_cons_of_mem _ hz)
     have o0:=HT2.out.one.c0
     have hzb:0≤16*s+(bt V p' 4:Nat)∧16*s+(bt V p' 4:Nat)≤255:=by omega
     have hz2:w.heap.size≤w2.heap.size:=HT2.out.on.size
     have hx2:=HT2.out.one.lt
     clear hsr2 hrd2 ho2 hbt
     generalize 16*s+(bt V p' 4:Nat)=z at *
     have hl4:(ls++[z]).length=ls.length+1:=by simp
     have HL4:Hid ((ls++[z]).length=ls.length+1):=hl4
     go_wp2_with (at_builtin;(refine wpList_append_b1 rfl (.tmp 21) (.tmp 23) rfl (w.heap.size+2) (.slice la ls.length lc) ls rfl (HT2.out.ov.alloc _) w2.heap.size 1 z rfl (by simp) hzb (by omega) (by simp;omega) ?_);intro v4 w4 hown hgrow hat;obtain ⟨a4,c4,rfl⟩:=hown.form;rw [hl4] at hown ⊢;have k4:=(HT2.out.app HE.out.2.2.2.1 hBw _ hown hgrow (by rw [List.length_append];simp;omega)).1;have k0:=k4.c0;have kf:=k4.fz 0)
     have HT4:=(HT2.out.app HE.out.2.2.2.1 hBw _ hown hgrow (by rw [List.length_append];simp;omega)).2
     go_roundw
     case rel=>exact ⟨t,p'+4,a4,c4,ls++[z],by rw [HL4.out];exact HT4,HU3.out,HSUB.out,.inr (by simp)⟩
     case measure=>rw [HT4.sr.lenAt,HLA.out.1];simp
    ·have HC2:=letter_no B Q R (s :: t) x cx zs N p' w0 wr HE.out.2.2.2.1 HT.out.1.bel HT.out.1.sr HT.out.1.rd hN hpN h4 HE.out.1 HE.out.2.1 ⟨hG.1,hG.2.1⟩
     have HBAD:Hid (∀ out,uqE N (uq N V rest p [] 0 out)=none):=fun out=>by
      rw [←HT.out.2.1 out,uq_bad (.inl (by unfold wid;rw [if_neg (by omega),if_neg (by omega)];omega))]
      rfl
     go_wp2_with fail
     refine HC.mono ?_
     clear HC
     rintro e w9 ⟨rfl,hw9⟩
     rw [hw9]
     clear hw9
     go_wp2_with fail
     refine HC2.mono ?_
     clear HC2
     rintro e w2 ⟨⟨T,y,rfl⟩,m,rfl⟩
     have r0:=HT.out.1.res.c0
     have r1:=HT.out.1.res.c1
     have r2:=HT.out.1.res.c2
     have f0:=HT.out.1.res.fz 0
     have f1:=HT.out.1.res.fz 1
     have f2:=HT.out.1.res.fz 2
     have HF:=HT.out.1.fin (.slice none 0 0) 0 0 m
     have HY:Hid (sqR w0 w ((((wr.drewN m).setCell ⟨w.heap.size,0,none⟩ (.slice none 0 0)).setCell ⟨w.heap.size,1,none⟩ (.int .i64 0)).setCell ⟨w.heap.size,2,none⟩ (.int .i64 0)) B Q R x zs.length cx N V p rest (.returned (.tuple #[.agg #[.slice none 0 0,.int .i64 0,.int .i64 0],.iface T y]))):=
      .inr ⟨⟨_,_,_,_,_,_,_,rfl⟩,HBAD.out,HF.2.2.2⟩
     clear HF
     go_wp2
     exact bodyPost_ret (v:=.tuple #[.agg #[.slice none 0 0,.int .i64 0,.int .i64 0],.iface T y]) (by simp [results,Tryz.results216,go_sem,r0,r1,r2]) rfl HY.out
   ·rw [decide_eq_false hs16] at HC
    have hpw:=pow_wid hsr.2
    have hwd:=wid_le hsr.2
    by_cases hok1:s<28∧p'+(s-16).toNat≤N
    ·have HC2:=number_yes B Q R s t x cx zs N V p' w0 wr HE.out.2.2.2.1 HT.out.1.bel HT.out.1.sr HT.out.1.rd HE.out.2.2.2.2.1 HE.out.2.2.2.2.2 hN 16 (.inl rfl) ⟨by omega,by omega⟩ hok1.2
     have hwe:wid s=(s-16).toNat:=by unfold wid;rw [if_neg (by omega),if_pos (by omega)]
     rw [hwe] at hpw hwd
     obtain ⟨qa,qc,hq1,-⟩:=HT.out.1.sr
     have q0:wr.cell? ⟨Q,0,none⟩=some (.slice qa (t.length+1) qc):=cellRR (j:=0) hq1 rfl
     clear hq1
     go_wp2_with fail
     refine HC.mono ?_
     clear HC
     rintro e w9 ⟨rfl,hw9⟩
     rw [hw9]
     clear hw9
     go_wp2_with fail
     refine HC2.mono ?_
     clear HC2 q0
     rintro e w2 ⟨rfl,hsr2,hrd2,ho2⟩
     have hbt:=bt_lt V p' (s-16).toNat
     have hlen:=HT.out.1.len
     simp only [List.length_cons] at hlen
     have HU3:Hid (∀ out,uq N V t (p'+(s-16).toNat) ls (2 ^ (s-16).toNat+bt V p' (s-16).toNat+2) out=uq N V rest p [] 0 out):=fun out=>by
      rw [←HT.out.2.1 out,uq_len (by rw [hwe];exact hok1.2) rfl (by omega) hok1.1,hwe]
     have HT2:Hid (SqSt w0 w w2 B Q R x zs.length cx N V p rest t (p'+(s-16).toNat) (.slice la ls.length lc) ls 0 0):=HT.out.1.moved HE.out.2.2.2.1 hBw hsr2 hrd2 ho2 hok1.2 (by omega) hQB
     have HSUB:Hid (∀ z ∈ t,z ∈ rest):=fun z hz=>HT.out.2.2.1 z (List.mem_cons_of_mem _ hz)
     have HLB:Hid (2 ^ (s-16).toNat+bt V p' (s-16).toNat≤4096∧True):=⟨by omega,trivial⟩
     have hp2:p'+(s-16).toNat≤N:=hok1.2
     have HLT:Hid (ls.length+t.length<rest.length):=by unfold Hid;omega
     clear hsr2 hrd2 ho2 hbt hok1 hwe hpw hwd HT
     generalize 2 ^ (s-16).toNat+bt V p' (s-16).toNat=D at *
     generalize p'+(s-16).toNat=p2 at *
     have o0:=HT2.out.one.c0
     have o1:=HT2.out.one.c1
     have o2:=HT2.out.one.c2
     have g1:=HT2.out.one.fz 1
     go_wp2_with fail
     have HD2:Hid (wrap64 (wrap64 ((D:Int)+3)-1)=((D+2:Nat):Int)∧True):=by
      refine ⟨?_,trivial⟩
      have:=HLB.out.1
      rw [IntWalk.wrap64_in ((D:Int)+3) (by omega),IntWalk.wrap64_in ((D:Int)+3-1) (by omega)]
      omega
     rw [HD2.out.1]
     have HT3:Hid (SqSt w0 w (w2.setCell ⟨w.heap.size+1,1,none⟩ (.int .i64 ((D+2:Nat):Int))) B Q R x zs.length cx N V p rest t p2 (.slice la ls.length lc) ls ((D+2:Nat):Int) 0):=HT2.out.setN hBw _
     clear HT2 o0 o1 o2 g1 HD2
     generalize w2.setCell ⟨w.heap.size+1,1,none⟩ (.int .i64 ((D+2:Nat):Int))=W3 at *
     by_cases hok2:∃ s2 t2,t=s2 :: t2∧28≤s2∧p2+(s2-28).toNat≤N
     ·obtain ⟨s2,t2,rfl,h28,hpp⟩:=hok2
      have hsr2:=HR.out s2 (HSUB.out s2 (by simp))
      have HC2:=number_yes B Q R s2 t2 x cx zs N V p2 w0 W3 HE.out.2.2.2.1 HT3.out.bel HT3.out.sr HT3.out.rd HE.out.2.2.2.2.1 HE.out.2.2.2.2.2 hN 28 (.inr rfl) ⟨h28,by omega⟩ hpp
      have hpw:=pow_wid hsr2.2
      have hwd:=wid_le hsr2.2
      have hwe:wid s2=(s2-28).toNat:=by unfold wid;rw [if_pos h28]
      rw [hwe] at hpw hwd
      refine HC2.mono ?_
      clear HC2
      rintro e w4 ⟨rfl,hsr4,hrd4,ho4⟩
      have hbt:=bt_lt V p2 (s2-28).toNat
      have hlen:=HLT.out
      simp only [List.length_cons] at hlen
      have HU4:Hid (∀ out,uq N V rest p [] 0 out=uq N V t2 (p2+(s2-28).toNat) [] 0 (out++[(ls,((D+2:Nat):Int),((2 ^ (s2-28).toNat+bt V p2 (s2-28).toNat:Nat):Int))])):=fun out=>by
       rw [←HU3.out out,uq_dst (by rw [hwe];exact hpp) (by omega) h28,hwe]
      have HT4:Hid (SqSt w0 w w4 B Q R x zs.length cx N V p rest t2 (p2+(s2-28).toNat) (.slice la ls.length lc) ls ((D+2:Nat):Int) 0):=HT3.out.moved HE.out.2.2.2.1 hBw hsr4 hrd4 ho4 hpp (by omega) hQB
      have HSB2:Hid (∀ z ∈ t2,z ∈ rest):=fun z hz=>HSUB.out z (List.mem_cons_of_mem _ hz)
      have HEB:Hid (2 ^ (s2-28).toNat+bt V p2 (s2-28).toNat≤4096∧p2+(s2-28).toNat≤N):=⟨by omega,hpp⟩
      have HLX:Hid (ls.length+t2.length≤rest.length∧t2.length<rest.length):=by unfold Hid;omega
      clear hsr4 hrd4 ho4 hbt hpp hwe hpw hwd HT3 hlen
      generalize 2 ^ (s2-28).toNat+bt V p2 (s2-28).toNat=E at *
      generalize p2+(s2-28).toNat=p3 at *
      have HT5:Hid (SqSt w0 w (w4.setCell ⟨w.heap.size+1,2,none⟩ (.int .i64 (E:Nat))) B Q R x zs.length cx N V p rest t2 p3 (.slice la ls.length lc) ls ((D+2:Nat):Int) (E:Nat)):=HT4.out.setD hBw _
      have k2:=HT4.out.one.c2
      have kf:=HT4.out.one.fz 2
      have o0:=HT5.out.one.c0
      have o1:=HT5.out.one.c1
      have o2:=HT5.out.one.c2
      have r0:=HT5.out.res.c0
      have r1:=HT5.out.res.c1
      have r2:=HT5.out.res.c2
      have f0:=HT5.out.res.fz 0
      have f1:=HT5.out.res.fz 1
      have f2:=HT5.out.res.fz 2
      have HF:=HT5.out.fin (.slice la ls.length lc) ((D+2:Nat):Int) (E:Nat) 0
      have HY:Hid (sqR w0 w ((((w4.setCell ⟨w.heap.size+1,2,none⟩ (.int .i64 (E:Nat))).setCell ⟨w.heap.size,0,none⟩ (.slice la ls.length lc)).setCell ⟨w.heap.size,1,none⟩ (.int .i64 ((D+2:Nat):Int))).setCell ⟨w.heap.size,2,none⟩ (.int .i64 (E:Nat))) B Q R x zs.length cx N V p rest (.returned (.tuple #[.agg #[.slice la ls.length lc,.int .i64 ((D+2:Nat):Int),.int .i64 (E:Nat)],.nilIface]))):=
       .inl ⟨.slice la ls.length lc,ls,((D+2:Nat):Int),(E:Nat),t2,p3,rfl,HF.1,HF.2.1,HEB.out.2,HF.2.2.1,HF.2.2.2,HLX.out,by have:=HLB.out.1;have:=HEB.out.1;omega,HSB2.out,fun out=>by rw [HU4.out out]⟩
      clear HF
      generalize ((D+2:Nat):Int)=DI at *
      go_wp2
      exact bodyPost_ret (v:=.tuple #[.agg #[.slice la ls.length lc,.int .i64 DI,.int .i64 (E:Nat)],.nilIface]) (by simp [results,Tryz.results216,go_sem,r0,r1,r2]) rfl HY.out
     ·have HBAD:Hid (∀ out,uqE N (uq N V rest p [] 0 out)=none):=fun out=>by
       rw [←HU3.out out]
       cases t with
       | nil=>simp [uq,uqE]
       | cons s2 t2=>
        rw [uq_bad (by
         by_cases h28:28≤s2
         ·refine .inl ?_
          have:wid s2=(s2-28).toNat:=by unfold wid;rw [if_pos h28]
          have:¬p2+(s2-28).toNat≤N:=fun h=>hok2 ⟨s2,t2,rfl,h28,h⟩
          omega
         ·exact .inr (by omega))]
        rfl
      have HC2:=number_no B Q R t x cx zs N p2 w0 W3 HE.out.2.2.2.1 HT3.out.bel HT3.out.sr HT3.out.rd hN hp2 28 (.inr rfl) (fun z hz=>HR.out z (HSUB.out z hz)) (fun s' t' he hs' h=>hok2 ⟨s',t',he,hs'.1,h⟩) HE.out.1 HE.out.2.1 HE.out.2.2.1 hG
      refine HC2.mono ?_
      clear HC2 hok2
      rintro e w4 ⟨⟨T,y,rfl⟩,m,rfl⟩
      have HT4:Hid (SqSt w0 w (W3.drewN m) B Q R x zs.length cx N V p rest t p2 (.slice la ls.length lc) ls ((D+2:Nat):Int) 0):=HT3.out.drew m
      clear HT3
      generalize W3.drewN m=w4 at *
      have HT5:Hid (SqSt w0 w (w4.setCell ⟨w.heap.size+1,2,none⟩ (.int .i64 0)) B Q R x zs.length cx N V p rest t p2 (.slice la ls.length lc) ls ((D+2:Nat):Int) 0):=HT4.out.setD hBw _
      have k2:=HT4.out.one.c2
      have kf:=HT4.out.one.fz 2
      have o0:=HT5.out.one.c0
      have o1:=HT5.out.one.c1
      have o2:=HT5.out.one.c2
      have r0:=HT5.out.res.c0
      have r1:=HT5.out.res.c1
      have r2:=HT5.out.res.c2
      have f0:=HT5.out.res.fz 0
      have f1:=HT5.out.res.fz 1
      have f2:=HT5.out.res.fz 2
      have HF:=HT5.out.fin (.slice la ls.length lc) ((D+2:Nat):Int) 0 0
      have HY:Hid (sqR w0 w ((((w4.setCell ⟨w.heap.size+1,2,none⟩ (.int .i64 0)).setCell ⟨w.heap.size,0,none⟩ (.slice la ls.length lc)).setCell ⟨w.heap.size,1,none⟩ (.int .i64 ((D+2:Nat):Int))).setCell ⟨w.heap.size,2,none⟩ (.int .i64 0)) B Q R x zs.length cx N V p rest (.returned (.tuple #[.agg #[.slice la ls.length lc,.int .i64 ((D+2:Nat):Int),.int .i64 0],.iface T y]))):=
       .inr ⟨⟨_,_,_,_,_,_,_,rfl⟩,HBAD.out,HF.2.2.2⟩
      clear HF
      generalize ((D+2:Nat):Int)=DI at *
      go_wp2
      exact bodyPost_ret (v:=.tuple #[.agg #[.slice la ls.length lc,.int .i64 DI,.int .i64 0],.iface T y]) (by simp [results,Tryz.results216,go_sem,r0,r1,r2]) rfl HY.out
    ·have HC2:=number_no B Q R (s :: t) x cx zs N p' w0 wr HE.out.2.2.2.1 HT.out.1.bel HT.out.1.sr HT.out.1.rd hN hpN 16 (.inl rfl) (fun z hz=>HR.out z (HT.out.2.2.1 z hz)) (fun s' t' he hs'=>by
      obtain ⟨rfl,rfl⟩:s=s'∧t=t':=by simpa using he
      omega) HE.out.1 HE.out.2.1 HE.out.2.2.1 hG
     have HBAD:Hid (∀ out,uqE N (uq N V rest p [] 0 out)=none):=fun out=>by
      rw [←HT.out.2.1 out,uq_bad (by
       by_cases h28:28≤s
       ·exact .inr (by omega)
       ·refine .inl ?_
        have:wid s=(s-16).toNat:=by unfold wid;rw [if_neg h28,if_pos (by omega)]
        omega)]
      rfl
     obtain ⟨qa,qc,hq1,-⟩:=HT.out.1.sr
     have q0:wr.cell? ⟨Q,0,none⟩=some (.slice qa (t.length+1) qc):=cellRR (j:=0) hq1 rfl
     clear hq1
     go_wp2_with fail
     refine HC.mono ?_
     clear HC
     rintro e w9 ⟨rfl,hw9⟩
     rw [hw9]
     clear hw9
     go_wp2_with fail
     refine HC2.mono ?_
     clear HC2 q0
     rintro e w2 ⟨⟨T,y,rfl⟩,m,rfl⟩
     have r0:=HT.out.1.res.c0
     have r1:=HT.out.1.res.c1
     have r2:=HT.out.1.res.c2
     have f0:=HT.out.1.res.fz 0
     have f1:=HT.out.1.res.fz 1
     have f2:=HT.out.1.res.fz 2
     have HF:=HT.out.1.fin (.slice none 0 0) 0 0 m
     have HY:Hid (sqR w0 w ((((wr.drewN m).setCell ⟨w.heap.size,0,none⟩ (.slice none 0 0)).setCell ⟨w.heap.size,1,none⟩ (.int .i64 0)).setCell ⟨w.heap.size,2,none⟩ (.int .i64 0)) B Q R x zs.length cx N V p rest (.returned (.tuple #[.agg #[.slice none 0 0,.int .i64 0,.int .i64 0],.iface T y]))):=
      .inr ⟨⟨_,_,_,_,_,_,_,rfl⟩,HBAD.out,HF.2.2.2⟩
     clear HF
     go_wp2
     exact bodyPost_ret (v:=.tuple #[.agg #[.slice none 0 0,.int .i64 0,.int .i64 0],.iface T y]) (by simp [results,Tryz.results216,go_sem,r0,r1,r2]) rfl HY.out
end Go.Proofs.YtaibkchbkedjnaaGreatDoor
