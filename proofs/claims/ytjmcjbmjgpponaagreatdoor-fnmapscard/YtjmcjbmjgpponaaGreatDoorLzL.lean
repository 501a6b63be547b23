import Derived.Test.YtjmcjbmjgpponaaGreatDoorLzS
import Derived.Maps.GroupsBeside
import Derived.OpenShut
import Derived.ChangeSlices
set_option maxRecDepth 20000
set_option maxHeartbeats 16000000
namespace Go.Proofs.YtjmcjbmjgpponaaGreatDoor
open Go.RowKit
set_option linter.unusedVariables false
theorem Tryz.infoSeq :(Tryz.prog.info? 146).map (fun i=>(i.zero,i.size,i.bytes))=some (some (.agg #[.slice none 0 0,.int .i64 0,.int .i64 0]),3,40):=by kernel_rfl
def OVB (w:World) (B:Nat) (v:Value) (zs:List Int):Prop:=w.ownsRow B 5 1 v zs.length (zs.map (Value.int .u8))/\∀ z ∈ zs,0<=z/\z<=255
theorem OVB.nil (w:World) (B:Nat):OVB w B (.slice none 0 0) []:=⟨⟨rfl,.inl ⟨rfl,rfl⟩⟩,by simp⟩
theorem OVB.form {w:World} {B:Nat} {v:Value} {zs:List Int} (h:OVB w B v zs):∃ (a:Option Addr) (c:Nat),v=.slice a zs.length c:=by
 rcases h.1.2 with ⟨rfl,h0⟩ | ⟨g,cap,cur,rfl,_⟩
 ·exact ⟨none,0,by rw [h0]⟩
 ·exact ⟨_,_,rfl⟩
theorem OVB.blk {w:World} {B:Nat} {v:Value} {zs:List Int} (h:OVB w B v zs) {k:Nat} (hk:v.ownBlock=some k):B<=k:=by
 rcases h.1.2 with ⟨rfl,h0⟩ | ⟨g,cap,cur,rfl,hg,_⟩
 ·simp [Value.ownBlock] at hk
 ·simp [Value.ownBlock] at hk
  omega
theorem OVB.mine {w:World} {B:Nat} {v:Value} {zs:List Int} (h:OVB w B v zs):∃ (a:Option Addr) (cp:Nat),v=.slice a zs.length cp/\Mine w B w.heap.size a cp zs:=by
 rcases h.1.2 with ⟨rfl,h0⟩ | ⟨g,cap,cur,rfl,hg,hh,r⟩
 ·exact ⟨none,0,by rw [h0],.inl ⟨rfl,List.eq_nil_of_length_eq_zero h0,rfl⟩⟩
 ·exact ⟨some ⟨g,0,none⟩,cap,rfl,Own.mine (cap:=cap) h⟩
theorem OVB.stay {S:Nat->Prop} {w w':World} {B:Nat} {v:Value} {zs:List Int} (h:OVB w B v zs) (ho:Only S w w') (hs:∀ k,B<=k->¬S k):OVB w' B v zs:=by
 refine ⟨⟨h.1.1,?_⟩,h.2⟩;rcases h.1.2 with h' | ⟨g,cap,cur,h',hg,hh,r⟩
 ·exact .inl h'
 ·exact .inr ⟨g,cap,cur,h',hg,(ho.block g (Array.getElem?_eq_some_iff.1 hh).1 (hs g hg)).trans hh,r⟩
theorem OVB.weak {w:World} {B B':Nat} {v:Value} {zs:List Int} (h:OVB w B v zs) (hB:B'<=B):OVB w B' v zs:=by
 refine ⟨⟨h.1.1,?_⟩,h.2⟩;rcases h.1.2 with h' | ⟨g,cap,cur,h',hg,r⟩
 ·exact .inl h'
 ·exact .inr ⟨g,cap,cur,h',by omega,r⟩
theorem OVB.alloc {w:World} {B:Nat} {v:Value} {zs:List Int} (h:OVB w B v zs) (o:Obj):OVB (w.alloc o) B v zs:=⟨h.1.alloc o,h.2⟩
theorem OVB.byt {w:World} {B:Nat} {a:Option Addr} {n c:Nat} {zs:List Int} (h:OVB w B (.slice a n c) zs):Byt w a zs:=by
 obtain ⟨a',c',e,hm⟩:=h.mine;obtain ⟨rfl,-,-⟩:a=a'/\n=zs.length/\c=c':=by simpa using e
 exact hm.byt
theorem OVB.below {w w':World} {B:Nat} {v:Value} {zs:List Int} (h:OVB w B v zs) (hb:Below w.heap.size w w'):OVB w' B v zs:=h.stay (Only.ofBelow (S:=fun _=>False) hb nl) (by simp)
theorem zfh (w:World) (z:Int) (hz:0<=z/\z<=255):Byt (w.alloc (.cells #[.int .u8 z] 5)) (some ⟨w.heap.size,0,none⟩) [z]:=by
 refine ⟨by intro y hy;simp at hy;rw [hy];exact hz,fun _=>⟨w.heap.size,0,rfl,by simp,fun i hi=>?_⟩⟩
 obtain rfl:i=0:=by simp at hi;omega
 simp
theorem z3v {P:Program} (w:World) (t ty e:TypeId) (i:TypeInfo) (ht:P.underlying t=some (.slice e)) (hi:P.info? e=some i) (base size n:Nat) (v:Value) (xs:List Value) (hown:w.ownsRow base e size v n xs) (c:Nat) :
  (Builtin.append_ #[t,t] ty #[v,.slice none 0 c]).run P w=.ok v w:=by
 rcases hown.2 with ⟨rfl,rfl⟩ | ⟨g,cap,cur,rfl,_,hg,hnc,_⟩
 ·simp [Builtin.append_,run_underlying ht,sizeOf,typeInfo,hi,Builtin.lenOf,Builtin.firstCells]
 ·simp [Builtin.append_,run_underlying ht,sizeOf,typeInfo,hi,Builtin.lenOf,Builtin.firstCells,hnc,storeCells]
theorem zi {ops:Array Oper} {rest:List Oper} {o:Oper} {a:Act} {Q:Exit->Act->World->Prop} {w:World} (hgd:o.guard=none) (s x:Operand)
  (ho:o.op=.call { callee:=.builtin .append,args:=#[s,x],argTypes:=#[22,22] })
  (B:Nat) (v:Value) (zs:List Int) (hs:a.eval s=v) (hown:OVB w B v zs) (xa:Option Addr) (c:Nat) (ys:List Int) (hx:a.eval x=.slice xa ys.length c) (hy:Byt w xa ys) (hb1:zs.length+ys.length<=1000000) (hbase:B<=w.heap.size)
  (h:∀ v' w',OVB w' B v' (zs++ys)->w.grownBy w' v.ownBlock->wpList Tryz.prog ops Q rest (a.put o.dst v') w'):wpList Tryz.prog ops Q (o :: rest) a w:=by
 obtain ⟨i0,hi,hz0,hz1,hz2⟩:=info_parts Tryz.infoU8;have hr:∀ z ∈ zs++ys,0<=z/\z<=255:=fun z hz=>(List.mem_append.1 hz).elim (hown.2 z) (hy.1 z)
 cases xa with
 | none=>
  have hy0:ys=[]:=by
   rcases Nat.eq_zero_or_pos ys.length with h0 | h0
   ·exact List.eq_nil_of_length_eq_zero h0
   ·obtain ⟨b,off,e,_⟩:=hy.2 h0
    cases e
  subst hy0;refine wpList_plain hgd fun K hK'=>?_
  have hrun:=z3v (P:=Tryz.prog) w 22 o.type 5 i0 Tryz.underlying22 hi B 1 zs.length v _ hown.1 c;unfold Oper.wp execOp
  simp only [List.length_nil] at hx
  simp only [ho,resolve,invoke,builtin,Sem.run_bind,Sem.run_pure,Result.andThen_ok,List.map_toArray,List.map_cons,List.map_nil,hs,hx,hrun]
  exact hK' _ _ (h v w (by simpa using hown) (World.grownBy.refl w _))
 | some ad=>
  have hnews:∀ j u,(ys.map (Value.int .u8))[j]?=some u->w.cell? (ad.add j)=some u:=by
   intro j u hu
   have hj:j<ys.length:=by
    rcases Nat.lt_or_ge j ys.length with h | h
    ·exact h
    ·rw [List.getElem?_eq_none (by simpa using h)] at hu;cases hu
   obtain ⟨b,off,e,_,hc⟩:=hy.2 (by omega)
   obtain rfl:ad=⟨b,off,none⟩:=by simpa using e
   exact z1o hc j u hu
  refine wpList_append_own w hgd s x 22 ho B 5 i0 (.int .u8 0) 1 1 Tryz.underlying22 hi hz0 hz1 hz2 rfl (by decide) v zs.length _ hs hown.1 ad ys.length c (ys.map (Value.int .u8)) hx (by simp) hnews (z19 ys) (by unfold maxLen;omega) (by omega) hbase ?_
  intro v' w' h1 h2 _
  refine h v' w' ⟨?_,hr⟩ h2;rw [List.length_append,List.map_append];exact h1
theorem z0l {w0 wr w1:World} {B:Nat} {v:Value} {zs:List Int} (hbel:Below B w0 wr) (hB:B<=wr.heap.size) (h:OVB wr B v zs) (hg:wr.grownBy w1 v.ownBlock):Below B w0 w1:=
 hbel.grown hg hB (fun k hk=>h.blk hk)
theorem OVB.blk_ne {w:World} {B:Nat} {v:Value} {zs:List Int} (h:OVB w B v zs) {Q:Nat} {cur:Array Value} {T:TypeId} (hQ:w.heap[Q]?=some (.cells cur T (0,0))) (hT:T≠5):some Q≠v.ownBlock:=by
 rcases h.1.2 with ⟨rfl,h0⟩ | ⟨g,cap,cur',rfl,hg,hh,_⟩
 ·simp [Value.ownBlock]
 ·simp only [Value.ownBlock,ne_eq,Option.some.injEq]
  rintro rfl;rw [hQ] at hh
  simp at hh
  exact hT hh.2
theorem z6k {w w':World} {row:Option Nat} (hg:w.grownBy w' row) {Q:Nat} {o:Obj} (hQ:w.heap[Q]?=some o) (hne:some Q≠row):w'.heap[Q]?=some o:=(hg.block Q (Array.getElem?_eq_some_iff.1 hQ).1 hne).trans hQ
theorem zcq {w:World} {R j:Nat} {cur:Array Value} {T:TypeId} {v:Value} (hR:w.heap[R]?=some (.cells cur T (0,0))) (hv:cur[j]?=some v):w.cell? ⟨R,j,none⟩=some v:=by
 rw [cell_of_row w R j cur T (0,0) hR];exact hv
structure OVq (w:World) (B:Nat) (v:Value) (ss:List Sq):Prop where
 own:w.ownsRow B 146 3 v ss.length (ss.flatMap Sq.cells)
structure DeepQ (w:World) (B:Nat) (ss:List Sq):Prop where
 mine:∀ s ∈ ss,Mine w B w.heap.size s.a s.c s.ls
 apart:(ss.map Sq.a).Pairwise (fun x y=>∀ k,z06 x k->¬z06 y k)
section
variable {w w' : World} {B : Nat} {v : Value} {ss : List Sq}
theorem OVq.nil (w:World) (B:Nat):OVq w B (.slice none 0 0) []:=⟨⟨by simp,.inl ⟨rfl,rfl⟩⟩⟩
theorem OVq.form (h:OVq w B v ss):∃ (a:Option Addr) (c:Nat),v=.slice a ss.length c:=by
 rcases h.own.2 with ⟨rfl,h0⟩ | ⟨g,cap,cur,rfl,_⟩
 ·exact ⟨none,0,by rw [h0]⟩
 ·exact ⟨_,_,rfl⟩
theorem OVq.blk (h:OVq w B v ss) {k:Nat} (hk:v.ownBlock=some k):B<=k/\k<w.heap.size:=by
 rcases h.own.2 with ⟨rfl,h0⟩ | ⟨g,cap,cur,rfl,hg,hh,_⟩
 ·simp [Value.ownBlock] at hk
 ·simp [Value.ownBlock] at hk
  subst hk;exact ⟨hg,(Array.getElem?_eq_some_iff.1 hh).1⟩
theorem OVq.stay {S:Nat->Prop} (h:OVq w B v ss) (ho:Only S w w') (hs:∀ k,v.ownBlock=some k->¬S k):OVq w' B v ss:=by
 refine ⟨⟨h.own.1,?_⟩⟩;rcases h.own.2 with h' | ⟨g,cap,cur,rfl,hg,hh,r⟩
 ·exact .inl h'
 ·exact .inr ⟨g,cap,cur,rfl,hg,(ho.block g (Array.getElem?_eq_some_iff.1 hh).1 (hs g rfl)).trans hh,r⟩
theorem OVq.below (h:OVq w B v ss) (hb:Below w.heap.size w w'):OVq w' B v ss:=h.stay (Only.ofBelow (S:=fun _=>False) hb nl) (by simp)
theorem OVq.weak {B':Nat} (h:OVq w B v ss) (hB:B'<=B):OVq w B' v ss:=by
 refine ⟨⟨h.own.1,?_⟩⟩;rcases h.own.2 with h' | ⟨g,cap,cur,h',hg,r⟩
 ·exact .inl h'
 ·exact .inr ⟨g,cap,cur,h',by omega,r⟩
theorem OVq.sqs {a:Option Addr} {n c:Nat} (h:OVq w B (.slice a n c) ss) (hr:∀ s ∈ ss,(rI s.n/\rI s.d/\s.ls.length<=maxLen)/\Byt w s.a s.ls):Sqs w a ss:=by
 refine ⟨fun s hs=>(hr s hs).1,fun hz=>?_⟩
 rcases h.own.2 with ⟨_,h0⟩ | ⟨g,cap,cur,e,hg,hh,r⟩
 ·omega
 ·simp at e
  obtain ⟨rfl,rfl,rfl⟩:=e;refine ⟨g,0,rfl,(Array.getElem?_eq_some_iff.1 hh).1,fun i hi=>?_⟩
  obtain ⟨f0,f1,f2⟩:=zlu ss i hi;refine ⟨?_,?_,?_,(hr _ (z2t hi)).2⟩
  ·rw [Nat.zero_add,h.own.cellAt (i*3) (by omega),f0]
  ·rw [Nat.zero_add,h.own.cellAt (i*3+1) (by omega),f1]
  ·rw [Nat.zero_add,h.own.cellAt (i*3+2) (by omega),f2]
theorem DeepQ.nil (w:World) (B:Nat):DeepQ w B []:=⟨by simp,by simp⟩
theorem Mine.stayQ {S:Nat->Prop} {a:Option Addr} {U c:Nat} {zs:List Int} (h:Mine w B U a c zs) (ho:Only S w w') (hs:∀ k,z06 a k->¬S k):Mine w' B U a c zs:=by
 rcases h with h | ⟨g,rfl,h1,h2,h⟩
 ·exact .inl h
 ·exact .inr ⟨g,rfl,h1,h2,h.only ho (hs g ⟨_,rfl,rfl⟩)⟩
theorem DeepQ.stay {S:Nat->Prop} (h:DeepQ w B ss) (ho:Only S w w') (hs:∀ s ∈ ss,∀ k,z06 s.a k->¬S k):DeepQ w' B ss:=
 ⟨fun s hm=>((h.mine s hm).stayQ ho (hs s hm)).mono nl ho.size,h.apart⟩
theorem DeepQ.below (h:DeepQ w B ss) (hb:Below w.heap.size w w'):DeepQ w' B ss:=h.stay (Only.ofBelow (S:=fun _=>False) hb nl) (by simp)
theorem DeepQ.snoc {s:Sq} (h:DeepQ w B ss) (hm:Mine w B w.heap.size s.a s.c s.ls) (hap:∀ x ∈ ss,∀ k,z06 x.a k->¬z06 s.a k):DeepQ w B (ss++[s]):=by
 refine ⟨fun x hx=>?_,?_⟩
 ·rcases List.mem_append.1 hx with hx | hx
  ·exact h.mine x hx
  ·obtain rfl:x=s:=by simpa using hx
   exact hm
 ·rw [List.map_append,List.pairwise_append]
  refine ⟨h.apart,by simp,fun x hx y hy=>?_⟩
  obtain ⟨z,hz,rfl⟩:=List.mem_map.1 hx;obtain rfl:y=s.a:=by simpa using hy
  exact hap z hz
theorem zlp {a:Option Addr} {B' U c:Nat} {zs:List Int} (hm:Mine w B' U a c zs) {Q:Nat} {cur:Array Value} {T:TypeId} (hQ:w.heap[Q]?=some (.cells cur T (0,0))) (hT:T≠5):¬z06 a Q:=by
 rintro ⟨x,hx,hxg⟩;rcases hm with ⟨h',_⟩ | ⟨g',h',g1,g2,ho⟩
 ·rw [h'] at hx;cases hx
 ·rw [h'] at hx
  simp at hx
  rw [<-hx] at hxg
  simp at hxg
  subst hxg;rcases ho.1.2 with ⟨e,_⟩ | ⟨k,cap1,cur1,e,_,hh,_⟩
  ·simp at e
  ·obtain rfl:g'=k:=by simp at e;exact e.1
   rw [hQ] at hh
   simp at hh
   exact hT hh.2
theorem OVq.other (h:OVq w B v ss) {a:Option Addr} {B' U c:Nat} {zs:List Int} (hm:Mine w B' U a c zs) {g:Nat} (hg:v.ownBlock=some g):¬z06 a g:=by
 rcases h.own.2 with ⟨e2,_⟩ | ⟨k2,cap2,cur2,e2,_,hh2,_⟩
 ·subst e2;simp [Value.ownBlock] at hg
 ·subst e2
  obtain rfl:k2=g:=by simpa [Value.ownBlock] using hg
  exact zlp hm hh2 (by decide)
theorem Only.ofGrownQ {row:Option Nat} (hg:w.grownBy w' row):Only (fun k=>row=some k) w w':=(Only.refl (fun k=>row=some k) w).grown hg (fun k hk=>.inl hk)
theorem DeepQ.grown {ts:List Sq} (hd:DeepQ w B ts) (h:OVq w B v ss) (hg:w.grownBy w' v.ownBlock):DeepQ w' B ts:=
 hd.stay (Only.ofGrownQ hg) (fun x hx k hk e=>h.other (hd.mine x hx) e hk)
theorem DeepQ.byt (h:DeepQ w B ss) {s:Sq} (hs:s ∈ ss):Byt w s.a s.ls:=(h.mine s hs).byt
end
theorem zm7 (s:Sq):∀ u ∈ s.cells,u.oneCell'=true:=by
 intro u hu
 simp [Sq.cells] at hu
 rcases hu with rfl | rfl | rfl <;> rfl
theorem z3l (w:World) (a:Option Addr) (L c:Nat) (n d:Int) (T:TypeId) (s:Sq) (h1:s.a=a) (h2:s.ls.length=L) (h3:s.c=c) (h4:s.n=n) (h5:s.d=d):∀ j u,s.cells[j]?=some u->(w.alloc (Obj.cells #[.slice a L c,.int .i64 n,.int .i64 d] T)).cell? ⟨w.heap.size,j,none⟩=some u:=by
 intro j u hu
 subst h1 h2 h3 h4 h5
 match j with
 | 0=>simp [Sq.cells] at hu;simp [hu]
 | 1=>simp [Sq.cells] at hu;simp [hu]
 | 2=>simp [Sq.cells] at hu;simp [hu]
 | j+3=>simp [Sq.cells] at hu
theorem z03 {ops:Array Oper} {rest:List Oper} {o:Oper} {a:Act} {Q:Exit->Act->World->Prop} {w:World} (hgd:o.guard=none) (s x:Operand)
  (ho:o.op=.call { callee:=.builtin .append,args:=#[s,x],argTypes:=#[111,111] })
  (B:Nat) (v:Value) (ss:List Sq) (hs:a.eval s=v) (hown:OVq w B v ss) (X c:Nat) (e:Sq) (hx:a.eval x=.slice (some ⟨X,0,none⟩) 1 c) (hX:∀ j u,e.cells[j]?=some u->w.cell? ⟨X,j,none⟩=some u) (hb1:ss.length<=1000000) (hbase:B<=w.heap.size)
  (h:∀ v' w',OVq w' B v' (ss++[e])->w.grownBy w' v.ownBlock->wpList Tryz.prog ops Q rest (a.put o.dst v') w'):wpList Tryz.prog ops Q (o :: rest) a w:=by
 obtain ⟨i0,hi,hz0,hz1,hz2⟩:=info_parts Tryz.infoSeq;obtain ⟨v',w',hr,h2,h3,_,_⟩:=run_append_own_at (P:=Tryz.prog) w B 111 o.type 146 i0 (.agg #[.slice none 0 0,.int .i64 0,.int .i64 0]) 3 40 Tryz.underlying111 hi hz0 hz1 hz2 rfl (by decide) v ss.length _ hown.own ⟨X,0,none⟩ 1 c e.cells rfl (fun j u hu=>by rw [show (⟨X,0,none⟩:Addr).add j=⟨X,j,none⟩ from by unfold Addr.add;split <;> simp_all];exact hX j u hu) (zm7 e) (by unfold maxLen;omega) (by omega) hbase
 refine wpList_plain hgd fun K hK'=>?_
 unfold Oper.wp execOp
 simp only [ho,resolve,invoke,builtin,Sem.run_bind,Sem.run_pure,Result.andThen_ok,List.map_toArray,List.map_cons,List.map_nil,hs,hx,hr]
 refine hK' _ _ (h v' w' ⟨?_⟩ h3);rw [List.length_append,List.flatMap_append]
 simpa using h2
theorem z17 {ops:Array Oper} {rest:List Oper} {o:Oper} {a:Act} {Q:Exit->Act->World->Prop} {w:World} (hgd:o.guard=none) (s x:Operand)
  (ho:o.op=.call { callee:=.builtin .append,args:=#[s,x],argTypes:=#[22,22] })
  (B:Nat) (v:Value) (zs:List Int) (hs:a.eval s=v) (hown:OVB w B v zs) (X c:Nat) (z:Int) (hx:a.eval x=.slice (some ⟨X,0,none⟩) 1 c) (hX:w.cell? ⟨X,0,none⟩=some (.int .u8 z)) (hz:0<=z/\z<=255) (hb1:zs.length<=1000000) (hbase:B<=w.heap.size)
  (h:∀ v' w',OVB w' B v' (zs++[z])->w.grownBy w' v.ownBlock->(v'.ownBlock=v.ownBlock\/v'.ownBlock=some w.heap.size)->wpList Tryz.prog ops Q rest (a.put o.dst v') w'):wpList Tryz.prog ops Q (o :: rest) a w:=by
 obtain ⟨i0,hi,hz0,hz1,hz2⟩:=info_parts Tryz.infoU8;obtain ⟨v',w',hr,h2,h3,_,h5⟩:=run_append_own_at (P:=Tryz.prog) w B 22 o.type 5 i0 (.int .u8 0) 1 1 Tryz.underlying22 hi hz0 hz1 hz2 rfl (by decide) v zs.length _ hown.1 ⟨X,0,none⟩ 1 c [.int .u8 z] rfl (fun j u hu=>by
  match j,hu with
  | 0,hu=>(simp at hu;subst hu;simpa [Addr.add] using hX)) (by intro u hu;simp at hu;subst hu;rfl) (by unfold maxLen;omega) (by omega) hbase
 refine wpList_plain hgd fun K hK'=>?_
 unfold Oper.wp execOp
 simp only [ho,resolve,invoke,builtin,Sem.run_bind,Sem.run_pure,Result.andThen_ok,List.map_toArray,List.map_cons,List.map_nil,hs,hx,hr]
 refine hK' _ _ (h v' w' ⟨?_,?_⟩ h3 h5)
 ·rw [List.length_append,List.map_append]
  simpa using h2
 ·intro y hy
  rcases List.mem_append.1 hy with hy | hy
  ·exact hown.2 y hy
  ·obtain rfl:y=z:=by simpa using hy
   exact hz
set_option linter.unusedSimpArgs false
def Sml (ss:List Sq):Prop:=∀ s ∈ ss,0<=s.n/\s.n<=10000/\0<=s.d/\s.d<=10000/\s.ls.length<=300
theorem Sml.nil :Sml []:=by intro s hs;cases hs
theorem Sml.snoc {ss:List Sq} {s:Sq} (h:Sml ss) (hs:0<=s.n/\s.n<=10000/\0<=s.d/\s.d<=10000/\s.ls.length<=300):Sml (ss++[s]):=by
 intro x hx
 rcases List.mem_append.1 hx with hx | hx
 ·exact h x hx
 ·obtain rfl:x=s:=by simpa using hx
  exact hs
theorem Sml.rng {ss:List Sq} (h:Sml ss):∀ s ∈ ss,rI s.n/\rI s.d/\s.ls.length<=maxLen:=fun s hs=>by
 obtain ⟨h1,h2,h3,h4,h5⟩:=h s hs;refine ⟨⟨by omega,by omega⟩,⟨by omega,by omega⟩,by unfold maxLen;omega⟩
def Aprt (ss:List Sq) (v:Value):Prop:=∀ s ∈ ss,∀ k,z06 s.a k->v.ownBlock≠some k
theorem Aprt.none (ss:List Sq):Aprt ss (.slice none 0 0):=by intro s hs k hk;simp [Value.ownBlock]
theorem Aprt.app {w:World} {B:Nat} {ss:List Sq} {v v':Value} {H:Nat} (h:Aprt ss v) (hd:DeepQ w B ss) (hv:v'.ownBlock=v.ownBlock\/v'.ownBlock=some H) (hH:w.heap.size<=H):Aprt ss v':=by
 intro s hs k hk
 rcases hv with hv | hv
 ·rw [hv];exact h s hs k hk
 ·rw [hv]
  have:=((hd.mine s hs).rowB hk).2
  simp only [ne_eq,Option.some.injEq]
  omega
theorem DeepQ.grownB {w w':World} {B:Nat} {ss:List Sq} {v:Value} (hd:DeepQ w B ss) (h:Aprt ss v) (hg:w.grownBy w' v.ownBlock):DeepQ w' B ss:=
 hd.stay (Only.ofGrownQ hg) (fun s hs k hk e=>h s hs k hk e)
theorem OVq.grownB {w w':World} {B B':Nat} {v lv:Value} {ss:List Sq} {ls:List Int} (h:OVq w B v ss) (hb:OVB w B' lv ls) (hg:w.grownBy w' lv.ownBlock):OVq w' B v ss:=by
 refine h.stay (Only.ofGrownQ hg) (fun k hk e=>?_)
 rcases h.own.2 with ⟨rfl,h0⟩ | ⟨g,cap,cur,rfl,hg,hh,_⟩
 ·simp [Value.ownBlock] at hk
 ·obtain rfl:g=k:=by simpa [Value.ownBlock] using hk
  exact hb.blk_ne hh (by decide) e.symm
theorem DeepQ.weak {w:World} {B B':Nat} {ss:List Sq} (h:DeepQ w B ss) (hB:B'<=B):DeepQ w B' ss:=⟨fun s hs=>(h.mine s hs).mono hB nl,h.apart⟩
theorem OVB.mineAt {w:World} {B:Nat} {v:Value} {zs:List Int} (h:OVB w B v zs):∃ (a:Option Addr) (cp:Nat),v=.slice a zs.length cp/\Mine w B w.heap.size a cp zs/\∀ k,z06 a k->v.ownBlock=some k:=by
 obtain ⟨a,cp,e,hm⟩:=h.mine;refine ⟨a,cp,e,hm,fun k hk=>?_⟩
 obtain ⟨x,rfl,rfl⟩:=hk;rw [e]
 rfl
theorem zeo (w:World) (o:Obj):(w.alloc o).heap[w.heap.size]?=some o:=by simp only [World.alloc,Array.getElem?_push_size]
theorem z9z (w:World) (ty:TypeId) (B:Nat) (v:Value) (zs:List Int) (hown:OVB w B v zs) (xa:Option Addr) (c:Nat) (ys:List Int) (hy:Byt w xa ys) (hb1:zs.length+ys.length<=1000000) (hbase:B<=w.heap.size) :
  ∃ v' w',(Builtin.append_ #[22,22] ty #[v,.slice xa ys.length c]).run Tryz.prog w=.ok v' w'/\OVB w' B v' (zs++ys)/\w.grownBy w' v.ownBlock:=by
 obtain ⟨i0,hi,hz0,hz1,hz2⟩:=info_parts Tryz.infoU8;have hr:∀ z ∈ zs++ys,0<=z/\z<=255:=fun z hz=>(List.mem_append.1 hz).elim (hown.2 z) (hy.1 z)
 cases xa with
 | none=>
  have hy0:ys=[]:=by
   rcases Nat.eq_zero_or_pos ys.length with h0 | h0
   ·exact List.eq_nil_of_length_eq_zero h0
   ·obtain ⟨b,off,e,_⟩:=hy.2 h0
    cases e
  subst hy0;exact ⟨v,w,z3v (P:=Tryz.prog) w 22 ty 5 i0 Tryz.underlying22 hi B 1 zs.length v _ hown.1 c,by simpa using hown,World.grownBy.refl w _⟩
 | some ad=>
  have hnews:∀ j u,(ys.map (Value.int .u8))[j]?=some u->w.cell? (ad.add j)=some u:=by
   intro j u hu
   have hj:j<ys.length:=by
    rcases Nat.lt_or_ge j ys.length with h | h
    ·exact h
    ·rw [List.getElem?_eq_none (by simpa using h)] at hu;cases hu
   obtain ⟨b,off,e,_,hc⟩:=hy.2 (by omega)
   obtain rfl:ad=⟨b,off,none⟩:=by simpa using e
   exact z1o hc j u hu
  obtain ⟨v',w',hrun,h2,h3,_,_⟩:=run_append_own_at (P:=Tryz.prog) w B 22 ty 5 i0 (.int .u8 0) 1 1 Tryz.underlying22 hi hz0 hz1 hz2 rfl (by decide) v zs.length _ hown.1 ad ys.length c (ys.map (Value.int .u8)) (by simp) hnews (z19 ys) (by unfold maxLen;omega) (by omega) hbase
  refine ⟨v',w',hrun,⟨?_,hr⟩,h3⟩;rw [List.length_append,List.map_append];exact h2
theorem z1e {P:Program} {ops:Array Oper} {o:Oper} {a:Act} {w:World} {K:Act->World->Prop} {Q:Exit->Act->World->Prop} {E:Prop} (hg:o.guard=none) (h:Oper.wp P o a w K Q) :
  if Region.wanted o (yielded ops a.tmps)=true then Oper.wp P o a w K Q else E:=by
 rw [if_pos (by simp [Region.wanted,hg])]
 exact h
theorem OVB.empty (w:World) (B:Nat) (hB:B<=w.heap.size):OVB (w.alloc (Obj.cells #[] 5)) B (.slice (some ⟨w.heap.size,0,none⟩) 0 0) []:=
 ⟨⟨rfl,.inr ⟨w.heap.size,0,#[],rfl,hB,zeo w _,Nat.le_refl _,by simp,rfl,rfl⟩⟩,by simp⟩
theorem zc2 {o:Oper} {a:Act} {w:World} {K:Act->World->Prop} {Q:Exit->Act->World->Prop} (s x:Operand) (ho:o.op=.call { callee:=.builtin .append,args:=#[s,x],argTypes:=#[22,22] })
  (B:Nat) (v:Value) (zs:List Int) (hs:a.eval s=v) (hown:OVB w B v zs) (xa:Option Addr) (c:Nat) (ys:List Int) (hx:a.eval x=.slice xa ys.length c) (hy:Byt w xa ys) (hb1:zs.length+ys.length<=1000000) (hbase:B<=w.heap.size)
  (h:∀ v' w',OVB w' B v' (zs++ys)->w.grownBy w' v.ownBlock->K (a.put o.dst v') w'):o.wp Tryz.prog a w K Q:=by
 obtain ⟨v',w',hr,h2,h3⟩:=z9z w o.type B v zs hown xa c ys hy hb1 hbase;unfold Oper.wp execOp
 simp only [ho,resolve,invoke,builtin,Sem.run_bind,Sem.run_pure,Result.andThen_ok,List.map_toArray,List.map_cons,List.map_nil,hs,hx,hr]
 exact h v' w' h2 h3
def Few4 (ss:List Sq):Prop:=ss.length<=65/\∀ s ∈ ss,s.ls.length<=64/\(0<=s.n/\s.n<=64)/\(0<=s.d/\s.d<=64)
def FnA (w:World) (B:Nat) (v:Value) (cs:List (List Int × Int × Int)):Prop:=∃ ss:List Sq,ss.map Sq.ct=cs/\OVq w B v ss/\DeepQ w B ss/\Few4 ss
theorem St.few {ys:List Int} {f q:Nat} {ss:List Sq} (h:St ys f q (ss.map Sq.ct)) (hn:ys.length<=64):Few4 ss:=by
 have h1:=h.cl;have h2:=h.ql;rw [List.length_map] at h1;refine ⟨by omega,fun s hs=>?_⟩
 obtain ⟨p1,n,d,p2,p3,p4⟩:=h.parts s.ct (List.mem_map_of_mem hs);have e1:s.ls.length<=ys.length:=p1;have e2:s.n=n:=congrArg Prod.fst p2;have e3:s.d=d:=congrArg Prod.snd p2
 omega
theorem Few4.snoc {ys:List Int} {f q:Nat} {ss:List Sq} (h:St ys f q (ss.map Sq.ct)) (hn:ys.length<=64) {s:Sq} (h1:s.ls.length<=64) (h2:0<=s.n/\s.n<=64) (h3:0<=s.d/\s.d<=64):Few4 (ss++[s]):=by
 have h4:=h.few hn;have h5:=h.cl;have h6:=h.ql;rw [List.length_map] at h5;refine ⟨by rw [List.length_append];simp;omega,fun x hx=>?_⟩
 rcases List.mem_append.1 hx with hx | hx
 ·exact h4.2 x hx
 ·obtain rfl:x=s:=by simpa using hx
  exact ⟨h1,h2,h3⟩
theorem Few4.rng {ss:List Sq} (h:Few4 ss):∀ s ∈ ss,rI s.n/\rI s.d/\s.ls.length<=maxLen:=fun s hs=>by
 obtain ⟨h1,h2,h3⟩:=h.2 s hs;exact ⟨⟨by omega,by omega⟩,⟨by omega,by omega⟩,by unfold maxLen;omega⟩
theorem zgw (a:Option Addr) (c:Nat) (ys:List Int) (w:World) (hb:Byt w a ys) (hn:ys.length<=64) :
  Calls Tryz.prog 90 #[.slice a ys.length c] w fun e w'=>(∃ v,e=.returned v/\FnA w' w.heap.size v (z0v ys))/\Below w.heap.size w w':=by
 have HBY:Hid (Byt w a ys/\True):=⟨hb,trivial⟩;have HLO:Hid (∀ (W:World) (p:Nat),Bw w W->p<ys.length->Calls Tryz.prog 119 #[.slice a ys.length c,.int .i64 p] W fun e w'=>e=.returned (.tuple #[.int .i64 (lz ys p).1,.int .i64 (lz ys p).2])/\Bw W w'):=fun W p hW hp=>by
  rw [znc hp];exact zc0 a c ys p W (hb.below hW nl) hn hp
 have HLE:Hid (∀ q,q+(lz ys q).1<=max q ys.length/\(lz ys q).2<=q):=zgt ys;have HEN:Hid (∀ q,¬q<ys.length->(lz ys q).1=0):=fun q h=>by rw [zq2 h]
 have HRG:Hid (∀ q,q<ys.length->0<=ys.getD q 0/\ys.getD q 0<=255):=fun q h=>by
  rw [List.getD_eq_getElem?_getD,List.getElem?_eq_getElem h];exact hb.1 _ (List.getElem_mem h)
 have HCN:Hid (∀ f q,f<=q->q<ys.length->z0j ys f q++[ys.getD q 0]=z0j ys f (q+1)):=zja ys;have HCL:Hid (∀ f q,f<=q->q<=ys.length->(z0j ys f q).length=q-f):=z5c ys;have HTW:Hid (∀ f q cs,St ys f q cs->q<ys.length->¬z74 ys q->St ys f (q+1) cs):=fun f q cs h1 h2 h3=>h1.wait h2 h3
 have HTT:Hid (∀ f q cs,St ys f q cs->q<ys.length->z74 ys q->St ys (q+(lz ys q).1) (q+(lz ys q).1) (cs++[(z0j ys f q,((lz ys q).1:Int),((lz ys q).2:Int))])):=fun f q cs h1 h2 h3=>h1.take h2 h3
 have HDN:Hid (∀ f q cs,St ys f q cs->¬q<ys.length->z0v ys=fin ys f cs):=fun f q cs h1 h2=>h1.done h2
 have HSR:Hid (∀ f q cs,St ys f q cs->f<=q/\q<=ys.length/\cs.length<=q):=fun f q cs h=>⟨h.fq,h.ql,h.cl⟩
 have HFW:Hid (∀ f q ss,St ys f q (ss.map Sq.ct)->Few4 ss/\∀ s:Sq,s.ls.length<=64->(0<=s.n/\s.n<=64)->(0<=s.d/\s.d<=64)->Few4 (ss++[s])):=fun f q ss h=>⟨h.few hn,fun s h1 h2 h3=>Few4.snoc h hn h1 h2 h3⟩
 have HST:Hid (St ys 0 0 []):=St.start ys;clear hb;generalize hL:ys.length=n at *;have HL:Hid (ys.length=n/\True):=⟨hL,trivial⟩;clear hL
 go_enter Tryz.func90,Tryz.ntmps90
 go_wp2
 go_loopw [3,4,5] (fun ov lv iv wr=>∃ (f q:Nat) (ss:List Sq) (ls:List Int),iv=.int .i64 q/\St ys f q (ss.map Sq.ct)/\ls=z0j ys f q/\OVB wr w.heap.size lv ls/\OVq wr w.heap.size ov ss/\DeepQ wr w.heap.size ss/\Aprt ss lv/\Below w.heap.size w wr) (fun _ _ iv _=>n-(intOf iv).toNat)
 case atStart=>exact ⟨0,0,[],[],rfl,HST.out,(z8f ys 0).symm,OVB.nil _ _,OVq.nil _ _,DeepQ.nil _ _,Aprt.none _,Below.refl _ _⟩
 case round=>
  obtain ⟨f,q,ss,ls,rfl,hst,hls,hob,hoq,hdq,hap,hbel⟩:=hrel;obtain ⟨la,lc,rfl⟩:=hob.form;obtain ⟨oa,oc,rfl⟩:=hoq.form;obtain ⟨hfq,hqn,hcl⟩:=HSR.out _ _ _ hst;have hll:ls.length=q-f:=by rw [hls];exact HCL.out f q hfq hqn
  rw [List.length_map] at hcl;have HS:Hid (St ys f q (ss.map Sq.ct)/\ls=z0j ys f q/\ls.length=q-f):=⟨hst,hls,hll⟩;have HO:Hid (OVB wr w.heap.size (.slice la ls.length lc) ls/\OVq wr w.heap.size (.slice oa ss.length oc) ss/\DeepQ wr w.heap.size ss/\Aprt ss (.slice la ls.length lc)):=⟨hob,hoq,hdq,hap⟩;have HB:Hid (Bw w wr):=hbel;have hsz:=hbel.size;have hlq:ls.length<=q:=by omega
  have hsq:ss.length<=q:=hcl;clear hst hls hob hoq hdq hap hbel hll hcl
  by_cases hlt:q<n
  ·have h1:=HLO.out wr q HB.out hlt
   have hle:=(HLE.out q).1;have hld:=(HLE.out q).2;obtain ⟨b1,o1,rfl,hbl,hbc⟩:=HBY.out.1.2 (by rw [HL.out.1];omega)
   have hz:=HRG.out q hlt;have HCZ:Hid (∀ W,Bw w W->W.cell? ⟨b1,o1+q,none⟩=some (.int .u8 (ys.getD q 0))):=fun W hW=>keep hW hbl (hbc q (by rw [HL.out.1];exact hlt))
   have HTQ:Hid (z74 ys q↔0<(lz ys q).1/\(lz ys (q+1)).1<=(lz ys q).1):=Iff.rfl;have HCQ:Hid (z0j ys f q++[ys.getD q 0]=z0j ys f (q+1)/\True):=⟨HCN.out f q hfq hlt,trivial⟩;have HT2:Hid (z74 ys q->St ys (q+(lz ys q).1) (q+(lz ys q).1) (ss.map Sq.ct++[(z0j ys f q,((lz ys q).1:Int),((lz ys q).2:Int))])):=fun h=>HTT.out f q _ HS.out.1 hlt h
   clear hbl hbc;generalize ys.getD q 0=z at *;generalize (lz ys q).1=x at *;generalize (lz ys q).2=y at *;have hxn:q+x<=n:=by omega
   go_wp2_with fail
   refine h1.mono ?_;clear h1;rintro e w1 ⟨rfl,hb1⟩;have HB1:Hid (Bw w w1):=HB.out.trans (hb1.mono hsz);have HO1:Hid (OVB w1 w.heap.size (.slice la ls.length lc) ls/\OVq w1 w.heap.size (.slice oa ss.length oc) ss/\DeepQ w1 w.heap.size ss/\Aprt ss (.slice la ls.length lc)):=⟨HO.out.1.below hb1,HO.out.2.1.below hb1,HO.out.2.2.1.below hb1,HO.out.2.2.2⟩;have hsz1:=HB1.out.size;clear hb1 HO HB hsz hle
   by_cases hx0:x=0
   ·subst hx0
    have hcz:=HCZ.out w1 HB1.out;have HWT:Hid (St ys f (q+1) (ss.map Sq.ct)/\ls++[z]=z0j ys f (q+1)):=⟨HTW.out f q _ HS.out.1 hlt (fun h=>by have:=(HTQ.out.1 h).1;omega),by rw [HS.out.2.1];exact HCQ.out.1⟩
    go_wp2_with (at_builtin;(refine z17 rfl (.tmp 41) (.tmp 46) rfl w.heap.size (.slice la ls.length lc) ls rfl (HO1.out.1.alloc _) w1.heap.size 1 z rfl (by simp) hz (by omega) (by simp;omega) ?_);intro v4 w4 hown hgrow hat)
    have HO4:Hid (OVB w4 w.heap.size v4 (ls++[z])/\OVq w4 w.heap.size (.slice oa ss.length oc) ss/\DeepQ w4 w.heap.size ss/\Aprt ss v4):=by
     have hbA:Bw w1 (w1.alloc (Obj.cells #[.int .u8 z] 5)):=bAw;exact ⟨hown,(HO1.out.2.1.below hbA).grownB (HO1.out.1.alloc _) hgrow,(HO1.out.2.2.1.below hbA).grownB HO1.out.2.2.2 hgrow,HO1.out.2.2.2.app HO1.out.2.2.1 hat (by simp)⟩
    have HB4:Hid (Bw w w4):=(HB1.out.alloc HB1.out.size _).grown hgrow (by have:=HB1.out.size;simp;omega) (fun k hk=>(HO1.out.1.blk hk))
    clear hown hgrow hat hcz;go_roundw
    case rel=>exact ⟨f,q+1,ss,ls++[z],by go_num,HWT.out.1,HWT.out.2,HO4.out.1,HO4.out.2.1,HO4.out.2.2.1,HO4.out.2.2.2,HB4.out⟩
    case measure=>simp [intOf];omega
   ·have hx1:(0:Int)<(x:Int):=by omega
    have hx2:0<x:=by omega
    by_cases hq1:q+1<n
    ·have hq1I:(q:Int)+1<(n:Int):=by omega
     have h2:=HLO.out w1 (q+1) HB1.out hq1;have e1:((q+1:Nat):Int)=(q:Int)+1:=by omega
     rw [e1] at h2;obtain ⟨m,hm⟩:∃ m,m=(lz ys (q+1)).1:=⟨_,rfl⟩;rw [<-hm] at h2;have HM:Hid (m=(lz ys (q+1)).1/\True):=⟨hm,trivial⟩;have hmb:m<=64:=by have:=(HLE.out (q+1)).1;omega
     generalize (lz ys (q+1)).2=md at *;clear hm e1;go_wp2_with fail
     refine h2.mono ?_;clear h2;rintro e w2 ⟨rfl,hb2⟩;have HB2:Hid (Bw w w2):=HB1.out.trans (hb2.mono hsz1);have HO2:Hid (OVB w2 w.heap.size (.slice la ls.length lc) ls/\OVq w2 w.heap.size (.slice oa ss.length oc) ss/\DeepQ w2 w.heap.size ss/\Aprt ss (.slice la ls.length lc)):=⟨HO1.out.1.below hb2,HO1.out.2.1.below hb2,HO1.out.2.2.1.below hb2,HO1.out.2.2.2⟩;have hsz2:=HB2.out.size;clear hb2 HO1 HB1 hsz1
     by_cases hmx:x<m
     ·have hmxI:(x:Int)<(m:Int):=by omega
      have hcz:=HCZ.out w2 HB2.out;have HWT:Hid (St ys f (q+1) (ss.map Sq.ct)/\ls++[z]=z0j ys f (q+1)):=⟨HTW.out f q _ HS.out.1 hlt (fun h=>by have h3:=(HTQ.out.1 h).2;rw [<-HM.out.1] at h3;omega),by rw [HS.out.2.1];exact HCQ.out.1⟩
      go_wp2_with (at_builtin;(refine z17 rfl (.tmp 41) (.tmp 46) rfl w.heap.size (.slice la ls.length lc) ls rfl (HO2.out.1.alloc _) w2.heap.size 1 z rfl (by simp) hz (by omega) (by simp;omega) ?_);intro v4 w4 hown hgrow hat)
      have HO4:Hid (OVB w4 w.heap.size v4 (ls++[z])/\OVq w4 w.heap.size (.slice oa ss.length oc) ss/\DeepQ w4 w.heap.size ss/\Aprt ss v4):=by
       have hbA:Bw w2 (w2.alloc (Obj.cells #[.int .u8 z] 5)):=bAw;exact ⟨hown,(HO2.out.2.1.below hbA).grownB (HO2.out.1.alloc _) hgrow,(HO2.out.2.2.1.below hbA).grownB HO2.out.2.2.2 hgrow,HO2.out.2.2.2.app HO2.out.2.2.1 hat (by simp)⟩
      have HB4:Hid (Bw w w4):=(HB2.out.alloc HB2.out.size _).grown hgrow (by have:=HB2.out.size;simp;omega) (fun k hk=>(HO2.out.1.blk hk))
      clear hown hgrow hat hcz;go_roundw
      case rel=>exact ⟨f,q+1,ss,ls++[z],by go_num,HWT.out.1,HWT.out.2,HO4.out.1,HO4.out.2.1,HO4.out.2.2.1,HO4.out.2.2.2,HB4.out⟩
      case measure=>simp [intOf];omega
     ·have hmxI:¬(x:Int)<(m:Int):=by omega
      have hx3:¬(x:Int)=0:=by omega
      have HTK:Hid (St ys (q+x) (q+x) (ss.map Sq.ct++[(ls,(x:Int),(y:Int))])):=by rw [HS.out.2.1];exact HT2.out (HTQ.out.2 ⟨hx2,by rw [<-HM.out.1];omega⟩)
      go_wp2_with (at_builtin;(refine z03 rfl (.tmp 50) (.tmp 55) rfl w.heap.size (.slice oa ss.length oc) ss rfl (HO2.out.2.1.below ((Below.refl _ _).alloc nl _)) w2.heap.size 1 ⟨la,lc,ls,(x:Int),(y:Int)⟩ rfl (z3l w2 la ls.length lc _ _ _ _ rfl rfl rfl rfl rfl) (by omega) (by simp;omega) ?_);intro v4 w4 hown hgrow)
      have HO4:Hid (OVq w4 w.heap.size v4 (ss++[⟨la,lc,ls,(x:Int),(y:Int)⟩])/\DeepQ w4 w.heap.size (ss++[⟨la,lc,ls,(x:Int),(y:Int)⟩])):=by
       obtain ⟨a5,c5,e5,hm5,hr5⟩:=HO2.out.1.mineAt;obtain ⟨rfl,rfl⟩:la=a5/\lc=c5:=by simpa using e5
       have hd5:DeepQ w2 w.heap.size (ss++[⟨la,lc,ls,(x:Int),(y:Int)⟩]):=HO2.out.2.2.1.snoc hm5 (fun z hz k hk hk2=>HO2.out.2.2.2 z hz k hk (hr5 k hk2))
       exact ⟨hown,(hd5.below ((Below.refl _ _).alloc nl _)).grown (HO2.out.2.1.below ((Below.refl _ _).alloc nl _)) hgrow⟩
      have HB4:Hid (Bw w w4):=(HB2.out.alloc HB2.out.size _).grown hgrow (by have:=HB2.out.size;simp;omega) (fun k hk=>(HO2.out.2.1.blk hk).1)
      have HMP:Hid ((ss++[(⟨la,lc,ls,(x:Int),(y:Int)⟩:Sq)]).map Sq.ct=ss.map Sq.ct++[(ls,(x:Int),(y:Int))]/\True):=⟨by rw [List.map_append];rfl,trivial⟩
      clear hown hgrow;go_roundw
      case rel=>exact ⟨q+x,q+x,ss++[⟨la,lc,ls,(x:Int),(y:Int)⟩],[],by congr 1,by rw [HMP.out.1];exact HTK.out,(z8f ys (q+x)).symm,OVB.nil _ _,HO4.out.1,HO4.out.2,Aprt.none _,HB4.out⟩
      case measure=>simp [intOf];omega
    ·have hq1I:¬(q:Int)+1<(n:Int):=by omega
     have hx3:¬(x:Int)=0:=by omega
     have HTK:Hid (St ys (q+x) (q+x) (ss.map Sq.ct++[(ls,(x:Int),(y:Int))])):=by rw [HS.out.2.1];exact HT2.out (HTQ.out.2 ⟨hx2,by rw [HEN.out (q+1) hq1];omega⟩)
     go_wp2_with (at_builtin;(refine z03 rfl (.tmp 50) (.tmp 55) rfl w.heap.size (.slice oa ss.length oc) ss rfl (HO1.out.2.1.below ((Below.refl _ _).alloc nl _)) w1.heap.size 1 ⟨la,lc,ls,(x:Int),(y:Int)⟩ rfl (z3l w1 la ls.length lc _ _ _ _ rfl rfl rfl rfl rfl) (by omega) (by simp;omega) ?_);intro v4 w4 hown hgrow)
     have HO4:Hid (OVq w4 w.heap.size v4 (ss++[⟨la,lc,ls,(x:Int),(y:Int)⟩])/\DeepQ w4 w.heap.size (ss++[⟨la,lc,ls,(x:Int),(y:Int)⟩])):=by
      obtain ⟨a5,c5,e5,hm5,hr5⟩:=HO1.out.1.mineAt;obtain ⟨rfl,rfl⟩:la=a5/\lc=c5:=by simpa using e5
      have hd5:DeepQ w1 w.heap.size (ss++[⟨la,lc,ls,(x:Int),(y:Int)⟩]):=HO1.out.2.2.1.snoc hm5 (fun z hz k hk hk2=>HO1.out.2.2.2 z hz k hk (hr5 k hk2))
      exact ⟨hown,(hd5.below ((Below.refl _ _).alloc nl _)).grown (HO1.out.2.1.below ((Below.refl _ _).alloc nl _)) hgrow⟩
     have HB4:Hid (Bw w w4):=(HB1.out.alloc HB1.out.size _).grown hgrow (by have:=HB1.out.size;simp;omega) (fun k hk=>(HO1.out.2.1.blk hk).1)
     have HMP:Hid ((ss++[(⟨la,lc,ls,(x:Int),(y:Int)⟩:Sq)]).map Sq.ct=ss.map Sq.ct++[(ls,(x:Int),(y:Int))]/\True):=⟨by rw [List.map_append];rfl,trivial⟩
     clear hown hgrow;go_roundw
     case rel=>exact ⟨q+x,q+x,ss++[⟨la,lc,ls,(x:Int),(y:Int)⟩],[],by congr 1,by rw [HMP.out.1];exact HTK.out,(z8f ys (q+x)).symm,OVB.nil _ _,HO4.out.1,HO4.out.2,Aprt.none _,HB4.out⟩
     case measure=>simp [intOf];omega
  ·have HF:Hid (z0v ys=fin ys f (ss.map Sq.ct)/\q=n):=⟨HDN.out f q _ HS.out.1 hlt,by omega⟩
   have HFQ:=HFW.out f q ss HS.out.1
   by_cases hl0:ls.length=0
   ·have HFN:Hid (z0v ys=ss.map Sq.ct/\Few4 ss):=by
     refine ⟨?_,HFQ.1⟩;rw [HF.out.1];unfold fin;rw [if_neg (by have:=HS.out.2.2;have:=HF.out.2;rw [HL.out.1];omega)]
    have hl0I:¬(0:Int)<(ls.length:Int):=by omega
    clear HFQ;go_wp2;go_ret;exact ⟨⟨_,rfl,ss,HFN.out.1.symm,HO.out.2.1,HO.out.2.2.1,HFN.out.2⟩,HB.out⟩
   ·have hl0I:(0:Int)<(ls.length:Int):=by omega
    have HFN:Hid (z0v ys=ss.map Sq.ct++[(ls,0,0)]/\Few4 (ss++[⟨la,lc,ls,0,0⟩])):=by
     refine ⟨?_,HFQ.2 _ (by show ls.length<=64;omega) ⟨by simp,by simp⟩ ⟨by simp,by simp⟩⟩
     rw [HF.out.1];unfold fin;rw [if_pos (by have:=HS.out.2.2;have:=HF.out.2;rw [HL.out.1];omega),HL.out.1,HS.out.2.1,HF.out.2]
    have hl0n:0<ls.length:=by omega
    clear hl0 HFQ;go_wp2_with (at_builtin;(refine z03 rfl (.tmp 63) (.tmp 66) rfl w.heap.size (.slice oa ss.length oc) ss rfl (HO.out.2.1.below ((Below.refl _ _).alloc nl _)) wr.heap.size 1 ⟨la,lc,ls,0,0⟩ rfl (z3l wr la ls.length lc _ _ _ _ rfl rfl rfl rfl rfl) (by omega) (by simp;omega) ?_);intro v4 w4 hown hgrow)
    go_ret;obtain ⟨a5,c5,e5,hm5,hr5⟩:=HO.out.1.mineAt;obtain ⟨rfl,rfl⟩:la=a5/\lc=c5:=by simpa using e5
    have hd5:DeepQ wr w.heap.size (ss++[⟨la,lc,ls,0,0⟩]):=HO.out.2.2.1.snoc hm5 (fun z hz k hk hk2=>HO.out.2.2.2 z hz k hk (hr5 k hk2))
    exact ⟨⟨v4,rfl,ss++[⟨la,lc,ls,0,0⟩],by rw [HFN.out.1,List.map_append];rfl,hown,(hd5.below ((Below.refl _ _).alloc nl _)).grown (HO.out.2.1.below ((Below.refl _ _).alloc nl _)) hgrow,HFN.out.2⟩,(HB.out.alloc hsz _).grown hgrow (by simp;omega) (fun k hk=>(HO.out.2.1.blk hk).1)⟩
open Go.Maps Go.ChangeShapes Go.ChangeAt
theorem Tryz.zeroSI (w:World):(zeroValue 57).run Tryz.prog w=.ok (.slice none 0 0) w:=by kernel_rfl
def Itm (d:DataW Unit) (zs:List Int):Prop:=(d=.nil/\zs=[])\/d=.slice (lits .i64 zs) []
theorem zl8 {zs ys:List Int} (h:(lits .i64 zs:List (DataW Unit))=lits .i64 ys):zs=ys:=by
 unfold lits at h;exact (List.map_inj_right (fun a b hab=>by simpa using hab)).1 h
theorem Itm.eq {d:DataW Unit} {zs ys:List Int} (h:Itm d zs) (h2:Itm d ys):zs=ys:=by
 rcases h with ⟨h,rfl⟩ | h <;> rcases h2 with ⟨h2,rfl⟩ | h2
 ·rfl
 ·rw [h] at h2;cases h2
 ·rw [h] at h2;cases h2
 ·rw [h] at h2
  injection h2 with h2
  exact zl8 h2
theorem Itm.of {w:World} {base:Nat} {e:TypeId} {v:Value} {zs:List Int} {d:DataW Unit} (h:w.ownsInts base e .i64 v zs) (hd:d=rowDatum .i64 v zs):Itm d zs:=by
 rcases h.datum (H:=Unit) with ⟨h1,h2⟩ | h1
 ·exact .inl ⟨hd.trans h1,h2⟩
 ·exact .inr (hd.trans h1)
theorem zf0 {w w':World} (hb:Below w.heap.size w w'):w.grownBy w' none:=⟨hb.os,hb.tape,hb.output,hb.size,fun k hk _=>hb.block k hk⟩
theorem z5w {P:Program} {ops:Array Oper} {o:Oper} {a:Act} {w:World} {K:Act->World->Prop} {Q:Exit->Act->World->Prop} {E:Prop} (hg:o.guard=none) (h:Oper.wp P o a w K Q) :
  if Region.wanted o (yielded ops a.tmps)=true then Oper.wp P o a w K Q else E:=by
 rw [if_pos (by simp [Region.wanted,hg])]
 exact h
theorem z6b {o:Oper} {a:Act} {w:World} {K:Act->World->Prop} {Q:Exit->Act->World->Prop} (s x:Operand) (ho:o.op=.call { callee:=.builtin .append,args:=#[s,x],argTypes:=#[57,57] })
  (B:Nat) (v:Value) (zs:List Int) (hs:a.eval s=v) (hown:OVI w B v zs) (X:Nat) (z:Int) (hx:a.eval x=.slice (some ⟨X,0,none⟩) 1 1) (hX:w.cell? ⟨X,0,none⟩=some (.int .i64 z)) (hz0:-9223372036854775808<=z) (hz1:z<=9223372036854775807) (hb1:zs.length<=1000000) (hbase:B<=w.heap.size)
  (h:∀ v' w',OVI w' B v' (zs++[z])->w.grownBy w' v.ownBlock->(v'.ownBlock=v.ownBlock\/v'.ownBlock=some w.heap.size)->K (a.put o.dst v') w'):o.wp Tryz.prog a w K Q:=by
 obtain ⟨i0,hi,hz0',hz1',hz2⟩:=info_parts Tryz.infoI64;obtain ⟨v',w',hr,h2,h3,_,h5⟩:=run_append_own_at (P:=Tryz.prog) w B 57 o.type 3 i0 (.int .i64 0) 1 8 Tryz.underlying57 hi hz0' hz1' hz2 rfl (by decide) v zs.length _ hown.1 ⟨X,0,none⟩ 1 1 [.int .i64 z] rfl (by
  intro j u hu
  cases j with
  | zero=>simp at hu;subst hu;simpa [Addr.add] using hX
  | succ j=>simp at hu) (by simp [Value.oneCell']) (by unfold maxLen;omega) (by omega) hbase
 have hr':(Builtin.append_ #[57,57] o.type #[v,.slice (some ⟨X,0,none⟩) 1 1]).run Tryz.prog w=.ok v' w':=hr;unfold Oper.wp execOp
 simp only [ho,resolve,invoke,builtin,Sem.run_bind,Sem.run_pure,Result.andThen_ok,List.map_toArray,List.map_cons,List.map_nil,hs,hx,hr']
 refine h v' w' ⟨?_,fun y hy=>?_⟩ h3 h5
 ·rw [List.length_append,List.map_append]
  exact h2
 ·rcases List.mem_append.1 hy with hy | hy
  ·exact hown.2 y hy
  ·simp at hy
   omega
theorem z3t {w:World} {R j:Nat} {cur:Array Value} {T:TypeId} {v:Value} (hR:w.heap[R]?=some (.cells cur T (0,0))) (hv:cur[j]?=some v):w.cell? ⟨R,j,none⟩=some v:=by
 rw [cell_of_row w R j cur T (0,0) hR];exact hv
theorem zau {w0 w1 w2:World} {M:Nat} {v:Value} {zs:List Int} {wv:World} (hg1:w0.grownBy w1 v.ownBlock) (hg2:w1.grownBy w2 (some M)) (hM:M<=w0.heap.size) (ho:OVI wv (M+1) v zs):Below M w0 w2:=
 (((Below.refl M w0).grown hg1 hM (fun j hj=>by have:=ho.blk hj;omega)).grown hg2 (by have:=hg1.size;omega) (fun j hj=>by cases hj;exact Nat.le_refl _))
end Go.Proofs.YtjmcjbmjgpponaaGreatDoor
namespace Go.Proofs.YtjmcjbmjgpponaaGreatDoor
open Go.RowKit
set_option linter.unusedVariables false
set_option linter.unusedSimpArgs false
def LtA (ys:List Int) (p:Nat) (x y z:Int):Prop:=(p+3<=ys.length->x=ys.getD p 0/\y=ys.getD (p+1) 0/\z=ys.getD (p+2) 0)/\(0<=x/\x<=255)/\(0<=y/\y<=255)/\(0<=z/\z<=255)
end Go.Proofs.YtjmcjbmjgpponaaGreatDoor
