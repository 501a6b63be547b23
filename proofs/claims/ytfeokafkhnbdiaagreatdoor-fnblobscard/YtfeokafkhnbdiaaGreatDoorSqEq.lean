/- Lemmas on the way. -/
import Derived.Test.YtfeokafkhnbdiaaGreatDoorPut4
import Derived.BigQuiet
import Derived.Test.YtfeokafkhnbdiaaGreatDoorPcB
import Derived.Test.YtfeokafkhnbdiaaGreatDoorFnD
import Derived.Test.YtfeokafkhnbdiaaGreatDoorEnF
import Derived.Test.YtfeokafkhnbdiaaGreatDoorPut1
import Derived.Maps.AppendAt
import Derived.Deep.RegionHeld3
namespace Go.Proofs.YtfeokafkhnbdiaaGreatDoor
open Go.RowKit
set_option linter.unusedVariables false
theorem val_encB (M V:Nat) (h:V<2 ^ M):val (enc M V)=V:=by
 unfold enc
 rw [val_encL]
 refine Nat.mod_eq_of_lt (Nat.lt_of_lt_of_le h ?_)
 rw [show 256=2 ^ 8 from rfl,←Nat.pow_mul]
 exact Nat.pow_le_pow_right (by omega) (by omega)
theorem okB_encB (M V:Nat) (hM:M≤4096) (h:V<2 ^ M):okB (M:Int) (enc M V)=true:=by
 have hl:=enc_len M V
 by_cases h8:M % 8=0
 ·exact okB_full (by omega) (by omega) (by rw [hl];omega) (by omega)
 ·rw [okB_last (by omega) (by omega) (by rw [hl];omega) (by omega)]
  have h1:=enc_last M V h h8
  have h2:=enc_top M V h
  rw [show (enc M V).length-1=M / 8 from by omega,h1,show ((M:Int) % 8).toNat=M % 8 from by omega]
  have e:(((V / 256 ^ (M / 8):Nat):Int) / 2 ^ (M % 8))=((V / 256 ^ (M / 8) / 2 ^ (M % 8):Nat):Int):=by simp
  rw [e,Nat.div_eq_of_lt h2]
  rfl
set_option linter.unusedSimpArgs false
theorem Tryz.infoSeq :(Tryz.prog.info? 37).map (fun i=>(i.zero,i.size,i.bytes))=some (some (.agg #[.slice none 0 0,.int .i64 0,.int .i64 0]),3,40):=by kernel_rfl
def OVB (w:World) (B:Nat) (v:Value) (zs:List Int):Prop:=w.ownsRow B 5 1 v zs.length (zs.map (Value.int .u8))∧∀ z ∈ zs,0≤z∧z≤255
theorem OVB.nil (w:World) (B:Nat):OVB w B (.slice none 0 0) []:=⟨⟨rfl,.inl ⟨rfl,rfl⟩⟩,by simp⟩
theorem OVB.form {w:World} {B:Nat} {v:Value} {zs:List Int} (h:OVB w B v zs):∃ (a:Option Addr) (c:Nat),v=.slice a zs.length c:=by
 rcases h.1.2 with ⟨rfl,h0⟩ | ⟨g,cap,cur,rfl,_⟩
 ·exact ⟨none,0,by rw [h0]⟩
 ·exact ⟨_,_,rfl⟩
theorem OVB.blk {w:World} {B:Nat} {v:Value} {zs:List Int} (h:OVB w B v zs) {k:Nat} (hk:v.ownBlock=some k):B≤k:=by
 rcases h.1.2 with ⟨rfl,h0⟩ | ⟨g,cap,cur,rfl,hg,_⟩
 ·simp [Value.ownBlock] at hk
 ·simp [Value.ownBlock] at hk
  omega
theorem OVB.mine {w:World} {B:Nat} {v:Value} {zs:List Int} (h:OVB w B v zs):∃ (a:Option Addr) (cp:Nat),v=.slice a zs.length cp∧Mine w B w.heap.size a cp zs:=by
 rcases h.1.2 with ⟨rfl,h0⟩ | ⟨g,cap,cur,rfl,hg,hh,r⟩
 ·exact ⟨none,0,by rw [h0],.inl ⟨rfl,List.eq_nil_of_length_eq_zero h0,rfl⟩⟩
 ·exact ⟨some ⟨g,0,none⟩,cap,rfl,Own.mine (cap:=cap) h⟩
theorem OVB.stay {S:Nat→Prop} {w w':World} {B:Nat} {v:Value} {zs:List Int} (h:OVB w B v zs) (ho:Only S w w') (hs:∀ k,B≤k→¬S k):OVB w' B v zs:=by
 refine ⟨⟨h.1.1,?_⟩,h.2⟩
 rcases h.1.2 with h' | ⟨g,cap,cur,h',hg,hh,r⟩
 ·exact .inl h'
 ·exact .inr ⟨g,cap,cur,h',hg,(ho.block g (Array.getElem?_eq_some_iff.1 hh).1 (hs g hg)).trans hh,r⟩
theorem OVB.weak {w:World} {B B':Nat} {v:Value} {zs:List Int} (h:OVB w B v zs) (hB:B'≤B):OVB w B' v zs:=by
 refine ⟨⟨h.1.1,?_⟩,h.2⟩
 rcases h.1.2 with h' | ⟨g,cap,cur,h',hg,r⟩
 ·exact .inl h'
 ·exact .inr ⟨g,cap,cur,h',by omega,r⟩
theorem OVB.alloc {w:World} {B:Nat} {v:Value} {zs:List Int} (h:OVB w B v zs) (o:Obj):OVB (w.alloc o) B v zs:=⟨h.1.alloc o,h.2⟩
theorem OVB.byt {w:World} {B:Nat} {a:Option Addr} {n c:Nat} {zs:List Int} (h:OVB w B (.slice a n c) zs):Byt w a zs:=by
 obtain ⟨a',c',e,hm⟩:=h.mine
 obtain ⟨rfl,-,-⟩:a=a'∧n=zs.length∧c=c':=by simpa using e
 exact hm.byt
theorem OVB.below {w w':World} {B:Nat} {v:Value} {zs:List Int} (h:OVB w B v zs) (hb:Below w.heap.size w w'):OVB w' B v zs:=h.stay (Only.ofBelow (S:=fun _=>False) hb nl) (by simp)
theorem byt_one (w:World) (z:Int) (hz:0≤z∧z≤255):Byt (w.alloc (.cells #[.int .u8 z] 5)) (some ⟨w.heap.size,0,none⟩) [z]:=by
 refine ⟨by intro y hy;simp at hy;rw [hy];exact hz,fun _=>⟨w.heap.size,0,rfl,by simp,fun i hi=>?_⟩⟩
 obtain rfl:i=0:=by simp at hi;omega
 simp
theorem run_append_none {P:Program} (w:World) (t ty e:TypeId) (i:TypeInfo) (ht:P.underlying t=some (.slice e)) (hi:P.info? e=some i) (base size n:Nat) (v:Value) (xs:List Value) (hown:w.ownsRow base e size v n xs) (c:Nat) :
  (Builtin.append_ #[t,t] ty #[v,.slice none 0 c]).run P w=.ok v w:=by
 rcases hown.2 with ⟨rfl,rfl⟩ | ⟨g,cap,cur,rfl,_,hg,hnc,_⟩
 ·simp [Builtin.append_,run_underlying ht,sizeOf,typeInfo,hi,Builtin.lenOf,Builtin.firstCells]
 ·simp [Builtin.append_,run_underlying ht,sizeOf,typeInfo,hi,Builtin.lenOf,Builtin.firstCells,hnc,storeCells]
theorem wpList_append_byt {ops:Array Oper} {rest:List Oper} {o:Oper} {a:Act} {Q:Exit→Act→World→Prop} {w:World} (hgd:o.guard=none) (s x:Operand)
  (ho:o.op=.call { callee:=.builtin .append,args:=#[s,x],argTypes:=#[22,22] })
  (B:Nat) (v:Value) (zs:List Int) (hs:a.eval s=v) (hown:OVB w B v zs) (xa:Option Addr) (c:Nat) (ys:List Int) (hx:a.eval x=.slice xa ys.length c) (hy:Byt w xa ys) (hb1:zs.length+ys.length≤1000000) (hbase:B≤w.heap.size)
  (h:∀ v' w',OVB w' B v' (zs++ys)→w.grownBy w' v.ownBlock→wpList Tryz.prog ops Q rest (a.put o.dst v') w'):wpList Tryz.prog ops Q (o :: rest) a w:=by
 obtain ⟨i0,hi,hz0,hz1,hz2⟩:=info_parts Tryz.infoU8
 have hr:∀ z ∈ zs++ys,0≤z∧z≤255:=fun z hz=>(List.mem_append.1 hz).elim (hown.2 z) (hy.1 z)
 cases xa with
 | none=>
  have hy0:ys=[]:=by
   rcases Nat.eq_zero_or_pos ys.length with h0 | h0
   ·exact List.eq_nil_of_length_eq_zero h0
   ·obtain ⟨b,off,e,_⟩:=hy.2 h0
    cases e
  subst hy0
  refine wpList_plain hgd fun K hK'=>?_
  have hrun:=run_append_none (P:=Tryz.prog) w 22 o.type 5 i0 Tryz.underlying22 hi B 1 zs.length v _ hown.1 c
  unfold Oper.wp execOp
  simp only [List.length_nil] at hx
  simp only [ho,resolve,invoke,builtin,Sem.run_bind,Sem.run_pure,Result.andThen_ok,List.map_toArray,List.map_cons,List.map_nil,hs,hx,hrun]
  exact hK' _ _ (h v w (by simpa using hown) (World.grownBy.refl w _))
 | some ad=>
  have hnews:∀ j u,(ys.map (Value.int .u8))[j]?=some u→w.cell? (ad.add j)=some u:=by
   intro j u hu
   have hj:j<ys.length:=by
    rcases Nat.lt_or_ge j ys.length with h | h
    ·exact h
    ·rw [List.getElem?_eq_none (by simpa using h)] at hu;cases hu
   obtain ⟨b,off,e,_,hc⟩:=hy.2 (by omega)
   obtain rfl:ad=⟨b,off,none⟩:=by simpa using e
   exact news_of hc j u hu
  refine wpList_append_own w hgd s x 22 ho B 5 i0 (.int .u8 0) 1 1 Tryz.underlying22 hi hz0 hz1 hz2 rfl (by decide) v zs.length _ hs hown.1 ad ys.length c (ys.map (Value.int .u8)) hx (by simp) hnews (oneCells ys) (by unfold maxLen;omega) (by omega) hbase ?_
  intro v' w' h1 h2 _
  refine h v' w' ⟨?_,hr⟩ h2
  rw [List.length_append,List.map_append]
  exact h1
theorem appB_below {w0 wr w1:World} {B:Nat} {v:Value} {zs:List Int} (hbel:Below B w0 wr) (hB:B≤wr.heap.size) (h:OVB wr B v zs) (hg:wr.grownBy w1 v.ownBlock):Below B w0 w1:=
 hbel.grown hg hB (fun k hk=>h.blk hk)
theorem OVB.blk_ne {w:World} {B:Nat} {v:Value} {zs:List Int} (h:OVB w B v zs) {Q:Nat} {cur:Array Value} {T:TypeId} (hQ:w.heap[Q]?=some (.cells cur T (0,0))) (hT:T≠5):some Q≠v.ownBlock:=by
 rcases h.1.2 with ⟨rfl,h0⟩ | ⟨g,cap,cur',rfl,hg,hh,_⟩
 ·simp [Value.ownBlock]
 ·simp only [Value.ownBlock,ne_eq,Option.some.injEq]
  rintro rfl
  rw [hQ] at hh
  simp at hh
  exact hT hh.2
theorem grown_blk {w w':World} {row:Option Nat} (hg:w.grownBy w' row) {Q:Nat} {o:Obj} (hQ:w.heap[Q]?=some o) (hne:some Q≠row):w'.heap[Q]?=some o:=(hg.block Q (Array.getElem?_eq_some_iff.1 hQ).1 hne).trans hQ
theorem blk_cell {w:World} {R j:Nat} {cur:Array Value} {T:TypeId} {v:Value} (hR:w.heap[R]?=some (.cells cur T (0,0))) (hv:cur[j]?=some v):w.cell? ⟨R,j,none⟩=some v:=by
 rw [cell_of_row w R j cur T (0,0) hR];exact hv
structure OVq (w:World) (B:Nat) (v:Value) (ss:List Sq):Prop where
 own:w.ownsRow B 37 3 v ss.length (ss.flatMap Sq.cells)
structure DeepQ (w:World) (B:Nat) (ss:List Sq):Prop where
 mine:∀ s ∈ ss,Mine w B w.heap.size s.a s.c s.ls
 apart:(ss.map Sq.a).Pairwise (fun x y=>∀ k,rowOf x k→¬rowOf y k)
section
variable {w w' : World} {B : Nat} {v : Value} {ss : List Sq}
theorem OVq.nil (w:World) (B:Nat):OVq w B (.slice none 0 0) []:=⟨⟨by simp,.inl ⟨rfl,rfl⟩⟩⟩
theorem OVq.form (h:OVq w B v ss):∃ (a:Option Addr) (c:Nat),v=.slice a ss.length c:=by
 rcases h.own.2 with ⟨rfl,h0⟩ | ⟨g,cap,cur,rfl,_⟩
 ·exact ⟨none,0,by rw [h0]⟩
 ·exact ⟨_,_,rfl⟩
theorem OVq.blk (h:OVq w B v ss) {k:Nat} (hk:v.ownBlock=some k):B≤k∧k<w.heap.size:=by
 rcases h.own.2 with ⟨rfl,h0⟩ | ⟨g,cap,cur,rfl,hg,hh,_⟩
 ·simp [Value.ownBlock] at hk
 ·simp [Value.ownBlock] at hk
  subst hk
  exact ⟨hg,(Array.getElem?_eq_some_iff.1 hh).1⟩
theorem OVq.stay {S:Nat→Prop} (h:OVq w B v ss) (ho:Only S w w') (hs:∀ k,v.ownBlock=some k→¬S k):OVq w' B v ss:=by
 refine ⟨⟨h.own.1,?_⟩⟩
 rcases h.own.2 with h' | ⟨g,cap,cur,rfl,hg,hh,r⟩
 ·exact .inl h'
 ·exact .inr ⟨g,cap,cur,rfl,hg,(ho.block g (Array.getElem?_eq_some_iff.1 hh).1 (hs g rfl)).trans hh,r⟩
theorem OVq.below (h:OVq w B v ss) (hb:Below w.heap.size w w'):OVq w' B v ss:=h.stay (Only.ofBelow (S:=fun _=>False) hb nl) (by simp)
theorem OVq.weak {B':Nat} (h:OVq w B v ss) (hB:B'≤B):OVq w B' v ss:=by
 refine ⟨⟨h.own.1,?_⟩⟩
 rcases h.own.2 with h' | ⟨g,cap,cur,h',hg,r⟩
 ·exact .inl h'
 ·exact .inr ⟨g,cap,cur,h',by omega,r⟩
theorem OVq.ne (h:OVq w B v ss) {Q:Nat} {cur:Array Value} {T:TypeId} (hQ:w.heap[Q]?=some (.cells cur T (0,0))) (hT:T≠37):v.ownBlock≠some Q:=by
 rcases h.own.2 with ⟨rfl,h0⟩ | ⟨g,cap,cur',rfl,hg,hh,_⟩
 ·simp [Value.ownBlock]
 ·simp only [Value.ownBlock,ne_eq,Option.some.injEq]
  rintro rfl
  rw [hQ] at hh
  simp at hh
  exact hT hh.2
theorem OVq.sqs {a:Option Addr} {n c:Nat} (h:OVq w B (.slice a n c) ss) (hr:∀ s ∈ ss,(rI s.n∧rI s.d∧s.ls.length≤maxLen)∧Byt w s.a s.ls):Sqs w a ss:=by
 refine ⟨fun s hs=>(hr s hs).1,fun hz=>?_⟩
 rcases h.own.2 with ⟨_,h0⟩ | ⟨g,cap,cur,e,hg,hh,r⟩
 ·omega
 ·simp at e
  obtain ⟨rfl,rfl,rfl⟩:=e
  refine ⟨g,0,rfl,(Array.getElem?_eq_some_iff.1 hh).1,fun i hi=>?_⟩
  obtain ⟨f0,f1,f2⟩:=flat_get ss i hi
  refine ⟨?_,?_,?_,(hr _ (getD_memS hi)).2⟩
  ·rw [Nat.zero_add,h.own.cellAt (i*3) (by omega),f0]
  ·rw [Nat.zero_add,h.own.cellAt (i*3+1) (by omega),f1]
  ·rw [Nat.zero_add,h.own.cellAt (i*3+2) (by omega),f2]
theorem DeepQ.nil (w:World) (B:Nat):DeepQ w B []:=⟨by simp,by simp⟩
theorem Mine.stayQ {S:Nat→Prop} {a:Option Addr} {U c:Nat} {zs:List Int} (h:Mine w B U a c zs) (ho:Only S w w') (hs:∀ k,rowOf a k→¬S k):Mine w' B U a c zs:=by
 rcases h with h | ⟨g,rfl,h1,h2,h⟩
 ·exact .inl h
 ·exact .inr ⟨g,rfl,h1,h2,h.only ho (hs g ⟨_,rfl,rfl⟩)⟩
theorem DeepQ.stay {S:Nat→Prop} (h:DeepQ w B ss) (ho:Only S w w') (hs:∀ s ∈ ss,∀ k,rowOf s.a k→¬S k):DeepQ w' B ss:=
 ⟨fun s hm=>((h.mine s hm).stayQ ho (hs s hm)).mono nl ho.size,h.apart⟩
theorem DeepQ.below (h:DeepQ w B ss) (hb:Below w.heap.size w w'):DeepQ w' B ss:=h.stay (Only.ofBelow (S:=fun _=>False) hb nl) (by simp)
theorem DeepQ.snoc {s:Sq} (h:DeepQ w B ss) (hm:Mine w B w.heap.size s.a s.c s.ls) (hap:∀ x ∈ ss,∀ k,rowOf x.a k→¬rowOf s.a k):DeepQ w B (ss++[s]):=by
 refine ⟨fun x hx=>?_,?_⟩
 ·rcases List.mem_append.1 hx with hx | hx
  ·exact h.mine x hx
  ·obtain rfl:x=s:=by simpa using hx
   exact hm
 ·rw [List.map_append,List.pairwise_append]
  refine ⟨h.apart,by simp,fun x hx y hy=>?_⟩
  obtain ⟨z,hz,rfl⟩:=List.mem_map.1 hx
  obtain rfl:y=s.a:=by simpa using hy
  exact hap z hz
theorem bytes_ne {a:Option Addr} {B' U c:Nat} {zs:List Int} (hm:Mine w B' U a c zs) {Q:Nat} {cur:Array Value} {T:TypeId} (hQ:w.heap[Q]?=some (.cells cur T (0,0))) (hT:T≠5):¬rowOf a Q:=by
 rintro ⟨x,hx,hxg⟩
 rcases hm with ⟨h',_⟩ | ⟨g',h',g1,g2,ho⟩
 ·rw [h'] at hx;cases hx
 ·rw [h'] at hx
  simp at hx
  rw [←hx] at hxg
  simp at hxg
  subst hxg
  rcases ho.1.2 with ⟨e,_⟩ | ⟨k,cap1,cur1,e,_,hh,_⟩
  ·simp at e
  ·obtain rfl:g'=k:=by simp at e;exact e.1
   rw [hQ] at hh
   simp at hh
   exact hT hh.2
theorem OVq.other (h:OVq w B v ss) {a:Option Addr} {B' U c:Nat} {zs:List Int} (hm:Mine w B' U a c zs) {g:Nat} (hg:v.ownBlock=some g):¬rowOf a g:=by
 rcases h.own.2 with ⟨e2,_⟩ | ⟨k2,cap2,cur2,e2,_,hh2,_⟩
 ·subst e2;simp [Value.ownBlock] at hg
 ·subst e2
  obtain rfl:k2=g:=by simpa [Value.ownBlock] using hg
  exact bytes_ne hm hh2 (by decide)
theorem Only.ofGrownQ {row:Option Nat} (hg:w.grownBy w' row):Only (fun k=>row=some k) w w':=(Only.refl (fun k=>row=some k) w).grown hg (fun k hk=>.inl hk)
theorem DeepQ.grown {ts:List Sq} (hd:DeepQ w B ts) (h:OVq w B v ss) (hg:w.grownBy w' v.ownBlock):DeepQ w' B ts:=
 hd.stay (Only.ofGrownQ hg) (fun x hx k hk e=>h.other (hd.mine x hx) e hk)
theorem DeepQ.byt (h:DeepQ w B ss) {s:Sq} (hs:s ∈ ss):Byt w s.a s.ls:=(h.mine s hs).byt
end
theorem oneCellQ (s:Sq):∀ u ∈ s.cells,u.oneCell'=true:=by
 intro u hu
 simp [Sq.cells] at hu
 rcases hu with rfl | rfl | rfl <;> rfl
theorem newsQ (w:World) (a:Option Addr) (L c:Nat) (n d:Int) (T:TypeId) (s:Sq) (h1:s.a=a) (h2:s.ls.length=L) (h3:s.c=c) (h4:s.n=n) (h5:s.d=d):∀ j u,s.cells[j]?=some u→(w.alloc (Obj.cells #[.slice a L c,.int .i64 n,.int .i64 d] T)).cell? ⟨w.heap.size,j,none⟩=some u:=by
 intro j u hu
 subst h1 h2 h3 h4 h5
 match j with
 | 0=>simp [Sq.cells] at hu;simp [hu]
 | 1=>simp [Sq.cells] at hu;simp [hu]
 | 2=>simp [Sq.cells] at hu;simp [hu]
 | j+3=>simp [Sq.cells] at hu
theorem wpList_append_sq {ops:Array Oper} {rest:List Oper} {o:Oper} {a:Act} {Q:Exit→Act→World→Prop} {w:World} (hgd:o.guard=none) (s x:Operand)
  (ho:o.op=.call { callee:=.builtin .append,args:=#[s,x],argTypes:=#[24,24] })
  (B:Nat) (v:Value) (ss:List Sq) (hs:a.eval s=v) (hown:OVq w B v ss) (X c:Nat) (e:Sq) (hx:a.eval x=.slice (some ⟨X,0,none⟩) 1 c) (hX:∀ j u,e.cells[j]?=some u→w.cell? ⟨X,j,none⟩=some u) (hb1:ss.length≤1000000) (hbase:B≤w.heap.size)
  (h:∀ v' w',OVq w' B v' (ss++[e])→w.grownBy w' v.ownBlock→wpList Tryz.prog ops Q rest (a.put o.dst v') w'):wpList Tryz.prog ops Q (o :: rest) a w:=by
 obtain ⟨i0,hi,hz0,hz1,hz2⟩:=info_parts Tryz.infoSeq
 obtain ⟨v',w',hr,h2,h3,_,_⟩:=run_append_own_at (P:=Tryz.prog) w B 24 o.type 37 i0 (.agg #[.slice none 0 0,.int .i64 0,.int .i64 0]) 3 40 Tryz.underlying24 hi hz0 hz1 hz2 rfl (by decide) v ss.length _ hown.own ⟨X,0,none⟩ 1 c e.cells rfl (fun j u hu=>by rw [show (⟨X,0,none⟩:Addr).add j=⟨X,j,none⟩ from by unfold Addr.add;split <;> simp_all];exact hX j u hu) (oneCellQ e) (by unfold maxLen;omega) (by omega) hbase
 refine wpList_plain hgd fun K hK'=>?_
 unfold Oper.wp execOp
 simp only [ho,resolve,invoke,builtin,Sem.run_bind,Sem.run_pure,Result.andThen_ok,List.map_toArray,List.map_cons,List.map_nil,hs,hx,hr]
 refine hK' _ _ (h v' w' ⟨?_⟩ h3)
 rw [List.length_append,List.flatMap_append]
 simpa using h2
theorem wp_append_sq {o:Oper} {a:Act} {w:World} {K:Act→World→Prop} {Q:Exit→Act→World→Prop} (s x:Operand)
  (ho:o.op=.call { callee:=.builtin .append,args:=#[s,x],argTypes:=#[24,24] })
  (B:Nat) (v:Value) (ss:List Sq) (hs:a.eval s=v) (hown:OVq w B v ss) (X c:Nat) (e:Sq) (hx:a.eval x=.slice (some ⟨X,0,none⟩) 1 c) (hX:∀ j u,e.cells[j]?=some u→w.cell? ⟨X,j,none⟩=some u) (hb1:ss.length≤1000000) (hbase:B≤w.heap.size)
  (h:∀ v' w',OVq w' B v' (ss++[e])→w.grownBy w' v.ownBlock→K (a.put o.dst v') w'):o.wp Tryz.prog a w K Q:=by
 obtain ⟨i0,hi,hz0,hz1,hz2⟩:=info_parts Tryz.infoSeq
 obtain ⟨v',w',hr,h2,h3,_,_⟩:=run_append_own_at (P:=Tryz.prog) w B 24 o.type 37 i0 (.agg #[.slice none 0 0,.int .i64 0,.int .i64 0]) 3 40 Tryz.underlying24 hi hz0 hz1 hz2 rfl (by decide) v ss.length _ hown.own ⟨X,0,none⟩ 1 c e.cells rfl (fun j u hu=>by rw [show (⟨X,0,none⟩:Addr).add j=⟨X,j,none⟩ from by unfold Addr.add;split <;> simp_all];exact hX j u hu) (oneCellQ e) (by unfold maxLen;omega) (by omega) hbase
 unfold Oper.wp execOp
 simp only [ho,resolve,invoke,builtin,Sem.run_bind,Sem.run_pure,Result.andThen_ok,List.map_toArray,List.map_cons,List.map_nil,hs,hx,hr]
 refine h v' w' ⟨?_⟩ h3
 rw [List.length_append,List.flatMap_append]
 simpa using h2
theorem wpList_append_b1 {ops:Array Oper} {rest:List Oper} {o:Oper} {a:Act} {Q:Exit→Act→World→Prop} {w:World} (hgd:o.guard=none) (s x:Operand)
  (ho:o.op=.call { callee:=.builtin .append,args:=#[s,x],argTypes:=#[22,22] })
  (B:Nat) (v:Value) (zs:List Int) (hs:a.eval s=v) (hown:OVB w B v zs) (X c:Nat) (z:Int) (hx:a.eval x=.slice (some ⟨X,0,none⟩) 1 c) (hX:w.cell? ⟨X,0,none⟩=some (.int .u8 z)) (hz:0≤z∧z≤255) (hb1:zs.length≤1000000) (hbase:B≤w.heap.size)
  (h:∀ v' w',OVB w' B v' (zs++[z])→w.grownBy w' v.ownBlock→(v'.ownBlock=v.ownBlock∨v'.ownBlock=some w.heap.size)→wpList Tryz.prog ops Q rest (a.put o.dst v') w'):wpList Tryz.prog ops Q (o :: rest) a w:=by
 obtain ⟨i0,hi,hz0,hz1,hz2⟩:=info_parts Tryz.infoU8
 obtain ⟨v',w',hr,h2,h3,_,h5⟩:=run_append_own_at (P:=Tryz.prog) w B 22 o.type 5 i0 (.int .u8 0) 1 1 Tryz.underlying22 hi hz0 hz1 hz2 rfl (by decide) v zs.length _ hown.1 ⟨X,0,none⟩ 1 c [.int .u8 z] rfl (fun j u hu=>by
  match j,hu with
  | 0,hu=>(simp at hu;subst hu;simpa [Addr.add] using hX)) (by intro u hu;simp at hu;subst hu;rfl) (by unfold maxLen;omega) (by omega) hbase
 refine wpList_plain hgd fun K hK'=>?_
 unfold Oper.wp execOp
 simp only [ho,resolve,invoke,builtin,Sem.run_bind,Sem.run_pure,Result.andThen_ok,List.map_toArray,List.map_cons,List.map_nil,hs,hx,hr]
 refine hK' _ _ (h v' w' ⟨?_,?_⟩ h3 h5)
 ·rw [List.length_append,List.map_append]
  simpa using h2
 ·intro y hy
  rcases List.mem_append.1 hy with hy | hy
  ·exact hown.2 y hy
  ·obtain rfl:y=z:=by simpa using hy
   exact hz
theorem appQ_below {w0 wr w1:World} {B:Nat} {v:Value} {ss:List Sq} (hbel:Below B w0 wr) (hB:B≤wr.heap.size) (h:OVq wr B v ss) (hg:wr.grownBy w1 v.ownBlock):Below B w0 w1:=
 hbel.grown hg hB (fun k hk=>(h.blk hk).1)
def Sml (ss:List Sq):Prop:=∀ s ∈ ss,0≤s.n∧s.n≤10000∧0≤s.d∧s.d≤10000∧s.ls.length≤300
theorem Sml.nil :Sml []:=by intro s hs;cases hs
theorem Sml.snoc {ss:List Sq} {s:Sq} (h:Sml ss) (hs:0≤s.n∧s.n≤10000∧0≤s.d∧s.d≤10000∧s.ls.length≤300):Sml (ss++[s]):=by
 intro x hx
 rcases List.mem_append.1 hx with hx | hx
 ·exact h x hx
 ·obtain rfl:x=s:=by simpa using hx
  exact hs
theorem Sml.rng {ss:List Sq} (h:Sml ss):∀ s ∈ ss,rI s.n∧rI s.d∧s.ls.length≤maxLen:=fun s hs=>by
 obtain ⟨h1,h2,h3,h4,h5⟩:=h s hs
 refine ⟨⟨by omega,by omega⟩,⟨by omega,by omega⟩,by unfold maxLen;omega⟩
def Aprt (ss:List Sq) (v:Value):Prop:=∀ s ∈ ss,∀ k,rowOf s.a k→v.ownBlock≠some k
theorem DeepQ.weak {w:World} {B B':Nat} {ss:List Sq} (h:DeepQ w B ss) (hB:B'≤B):DeepQ w B' ss:=⟨fun s hs=>(h.mine s hs).mono hB nl,h.apart⟩
theorem OVB.mineAt {w:World} {B:Nat} {v:Value} {zs:List Int} (h:OVB w B v zs):∃ (a:Option Addr) (cp:Nat),v=.slice a zs.length cp∧Mine w B w.heap.size a cp zs∧∀ k,rowOf a k→v.ownBlock=some k:=by
 obtain ⟨a,cp,e,hm⟩:=h.mine
 refine ⟨a,cp,e,hm,fun k hk=>?_⟩
 obtain ⟨x,rfl,rfl⟩:=hk
 rw [e]
 rfl
theorem heap_new (w:World) (o:Obj):(w.alloc o).heap[w.heap.size]?=some o:=by simp only [World.alloc,Array.getElem?_push_size]
theorem wanted_step {P:Program} {ops:Array Oper} {o:Oper} {a:Act} {w:World} {K:Act→World→Prop} {Q:Exit→Act→World→Prop} {E:Prop} (hg:o.guard=none) (h:Oper.wp P o a w K Q) :
  if Region.wanted o (yielded ops a.tmps)=true then Oper.wp P o a w K Q else E:=by
 rw [if_pos (by simp [Region.wanted,hg])]
 exact h
theorem OVB.empty (w:World) (B:Nat) (hB:B≤w.heap.size):OVB (w.alloc (Obj.cells #[] 5)) B (.slice (some ⟨w.heap.size,0,none⟩) 0 0) []:=
 ⟨⟨rfl,.inr ⟨w.heap.size,0,#[],rfl,hB,heap_new w _,Nat.le_refl _,by simp,rfl,rfl⟩⟩,by simp⟩
end Go.Proofs.YtfeokafkhnbdiaaGreatDoor
