/- Lemmas on the way. -/
import Derived.Maps.AppendAt
import Derived.Test.YtfeokafkhnbdiaaGreatDoorPcI
import Derived.StillTail
import Derived.Deep.RegionHeld3
set_option maxRecDepth 20000
set_option maxHeartbeats 16000000
namespace Go.Proofs.YtfeokafkhnbdiaaGreatDoor
open Go.RowKit
set_option linter.unusedVariables false
set_option linter.unusedSimpArgs false
theorem Tryz.infoPc :(Tryz.prog.info? 166).map (fun i=>(i.zero,i.size,i.bytes))=some (some .nilIface,1,16):=by kernel_rfl
def OVV (w:World) (B:Nat) (v:Value) (ps:List Pc):Prop:=w.ownsRow B 166 1 v ps.length (ps.map Pc.vl)
theorem OVV.nil (w:World) (B:Nat):OVV w B (.slice none 0 0) []:=⟨rfl,.inl ⟨rfl,rfl⟩⟩
theorem OVV.form {w:World} {B:Nat} {v:Value} {ps:List Pc} (h:OVV w B v ps):(v=.slice none 0 0∧ps=[])∨∃ g c,v=.slice (some ⟨g,0,none⟩) ps.length c∧OwV w B g c ps:=by
 have h0:=h
 rcases h.2 with ⟨rfl,h1⟩ | ⟨g,cap,cur,rfl,r⟩
 ·exact .inl ⟨rfl,List.length_eq_zero_iff.1 h1⟩
 ·exact .inr ⟨g,cap,rfl,h0⟩
theorem OVV.slice {w:World} {B:Nat} {v:Value} {ps:List Pc} (h:OVV w B v ps):∃ a c,v=.slice a ps.length c∧Pcs w a ps∧ps.length≤c:=by
 rcases h.form with ⟨rfl,rfl⟩ | ⟨g,c,rfl,ho⟩
 ·exact ⟨none,0,rfl,fun h=>by simp at h,Nat.le_refl _⟩
 ·exact ⟨_,c,rfl,fun _=>⟨g,0,rfl,ho.lt.2,fun i hi=>by rw [Nat.zero_add];exact ho.cell i hi⟩,ho.caps.1⟩
theorem OVV.below {w w':World} {B:Nat} {v:Value} {ps:List Pc} (h:OVV w B v ps) (hb:Below w.heap.size w w'):OVV w' B v ps:=by
 have hg:w.grownBy w' none:=⟨hb.os,hb.tape,hb.output,hb.size,fun k hk _=>hb.block k hk⟩
 exact World.ownsRow.kept h hg (by cases v.ownBlock <;> simp)
theorem OVV.off {w w':World} {B T:Nat} {v:Value} {ps:List Pc} (h:OVV w B v ps) (ho:Only (fun b=>b=T) w w') (hT:v.ownBlock≠some T):OVV w' B v ps:=by
 have hg:w.grownBy w' (some T):=⟨ho.os,ho.tape,ho.output,ho.size,fun i hi hn=>ho.block i hi (fun e=>hn (by rw [e]))⟩
 exact World.ownsRow.kept h hg (.inr hT)
theorem OVV.mono {w:World} {B B':Nat} {v:Value} {ps:List Pc} (h:OVV w B v ps) (hB:B'≤B):OVV w B' v ps:=by
 refine ⟨h.1,?_⟩
 rcases h.2 with h' | ⟨g,cap,cur,h',hg,r⟩
 ·exact .inl h'
 ·exact .inr ⟨g,cap,cur,h',by omega,r⟩
theorem append_types {P:Program} {t1 t2 ty e:TypeId} {sa xa:Option Addr} {sn sc xn xc:Nat} (h1:P.underlying t1=some (.slice e)) (h2:P.underlying t2=some (.slice e)) (w:World):(Builtin.append_ #[t1,t2] ty #[.slice sa sn sc,.slice xa xn xc]).run P w=(Builtin.append_ #[t1,t1] ty #[.slice sa sn sc,.slice xa xn xc]).run P w:=by
 unfold Builtin.append_
 simp [run_underlying h1,run_underlying h2]
theorem run_append_pc {w:World} {t1 t2 ty:TypeId} {B:Nat} {v:Value} {ps qs:List Pc} {a:Option Addr} {c:Nat} (h1:Tryz.prog.underlying t1=some (.slice 166)) (h2:Tryz.prog.underlying t2=some (.slice 166)) (h:OVV w B v ps) (hq:Pcs w a qs) (hl:ps.length+qs.length≤100000) (hB:B≤w.heap.size) :
  ∃ v' w',(Builtin.append_ #[t1,t2] ty #[v,.slice a qs.length c]).run Tryz.prog w=.ok v' w'∧OVV w' B v' (ps++qs)∧w.grownBy w' v.ownBlock∧(v'.ownBlock=v.ownBlock∨v'.ownBlock=some w.heap.size):=by
 obtain ⟨i0,hi,hz0,hz1,hz2⟩:=info_parts Tryz.infoPc
 have hty:(Builtin.append_ #[t1,t2] ty #[v,.slice a qs.length c]).run Tryz.prog w=(Builtin.append_ #[t1,t1] ty #[v,.slice a qs.length c]).run Tryz.prog w:=by
  obtain ⟨a',c',rfl,_,_⟩:=h.slice
  exact append_types h1 h2 w
 rw [hty]
 by_cases h0:qs.length=0
 ·obtain rfl:qs=[]:=List.length_eq_zero_iff.1 h0
  refine ⟨v,w,?_,by simpa using h,⟨rfl,rfl,rfl,Nat.le_refl _,fun _ _ _=>rfl⟩,.inl rfl⟩
  obtain ⟨a',c',rfl,_,hc⟩:=h.slice
  simp [Builtin.append_,run_underlying h1,sizeOf,typeInfo,hi,Builtin.lenOf,Builtin.firstCells,loadCells,loadCellsFrom,hc]
  cases a <;> cases a' <;> simp [Result.andThen,storeCells]
 ·obtain ⟨b,off,rfl,hbl,hc⟩:=hq (by omega)
  obtain ⟨v',w',hr,ho,hg,_,hat⟩:=run_append_own_at (P:=Tryz.prog) w B t1 ty 166 i0 .nilIface 1 16 h1 hi hz0 hz1 hz2 rfl (by decide) v ps.length (ps.map Pc.vl) h ⟨b,off,none⟩ qs.length c (qs.map Pc.vl) (by simp) (by
   intro j u hu
   simp only [List.getElem?_map,Option.map_eq_some_iff] at hu
   obtain ⟨p,hp,rfl⟩:=hu
   have hj:j<qs.length:=(List.getElem?_eq_some_iff.1 hp).1
   have:=hc j hj
   have h2:(⟨b,off,none⟩:Addr).add j=⟨b,off+j,none⟩:=by
    cases j with
    | zero=>simp [Addr.add]
    | succ j=>simp [Addr.add]
   rw [h2,this,List.getD_eq_getElem?_getD,hp]
   rfl) (fun u hu=>by
   obtain ⟨p,_,rfl⟩:=List.mem_map.1 hu
   exact p.one) (by unfold maxLen;omega) (by omega) hB
  refine ⟨v',w',hr,?_,hg,hat⟩
  unfold OVV
  rw [List.length_append,List.map_append]
  exact ho
theorem wpList_append_pc {ops:Array Oper} {rest:List Oper} {o:Oper} {act:Act} {w:World} {Q:Exit→Act→World→Prop} (hgd:o.guard=none) (s x:Operand) (t1 t2:TypeId) (ho:o.op=.call { callee:=.builtin .append,args:=#[s,x],argTypes:=#[t1,t2] })
  (h1:Tryz.prog.underlying t1=some (.slice 166)) (h2:Tryz.prog.underlying t2=some (.slice 166)) {B:Nat} {v:Value} {ps qs:List Pc} {a:Option Addr} {c n:Nat} (hs:act.eval s=v) (hx:act.eval x=.slice a n c) (hn:n=qs.length) (h:OVV w B v ps) (hq:Pcs w a qs) (hl:ps.length+qs.length≤100000) (hB:B≤w.heap.size)
  (hk:∀ v' w',OVV w' B v' (ps++qs)→w.grownBy w' v.ownBlock→(v'.ownBlock=v.ownBlock∨v'.ownBlock=some w.heap.size)→wpList Tryz.prog ops Q rest (act.put o.dst v') w'):wpList Tryz.prog ops Q (o :: rest) act w:=by
 refine wpList_plain hgd fun K hK=>?_
 subst hn
 obtain ⟨v',w',hr,r1,r2,r3⟩:=run_append_pc (ty:=o.type) (c:=c) h1 h2 h hq hl hB
 unfold Oper.wp execOp
 simp only [ho,resolve,invoke,builtin,Sem.run_bind,Sem.run_pure,Result.andThen_ok,List.map_toArray,List.map_cons,List.map_nil,hs,hx,hr]
 exact hK _ _ (hk v' w' r1 r2 r3)
theorem cell_blk {w:World} {R j:Nat} {cur:Array Value} {T:TypeId} {v:Value} (hR:w.heap[R]?=some (.cells cur T (0,0))) (hv:cur[j]?=some v):w.cell? ⟨R,j,none⟩=some v:=by
 rw [cell_of_row w R j cur T (0,0) hR];exact hv
theorem OVV.apart {w:World} {B T:Nat} {v:Value} {ps:List Pc} (h:OVV w B v ps) (hT:T<B):v.ownBlock≠some T:=fun e=>by
 have:=(World.ownsRow.lt h T e).1
 omega
theorem Tryz.assert_coin (v:Value) (w:World):(Instr.typeAssert (.iface 198 v) 20 166 true).run Tryz.prog w=.ok (.tuple #[.iface 198 v,.bool true]) w:=by kernel_rfl
theorem Tryz.assert_pack (v:Value) (w:World):(Instr.typeAssert (.iface 205 v) 20 166 true).run Tryz.prog w=.ok (.tuple #[.iface 205 v,.bool true]) w:=by kernel_rfl
theorem assert_pc (p:Pc) (w:World):(Instr.typeAssert p.vl 20 166 true).run Tryz.prog w=.ok (.tuple #[p.vl,.bool true]) w:=by
 cases p
 ·exact Tryz.assert_coin _ w
 ·exact Tryz.assert_pack _ w
theorem rl_two {w w1:World} {b:Option Addr} {d:Nat} {cs:List Pc} (h:OVV w1 (w.heap.size+1) (.slice b cs.length d) cs) (hb:Below w.heap.size w w1) (hB:w1.heap[w.heap.size]?=some (.cells #[.slice none 0 0] 199 (0,0))) :
  Below w.heap.size w (w1.setCell ⟨w.heap.size,0,none⟩ (.slice b cs.length d))∧(w1.setCell ⟨w.heap.size,0,none⟩ (.slice b cs.length d)).heap[w.heap.size]?=some (.cells #[.slice b cs.length d] 199 (0,0))∧OVV (w1.setCell ⟨w.heap.size,0,none⟩ (.slice b cs.length d)) (w.heap.size+1) (.slice b cs.length d) cs:=by
 refine ⟨hb.setCell nl _,?_,h.off ((Only.refl (fun k=>k=w.heap.size) w1).setCell (p:=⟨w.heap.size,0,none⟩) (.inl rfl) _) (h.apart (Nat.lt_succ_self _))⟩
 rw [heap_setCell_same _ _ 0 _ _ _ hB]
 rfl
theorem rl_three {w W2 w3:World} {v v3:Value} {cs ks:List Pc} {N:Nat} (hb:Below w.heap.size w W2) (h:OVV W2 (w.heap.size+1) v cs) (hg:W2.grownBy w3 v.ownBlock) (ho:OVV w3 (w.heap.size+1) v3 (cs++ks)) (hN:N=(cs++ks).length) :
  ∃ b3 d3,v3=.slice b3 N d3∧OVV w3 (w.heap.size+1) (.slice b3 N d3) (cs++ks)∧Below w.heap.size w w3∧N=(cs++ks).length:=by
 obtain ⟨b3,d3,rfl,-,-⟩:=ho.slice
 rw [←hN] at ho ⊢
 exact ⟨b3,d3,rfl,ho,hb.grown hg hb.size (fun j hj=>by have:=(World.ownsRow.lt h j hj).1;omega),rfl⟩
theorem rl_heap {w w3:World} {b1 b3:Option Addr} {n1 d1 N d3:Nat} {ps:List Pc} (h:OVV w3 (w.heap.size+1) (.slice b3 N d3) ps) (hb:Below w.heap.size w w3) (hN:N=ps.length) (hB:w3.heap[w.heap.size]?=some (.cells #[.slice b1 n1 d1] 199 (0,0))) (h1:1≤ps.length) (hf:∀ p ∈ ps,p.fine) :
  ∃ g,b3=some ⟨g,0,none⟩∧HpS (w3.setCell ⟨w.heap.size,0,none⟩ (.slice b3 N d3)) w.heap.size w.heap.size g d3 ps∧Below w.heap.size w (w3.setCell ⟨w.heap.size,0,none⟩ (.slice b3 N d3)):=by
 rcases h.form with ⟨e,rfl⟩ | ⟨g,c,e,ho⟩
 ·simp at h1
 ·simp only [Value.slice.injEq] at e
  obtain ⟨rfl,-,rfl⟩:=e
  have ho2:=h.mono (Nat.le_succ w.heap.size)
  have ha:=h.apart (T:=w.heap.size) (Nat.lt_succ_self _)
  have hoff:=ho2.off ((Only.refl (fun k=>k=w.heap.size) w3).setCell (p:=⟨w.heap.size,0,none⟩) (.inl rfl) (.slice (some ⟨g,0,none⟩) N d3)) ha
  subst hN
  refine ⟨g,rfl,⟨?_,hoff,hf⟩,hb.setCell nl _⟩
  rw [heap_setCell_same _ _ 0 _ _ _ hB]
  rfl
def lenV (v:Value):Nat:=match v with
 | .slice _ n _=>n
 | _=>0
theorem HpS.grown {W W':World} {B H g cap:Nat} {ps:List Pc} {row:Option Nat} (h:HpS W B H g cap ps) (hg:W.grownBy W' row) (h1:row≠some g) (h2:row≠some H):HpS W' B H g cap ps:=
 ⟨(hg.block H h.lt (fun e=>h2 e.symm)).trans h.blk,World.ownsRow.kept h.row hg (.inr (fun e=>h1 e.symm)),h.fin⟩
theorem OVV.tagne {w:World} {B:Nat} {v:Value} {ps:List Pc} (h:OVV w B v ps) {Q:Nat} {cur:Array Value} {T:TypeId} (hQ:w.heap[Q]?=some (.cells cur T (0,0))) (hT:T≠166):v.ownBlock≠some Q:=by
 rcases h.form with ⟨rfl,_⟩ | ⟨g,c,rfl,ho⟩
 ·simp [Value.ownBlock]
 ·simp only [Value.ownBlock,ne_eq,Option.some.injEq]
  rintro rfl
  obtain ⟨cur',hc⟩:=ho.tag
  rw [hQ] at hc
  simp at hc
  exact hT hc.2
theorem rl_step {ps qs l A:List Pc} {n:Nat} (hn:ps.length=n+1) (ho:HO ps 0 (n+1) (n+1)) (hq:(ps.getD 0 dpc :: qs).Perm ps) (hpm:(l++ps).Perm A) (hpw:l.Pairwise (fun p q=>p.key≤q.key)) (hle:∀ p ∈ l,∀ q ∈ ps,p.key≤q.key) :
  (l++[ps.getD 0 dpc]++qs).Perm A∧(l++[ps.getD 0 dpc]).Pairwise (fun p q=>p.key≤q.key)∧∀ p ∈ l++[ps.getD 0 dpc],∀ q ∈ qs,p.key≤q.key:=by
 have hmin:∀ q ∈ ps,(ps.getD 0 dpc).key≤q.key:=fun q hq=>by
  obtain ⟨i,hi,rfl⟩:=List.getElem_of_mem hq
  have:=HO_min ho i (by omega)
  unfold kAt at this
  rw [show ps.getD i dpc=ps[i] by simp [List.getD_eq_getElem?_getD,hi]] at this
  exact this
 have h0:ps.getD 0 dpc ∈ ps:=hq.mem_iff.1 (by simp)
 have hin:∀ q ∈ qs,q ∈ ps:=fun q h=>hq.mem_iff.1 (by simp [h])
 refine ⟨?_,?_,?_⟩
 ·rw [List.append_assoc]
  exact (List.Perm.append_left l hq).trans hpm
 ·rw [List.pairwise_append]
  exact ⟨hpw,by simp,fun a ha b hb=>by simp at hb;subst hb;exact hle a ha _ h0⟩
 ·intro p hp q hq'
  rcases List.mem_append.1 hp with hp | hp
  ·exact hle p hp q (hin q hq')
  ·simp at hp
   subst hp
   exact hmin q (hin q hq')
theorem OVV.onlyS {S:Nat→Prop} {w w':World} {B:Nat} {v:Value} {ps:List Pc} (h:OVV w B v ps) (ho:Only S w w') (hs:∀ k,v.ownBlock=some k→¬S k):OVV w' B v ps:=by
 refine ⟨h.1,?_⟩
 rcases h.2 with h' | ⟨g,cap,cur,rfl,hg,hh,r⟩
 ·exact .inl h'
 ·exact .inr ⟨g,cap,cur,rfl,hg,(ho.block g (Array.getElem?_eq_some_iff.1 hh).1 (hs g rfl)).trans hh,r⟩
theorem rl_app {w w7 w9:World} {B g cap:Nat} {qs l:List Pc} {p:Pc} {v v9:Value} {o:Obj} (hps:HpS w7 B B g cap qs) (hov:OVV w7 B v l) (hne:v.ownBlock≠some g) (hb:Below B w w7) (hBw:B≤w.heap.size) (h9:OVV w9 B v9 (l++[p])) (hg:(w7.alloc o).grownBy w9 v.ownBlock) (hat:v9.ownBlock=v.ownBlock∨v9.ownBlock=some (w7.alloc o).heap.size) :
  HpS w9 B B g cap qs∧v9.ownBlock≠some g∧Below B w w9:=by
 have hal:Below w7.heap.size w7 (w7.alloc o):=bAw
 have h7:=hps.below hal
 refine ⟨h7.grown hg hne (hov.tagne hps.blk (by decide)),?_,?_⟩
 ·rcases hat with h | h
  ·rw [h];exact hne
  ·rw [h]
   have:=hps.row.lt.2
   simp
   omega
 ·have hb7:Below B w (w7.alloc o):=hb.alloc (Nat.le_trans hBw hb.size) _
  exact hb7.grown hg (Nat.le_trans hBw hb7.size) (fun j hj=>(World.ownsRow.lt hov j hj).1)
theorem pcs_one (w:World) (p:Pc):Pcs (w.alloc (Obj.cells #[p.vl] 166)) (some ⟨w.heap.size,0,none⟩) [p]:=fun _=>
 ⟨w.heap.size,0,rfl,by simp,fun i hi=>by
  have hi0:i=0:=by simpa using hi
  subst hi0
  exact cell_blk (heap_alloc_new w _) rfl⟩
theorem roundList_any (a1 a2:Option Addr) (c1 c2:Nat) (cs ks:List Pc) (w:World) (h1:Pcs w a1 cs) (h2:Pcs w a2 ks) (hf:∀ p ∈ cs++ks,p.fine) (hl:cs.length+ks.length≤900) (hc:1≤cs.length) :
  Calls Tryz.prog 121 #[.slice a1 cs.length c1,.slice a2 ks.length c2] w fun e w'=>∃ (v:Value) (l:List Pc),e=.returned v∧OVV w' w.heap.size v l∧l.Perm (cs++ks)∧l.Pairwise (fun p q=>p.key≤q.key)∧Below w.heap.size w w':=by
 have HP:Hid (Pcs w a1 cs∧Pcs w a2 ks∧(∀ p ∈ cs++ks,p.fine)∧cs.length+ks.length≤900∧1≤cs.length):=⟨h1,h2,hf,hl,hc⟩
 clear h1 h2 hf hl hc
 have HW0:Hid (Below w.heap.size w (w.alloc (Obj.cells #[.slice none 0 0] 199))∧(w.alloc (Obj.cells #[.slice none 0 0] 199)).heap[w.heap.size]?=some (.cells #[.slice none 0 0] 199 (0,0))∧(w.alloc (Obj.cells #[.slice none 0 0] 199)).heap.size=w.heap.size+1):=⟨(Below.refl _ _).alloc nl _,heap_alloc_new w _,by simp⟩
 go_enter Tryz.func121,Tryz.ntmps121
 go_wp2_with (first
  | (at_builtin;(refine wpList_append_pc (v:=.slice none 0 0) rfl (.tmp 9) (.tmp 10) 199 163 rfl Tryz.underlying199 Tryz.underlying163 rfl rfl rfl (OVV.nil _ (w.heap.size+1)) (HP.out.1.below HW0.out.1) (by have:=HP.out.2.2.2.1;simp only [List.length_nil];omega) (by have:=HW0.out.2.2;omega) ?_;intro v1 w1 hov1 hg1 hat1;rw [List.nil_append] at hov1;obtain ⟨b1,d1,rfl,-,-⟩:=hov1.slice;have HB1:Hid (w1.heap[w.heap.size]?=some (.cells #[.slice none 0 0] 199 (0,0))):=(hg1.block _ (by have:=HW0.out.2.2;omega) (by simp [Value.ownBlock])).trans HW0.out.2.1;have f1:=frozen_of_row w1 w.heap.size 0 _ _ HB1.out;have x1:w1.cell? ⟨w.heap.size,0,none⟩=some (.slice none 0 0):=cell_blk HB1.out rfl;have HO1:Hid (OVV w1 (w.heap.size+1) (.slice b1 cs.length d1) cs∧Below w.heap.size w w1):=⟨hov1,HW0.out.1.grown hg1 (by have:=HW0.out.2.2;omega) (by simp [Value.ownBlock])⟩;clear hov1 hg1 hat1;have HW2:Hid (Below w.heap.size w (w1.setCell ⟨w.heap.size,0,none⟩ (.slice b1 cs.length d1))∧(w1.setCell ⟨w.heap.size,0,none⟩ (.slice b1 cs.length d1)).heap[w.heap.size]?=some (.cells #[.slice b1 cs.length d1] 199 (0,0))∧OVV (w1.setCell ⟨w.heap.size,0,none⟩ (.slice b1 cs.length d1)) (w.heap.size+1) (.slice b1 cs.length d1) cs):=rl_two HO1.out.1 HO1.out.2 HB1.out))
  | (at_builtin;(refine wpList_append_pc (v:=.slice b1 cs.length d1) rfl (.tmp 12) (.tmp 13) 199 163 rfl Tryz.underlying199 Tryz.underlying163 rfl rfl rfl HW2.out.2.2 (HP.out.2.1.below HW2.out.1) (by have:=HP.out.2.2.2.1;omega) (by have:=(Array.getElem?_eq_some_iff.1 HW2.out.2.1).1;omega) ?_;intro v3 w3 hov3 hg3 hat3;have HB3:Hid (w3.heap[w.heap.size]?=some (.cells #[.slice b1 cs.length d1] 199 (0,0))):=(hg3.block _ (Array.getElem?_eq_some_iff.1 HW2.out.2.1).1 (fun e=>HW2.out.2.2.apart (Nat.lt_succ_self _) e.symm)).trans HW2.out.2.1;obtain ⟨N,hN⟩:∃ N,N=(cs++ks).length:=⟨_,rfl⟩;have HO3:Hid (∃ b3 d3,v3=.slice b3 N d3∧OVV w3 (w.heap.size+1) (.slice b3 N d3) (cs++ks)∧Below w.heap.size w w3∧N=(cs++ks).length):=rl_three HW2.out.1 HW2.out.2.2 hg3 hov3 hN;obtain ⟨b3,d3,hv3,hx3⟩:=HO3.out;subst hv3;have HX3:Hid _:=hx3;have f3:=frozen_of_row w3 w.heap.size 0 _ _ HB3.out;have x3:w3.cell? ⟨w.heap.size,0,none⟩=some (.slice b1 cs.length d1):=cell_blk HB3.out rfl;clear hov3 hg3 hat3 HO3 hN hx3 f1 x1)))
 have hLN:(cs++ks).length=cs.length+ks.length:=List.length_append
 obtain ⟨g,hb3,hps,hb4⟩:=rl_heap HX3.out.1 HX3.out.2.1 HX3.out.2.2 HB3.out (by have:=HP.out.2.2.2.2;omega) HP.out.2.2.1
 have HI:=init_any w.heap.size w.heap.size g d3 (cs++ks) _ hps (by have:=HP.out.2.2.2.1;omega)
 have HL4:Hid (Below w.heap.size w (w3.setCell ⟨w.heap.size,0,none⟩ (.slice b3 N d3))∧(cs++ks).length≤900∧w.heap.size≤g):=⟨hb4,by have:=HP.out.2.2.2.1;omega,hps.row.lt.1⟩
 clear hLN hps hb4 f3 x3 HX3 HB3 HW2 HO1 HB1 HW0
 subst hb3
 refine HI.mono ?_
 clear HI
 rintro e w5 ⟨rfl,qs,hpm,hps,hho,hon⟩
 have H5:Hid (qs.Perm (cs++ks)∧HpS w5 w.heap.size w.heap.size g d3 qs∧HO qs 0 qs.length qs.length∧Below w.heap.size w w5):=⟨hpm,hps,by rw [hpm.length_eq];exact hho,HL4.out.1.trans (hon.below HL4.out.1.size (fun j hj=>by rw [hj];exact HL4.out.2.2))⟩
 clear hpm hps hho hon
 go_wp2
 go_loopw [6] (fun lv W=>∃ (ps l:List Pc),HpS W w.heap.size w.heap.size g d3 ps∧HO ps 0 ps.length ps.length∧OVV W w.heap.size lv l∧lv.ownBlock≠some g∧(l++ps).Perm (cs++ks)∧l.Pairwise (fun p q=>p.key≤q.key)∧(∀ p ∈ l,∀ q ∈ ps,p.key≤q.key)∧Below w.heap.size w W) (fun lv _=>1000-lenV lv)
 case atStart=>exact ⟨qs,[],H5.out.2.1,H5.out.2.2.1,OVV.nil _ _,by simp [Value.ownBlock],by simpa using H5.out.1,List.Pairwise.nil,by simp,H5.out.2.2.2⟩
 case round=>
  obtain ⟨ps,l,hps,hho,hov,hne,hpm,hpw,hle,hbel⟩:=hrel
  have HR:Hid (HpS wr w.heap.size w.heap.size g d3 ps∧HO ps 0 ps.length ps.length∧OVV wr w.heap.size u6 l∧u6.ownBlock≠some g∧(l++ps).Perm (cs++ks)∧l.Pairwise (fun p q=>p.key≤q.key)∧(∀ p ∈ l,∀ q ∈ ps,p.key≤q.key)∧Below w.heap.size w wr):=⟨hps,hho,hov,hne,hpm,hpw,hle,hbel⟩
  have hll:l.length+ps.length≤900:=by have:=hpm.length_eq;rw [List.length_append] at this;have:=HL4.out.2.1;omega
  have c0:=hps.c0
  have hlt:=hps.lt
  have HLEN:=heapLen_any (some ⟨g,0,none⟩) ps.length d3 wr
  clear hps hho hov hne hpm hpw hle hbel
  by_cases h0:ps.length=0
  ·have hp0:ps=[]:=List.length_eq_zero_iff.1 h0
   have HE:Hid (OVV wr w.heap.size u6 l∧l.Perm (cs++ks)∧l.Pairwise (fun p q=>p.key≤q.key)∧Below w.heap.size w wr):=by
    obtain ⟨_,_,h3,_,h5,h6,_,h8⟩:=HR.out
    rw [hp0,List.append_nil] at h5
    exact ⟨h3,h5,h6,h8⟩
   rw [h0] at c0 HLEN
   clear h0 hp0 HR hll hlt
   go_wp2_with fail
   refine HLEN.mono ?_
   clear HLEN
   rintro e w6 ⟨rfl,rfl⟩
   go_wp2
   go_ret
   exact ⟨_,l,rfl,HE.out.1,HE.out.2.1,HE.out.2.2.1,HE.out.2.2.2⟩
  ·obtain ⟨n,hn⟩:∃ n,ps.length=n+1:=⟨ps.length-1,by omega⟩
   have HPOP:=pop_any w.heap.size w.heap.size g d3 n ps wr HR.out.1 hn (by omega) nl (by have:=HR.out.2.1;rw [hn] at this;exact this)
   have HSTEP:Hid (∀ qs,(ps.getD 0 dpc :: qs).Perm ps→(l++[ps.getD 0 dpc]++qs).Perm (cs++ks)∧(l++[ps.getD 0 dpc]).Pairwise (fun p q=>p.key≤q.key)∧∀ p ∈ l++[ps.getD 0 dpc],∀ q ∈ qs,p.key≤q.key):=fun qs hq=>rl_step hn (by have:=HR.out.2.1;rw [hn] at this;exact this) hq HR.out.2.2.2.2.1 HR.out.2.2.2.2.2.1 HR.out.2.2.2.2.2.2.1
   obtain ⟨p,hp⟩:∃ p,p=ps.getD 0 dpc:=⟨_,rfl⟩
   rw [←hp] at HPOP HSTEP
   obtain ⟨tl,xl,hvl⟩:=p.form
   have hass:∀ W,Sem.run Tryz.prog (Instr.typeAssert (.iface tl xl) 20 166 true) W=.ok (.tuple #[.iface tl xl,.bool true]) W:=fun W=>by rw [←hvl];exact assert_pc p W
   rw [hvl] at HPOP
   have HVL:Hid (p.vl=.iface tl xl∧True):=⟨hvl,trivial⟩
   obtain ⟨la,lc,hv6,-,-⟩:=HR.out.2.2.1.slice
   have hnp:(0:Int)<(ps.length:Int):=by omega
   rw [hn] at hnp c0 HLEN
   subst hv6
   clear hvl hp h0
   go_wp2_with fail
   refine HLEN.mono ?_
   clear HLEN
   rintro e w6 ⟨rfl,rfl⟩
   go_wp2_with fail
   refine HPOP.mono ?_
   clear HPOP
   rintro e w7 ⟨rfl,qs,hq1,hq2,hq3,hq4,hq5⟩
   obtain ⟨s1,s2,s3⟩:=HSTEP.out qs hq1
   have hov7:=HR.out.2.2.1.onlyS hq5 (fun k hk hS=>by
    rcases hS with hS | hS
    ·exact HR.out.2.2.2.1 (by rw [hk,hS])
    ·exact (HR.out.2.2.1.tagne HR.out.1.blk (by decide)) (by rw [hk,hS]))
   have hb7:Below w.heap.size w w7:=HR.out.2.2.2.2.2.2.2.trans (hq5.below HR.out.2.2.2.2.2.2.2.size (fun j hj=>by
    rcases hj with hj | hj
    ·rw [hj];exact HL4.out.2.2
    ·rw [hj];exact Nat.le_refl _))
   have H7:Hid ((l++[p]++qs).Perm (cs++ks)∧(l++[p]).Pairwise (fun p q=>p.key≤q.key)∧(∀ a ∈ l++[p],∀ q ∈ qs,a.key≤q.key)∧HpS w7 w.heap.size w.heap.size g d3 qs∧HO qs 0 qs.length qs.length∧OVV w7 w.heap.size (.slice la l.length lc) l∧(Value.slice la l.length lc).ownBlock≠some g∧Below w.heap.size w w7):=⟨s1,s2,s3,hq3,by rw [hq2];exact hq4,hov7,HR.out.2.2.2.1,hb7⟩
   have HY:Hid (OVV (w7.alloc (Obj.cells #[.iface tl xl] 166)) w.heap.size (.slice la l.length lc) l∧Pcs (w7.alloc (Obj.cells #[.iface tl xl] 166)) (some ⟨w7.heap.size,0,none⟩) [p]∧w.heap.size≤(w7.alloc (Obj.cells #[.iface tl xl] 166)).heap.size):=by
    refine ⟨hov7.below ((Below.refl _ _).alloc nl _),?_,by have:=hb7.size;simp;omega⟩
    have:=pcs_one w7 p
    rw [HVL.out.1] at this
    exact this
   have hl1:l.length+1≤900:=by omega
   clear s1 s2 s3 hov7 hb7 hq1 hq2 hq3 hq4 hq5 HSTEP
   go_wp2_with (at_builtin;(refine wpList_append_pc (v:=.slice la l.length lc) rfl (.tmp 27) (.tmp 29) 163 163 rfl Tryz.underlying163 Tryz.underlying163 rfl rfl (show 1=[p].length from rfl) HY.out.1 HY.out.2.1 (show l.length+1≤100000 by omega) HY.out.2.2 ?_);(intro v9 w9 hov9 hg9 hat9);(have H9:Hid _:=rl_app H7.out.2.2.2.1 H7.out.2.2.2.2.2.1 H7.out.2.2.2.2.2.2.1 H7.out.2.2.2.2.2.2.2 nl hov9 hg9 hat9);(have HOV9:Hid (OVV w9 w.heap.size v9 (l++[p])):=hov9);(have hlv:lenV v9=l.length+1:=(by (obtain ⟨a9,c9,e9,-,-⟩:=hov9.slice;exact (congrArg lenV e9).trans List.length_append));clear hov9 hg9 hat9))
   have hl6:lenV (Value.slice la l.length lc)=l.length:=rfl
   go_roundw
   case rel=>exact ⟨qs,l++[p],H9.out.1,H7.out.2.2.2.2.1,HOV9.out,H9.out.2.1,H7.out.1,H7.out.2.1,H7.out.2.2.1,H9.out.2.2⟩
   case measure=>rw [hlv,hl6];omega
end Go.Proofs.YtfeokafkhnbdiaaGreatDoor
namespace Go.Proofs.YtfeokafkhnbdiaaGreatDoor
set_option linter.unusedVariables false
section
variable {P : Program} {ops : Array Oper} {md : Region.Mode}
def cutQ (P:Program) (ops:Array Oper) (l:List Oper) (Q:Exit→Act→World→Prop):Exit→Act→World→Prop
 | .normal,a,w=>wpList P ops Q l a w
 | e,a,w=>Q e a w
theorem oper_post {Q Q':Exit→Act→World→Prop} (hp:∀ c a w,Q' (.panic c) a w→Q (.panic c) a w) (ho:∀ a w,Q' .outgrown a w→Q .outgrown a w) {o:Oper} {a:Act} {w:World} {K:Act→World→Prop} (hh:o.wp P a w K Q'):o.wp P a w K Q:=by
 have hl:LetsOut Q'→LetsOut Q:=fun ⟨a,w,h⟩=>⟨a,w,ho a w h⟩
 unfold Oper.wp at *
 generalize (execOp a.eval o).run P w=r at *
 cases r with
 | ok n w'=>
  cases n <;> simp only [Oper.upon] at hh ⊢ <;>
   first
    | exact hh
    | exact Calls.mono hh (fun e w'' he=>by cases e <;> first | exact he | exact hp _ _ _ he | exact hl he)
 | halt x w'=>cases x <;> simp only [Oper.upon] at hh ⊢ <;> first | exact hh | exact hp _ _ _ hh
theorem wpOp_post {Q Q':Exit→Act→World→Prop} (hp:∀ c a w,Q' (.panic c) a w→Q (.panic c) a w) (ho:∀ a w,Q' .outgrown a w→Q .outgrown a w) {i:Nat} {a:Act} {w:World} {K:Act→World→Prop} (hh:wpOp P ops Q' i K a w):wpOp P ops Q i K a w:=by
 have hl:LetsOut Q'→LetsOut Q:=fun ⟨a,w,h⟩=>⟨a,w,ho a w h⟩
 unfold wpOp at *
 split
 ·rename_i h;simp only [h] at hh;exact hh
 ·rename_i o h
  simp only [h] at hh
  split
  ·rename_i hw;simp only [hw,if_true] at hh;exact hh.imp (oper_post hp ho) (fun h=>⟨h.1,hl h.2⟩)
  ·rename_i hw;simp only [hw] at hh;exact hh
theorem wpAny_up1 {Q:Exit→Act→World→Prop}:∀ (m:Nat) (L:Array Bool) (a:Act) (w:World),wpAny P md ops Q m L a w→wpAny P md ops Q (m+1) L a w
 | 0,L,a,w,h=>⟨fun _=>h.2,fun i hi=>by rw [h.1] at hi;cases hi⟩
 | m+1,L,a,w,h=>⟨h.1,fun i hi=>wpOp_mono (fun a' w' h'=>wpAny_up1 m _ a' w' h') (h.2 i hi)⟩
theorem wpAny_up {Q:Exit→Act→World→Prop} (m k:Nat) (L:Array Bool) (a:Act) (w:World) (h:wpAny P md ops Q m L a w):wpAny P md ops Q (k+m) L a w:=by
 induction k with
 | zero=>rw [Nat.zero_add];exact h
 | succ k ih=>rw [show k+1+m=(k+m)+1 from by omega];exact wpAny_up1 _ _ _ _ ih
structure CutOk (md:Region.Mode) (ops:Array Oper) (n:Nat):Prop where
 le:n≤ops.size
 head:∀ i o,i<n→ops[i]?=some o→∀ e ∈ o.after,Region.binds md e=true→e.on<i
 tail:∀ j o,n≤j→ops[j]?=some o→∀ i,i<n→∃ e ∈ o.after,Region.binds md e=true∧e.on=i
 seq:Region.seqB md ops (ops.size-n) n ((Array.replicate n true)++(Array.replicate (ops.size-n) false))=true
structure CutRel (n N:Nat) (L L':Array Bool):Prop where
 s1:L.size=N
 s2:L'.size=N
 eq:∀ i,i<n→∀ d,L.getD i d=L'.getD i d
 t1:∀ j,n≤j→j<N→L.getD j true=false
 t2:∀ j,n≤j→L'.getD j true=true
theorem CutRel.set {n N i:Nat} {L L':Array Bool} (h:CutRel n N L L') (hi:i<n) (hn:n≤N):CutRel n N (L.setIfInBounds i true) (L'.setIfInBounds i true):=by
 refine ⟨by simp [h.s1],by simp [h.s2],fun j hj d=>?_,fun j hj hjN=>?_,fun j hj=>?_⟩
 ·by_cases e:i=j
  ·subst e
   have h1:i<L.size:=by rw [h.s1];omega
   have h2:i<L'.size:=by rw [h.s2];omega
   simp [h1,h2]
  ·rw [getD_set_ne d e,getD_set_ne d e];exact h.eq j hj d
 ·rw [getD_set_ne true (by omega)];exact h.t1 j hj hjN
 ·rw [getD_set_ne true (by omega)];exact h.t2 j hj
theorem CutRel.full {n N:Nat} {L L':Array Bool} (h:CutRel n N L L') (hc:CutOk md ops n) (hN:ops.size=N) (hr:Region.ready md ops L'=[]):∀ i,i<n→L.getD i true=true:=by
 intro i
 induction i using Nat.strongRecOn with
 | _ i ih=>
  intro hi
  cases hl:L.getD i true with
  | true=>rfl
  | false=>
   exfalso
   have hiN:i<ops.size:=by have:=hc.le;omega
   have hmem:i ∈ Region.ready md ops L':=by
    rw [mem_ready]
    refine ⟨by rw [←h.eq i hi];exact hl,ops[i],Array.getElem?_eq_getElem hiN,fun e he hb=>?_⟩
    have h1:=hc.head i _ hi (Array.getElem?_eq_getElem hiN) e he hb
    have h2:=ih e.on h1 (by omega)
    rw [←h.eq e.on (by omega)]
    have h3:e.on<L.size:=by rw [h.s1];omega
    simp [h3] at h2 ⊢
    exact h2
   rw [hr] at hmem
   cases hmem
theorem cut_sim {Q:Exit→Act→World→Prop} {l:List Oper} {n:Nat} (hl:ops=l.toArray) (hc:CutOk md ops n):∀ (m:Nat) (L L':Array Bool) (a:Act) (w:World),CutRel n ops.size L L' →
  wpAny P md ops (cutQ P ops (l.drop n) Q) m L' a w→wpAny P md ops Q (m+(ops.size-n)) L a w:=by
 have base:∀ (L L':Array Bool) (a:Act) (w:World),CutRel n ops.size L L'→Region.ready md ops L'=[]→wpList P ops Q (l.drop n) a w→wpAny P md ops Q (ops.size-n) L a w:=by
  intro L L' a w hr he hw
  have hfull:=hr.full hc rfl he
  have hle:=hc.le
  have hLe:L=(Array.replicate n true)++(Array.replicate (ops.size-n) false):=by
   apply Array.ext
   ·simp [hr.s1];omega
   ·intro i h1 h2
    by_cases hi:i<n
    ·have:=hfull i hi
     simp [h1] at this
     rw [this]
     simp [hi]
    ·have:=hr.t1 i (by omega) (by rw [hr.s1] at h1;exact h1)
     simp [h1] at this
     rw [this]
     simp [Array.getElem_append,hi]
  have hdl:(l.drop n).length=ops.size-n:=by rw [hl];simp
  have h5:=wpAny_of_seq (P:=P) (md:=md) (ops:=ops) (Q':=Q) (l.drop n) n L a w (fun j=>by rw [hl];simp [List.getElem?_drop]) (by rw [hdl,hLe];exact hc.seq) hw
  rwa [hdl] at h5
 intro m
 induction m with
 | zero=>
  intro L L' a w hr h
  rw [Nat.zero_add]
  exact base L L' a w hr h.1 h.2
 | succ m ih=>
  intro L L' a w hr h
  by_cases he:Region.ready md ops L'=[]
  ·exact wpAny_up _ _ _ _ _ (base L L' a w hr he (h.1 he))
  ·have h2:∀ i,i ∈ Region.ready md ops L'→i<n∧i ∈ Region.ready md ops L:=by
    intro i hi
    have hin:i<n:=by
     rcases Nat.lt_or_ge i n with h3 | h3
     ·exact h3
     ·have:=(mem_ready.1 hi).1
      rw [hr.t2 i h3] at this
      cases this
    refine ⟨hin,?_⟩
    obtain ⟨h3,o,ho,hall⟩:=mem_ready.1 hi
    rw [mem_ready]
    refine ⟨by rw [hr.eq i hin];exact h3,o,ho,fun e hee hb=>?_⟩
    rw [hr.eq e.on (by have:=hc.head i o hin ho e hee hb;omega)]
    exact hall e hee hb
   obtain ⟨i0,hi0⟩:=List.exists_mem_of_ne_nil _ he
   obtain ⟨hi0n,hi0r⟩:=h2 i0 hi0
   rw [show m+1+(ops.size-n)=(m+(ops.size-n))+1 from by omega]
   refine ⟨fun h3=>(by rw [h3] at hi0r;cases hi0r),fun i hi=>?_⟩
   have hin:i<n:=by
    rcases Nat.lt_or_ge i n with h3 | h3
    ·exact h3
    ·exfalso
     obtain ⟨_,o,ho,hall⟩:=mem_ready.1 hi
     obtain ⟨e,hee,hb,hon⟩:=hc.tail i o h3 ho i0 hi0n
     have h4:=hall e hee hb
     rw [hon,getD_both (mem_ready.1 hi0r).1] at h4
     cases h4
   have hi':i ∈ Region.ready md ops L':=by
    obtain ⟨h3,o,ho,hall⟩:=mem_ready.1 hi
    rw [mem_ready]
    refine ⟨by rw [←hr.eq i hin];exact h3,o,ho,fun e hee hb=>?_⟩
    rw [←hr.eq e.on (by have:=hc.head i o hin ho e hee hb;omega)]
    exact hall e hee hb
   exact wpOp_post (Q':=cutQ P ops (l.drop n) Q) (fun _ _ _ h=>h) (fun _ _ h=>h) (wpOp_mono (fun a' w' h'=>ih _ _ a' w' (hr.set hin hc.le) h') (h.2 i hi'))
def cutB (ops:Array Oper) (n:Nat):Bool:=
 decide (n≤ops.size) && (List.range n).all (fun i=>match ops[i]? with | some o=>o.after.all (fun e=>!Region.binds .any e || decide (e.on<i)) | none=>true) &&
  (List.range ops.size).all (fun j=>decide (j<n) || (List.range n).all (fun i=>Region.waitsFor .any ops j i)) &&
  Region.seqB .any ops (ops.size-n) n ((Array.replicate n true)++(Array.replicate (ops.size-n) false))
theorem cutB_ok {n:Nat} (h:cutB ops n=true):CutOk .any ops n:=by
 unfold cutB at h
 simp only [Bool.and_eq_true,decide_eq_true_eq,List.all_eq_true,List.mem_range,Bool.or_eq_true] at h
 obtain ⟨⟨⟨h1,h2⟩,h3⟩,h4⟩:=h
 refine ⟨h1,fun i o hi ho e he hb=>?_,fun j o hj ho i hi=>?_,h4⟩
 ·have:=h2 i hi
  rw [ho] at this
  simp only [Array.all_eq_true_iff_forall_mem,Bool.or_eq_true,Bool.not_eq_true',decide_eq_true_eq] at this
  rcases this e he with h5 | h5
  ·rw [hb] at h5;cases h5
  ·exact h5
 ·have hjN:j<ops.size:=(Array.getElem?_eq_some_iff.1 ho).1
  rcases h3 j hjN with h5 | h5
  ·omega
  ·obtain ⟨oj,hoj,e,he,hb,hon⟩:=Region.waitsFor_spec (h5 i hi)
   have:oj=o:=Option.some.inj (hoj.symm.trans ho)
   subst this
   exact ⟨e,he,hb,hon⟩
theorem wp_region_cut {S:World→Prop} {id:Nat} {Q:Exit→Act→World→Prop} {a:Act} {w:World} {l:List Oper} (n:Nat) (hm:P.follows .mixedOrders=true) (hB:cutB l.toArray n=true) (hS:S w.drew)
  (h:S w.drew→wpAnyH P .any l.toArray (cutQ P l.toArray (l.drop n) Q) S n ((Array.replicate n false)++(Array.replicate (l.toArray.size-n) true)) a w.drew):(Code.region id l.toArray true).wp P Q a w:=by
 have hc:=cutB_ok hB
 have hle:=hc.le
 refine wp_region_any hm ?_
 have h1:=wpAny_of_held _ _ _ _ (h hS)
 have h2:=cut_sim rfl hc n (Array.replicate l.toArray.size false) _ a _ ⟨by simp,by simp;simp at hle;omega,fun i hi d=>?_,fun j hj hjN=>?_,fun j hj=>?_⟩ h1
 ·rw [show n+(l.toArray.size-n)=l.toArray.size from by omega] at h2
  exact h2
 ·have h3:i<l.length:=by simp at hle;omega
  simp only [Array.getD_eq_getD_getElem?]
  rw [Array.getElem?_append_left (by simp;omega),Array.getElem?_replicate,Array.getElem?_replicate,if_pos (by simpa using h3),if_pos hi]
 ·have h3:j<l.length:=by simpa using hjN
  simp [h3]
 ·have h3:¬j<n:=by omega
  simp only [Array.getD_eq_getD_getElem?]
  rw [Array.getElem?_append_right (by simp;omega),Array.getElem?_replicate]
  split <;> rfl
end
end Go.Proofs.YtfeokafkhnbdiaaGreatDoor
