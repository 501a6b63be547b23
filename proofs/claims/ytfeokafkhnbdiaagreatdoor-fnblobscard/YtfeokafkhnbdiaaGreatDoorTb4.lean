/- Lemmas on the way. -/
import Derived.Test.YtfeokafkhnbdiaaGreatDoorFp1
import Derived.Test.YtfeokafkhnbdiaaGreatDoorHPut2M
import Derived.RangeFuncNested
import Derived.RangeFuncBound
import Derived.RangeFuncCalls
import Derived.RangeFuncLeaves
import Derived.RangeFuncFrom
import Derived.Shelf.Abstract
import Derived.Shelf.RegionOpen
import Derived.WalkKit
import Derived.OwnWalkIn
import Derived.TacticsInMore
import Derived.LoopNIn
import Derived.LoopIn
import Derived.Deep.MidRow
import Derived.Test.YtfeokafkhnbdiaaGreatDoorPcB
import Derived.Laws.CopyOwn
set_option maxRecDepth 20000
set_option maxHeartbeats 16000000
namespace Go.Proofs.YtfeokafkhnbdiaaGreatDoor
open Go.RowKit
set_option linter.unusedVariables false
def shd (ls ts:List Int):Prop:=∀ k,k<ts.length→ls.getD (ts.getD k 0).toNat 0≠0
instance (ls ts:List Int):Decidable (shd ls ts):=by unfold shd;infer_instance
structure Tab (T ls:List Int):Prop where
 gd:Gd T ls.length
 ex:∀ s p:Nat,s<ls.length→p<64→ls.getD s 0≠0→∃ q,q<64∧hit T (s:Int) p q
 no:∀ (s:Int) (p:Nat),(∀ k:Nat,s=k→ls.getD k 0=0)→∀ q,q<64→¬hit T s p q
 le:ls.length≤80
theorem tab_tb {ls:List Int} (hn:normB ls=true):Tab (tb (pl (fl 0 ls) (plc 64)) ls 64) ls:=
 ⟨gd_tb hn,fun s p hs hp hc=>ex_hit hn s p hs hp hc,fun s p hc=>no_hit hn s p hc,(normB_bnd hn).2⟩
section
variable {T ls ts : List Int}
theorem fpS_ok (hT:Tab T ls) (hts:∀ k,k<ts.length→0≤ts.getD k 0∧ts.getD k 0<ls.length):∀ k,k≤ts.length→(∀ j,j<k→ls.getD (ts.getD (ts.length-1-j) 0).toNat 0≠0)→(fpS T ts k).1<64∧(fpS T ts k).2.1≤6*k∧(fpS T ts k).2.2<2 ^ (fpS T ts k).2.1:=by
 intro k
 induction k with
 | zero=>intro _ _;simp [fpS]
 | succ k ih=>
  intro hk hs
  obtain ⟨h1,h2,h3⟩:=ih (by omega) (fun j hj=>hs j (by omega))
  have hsy:=hts (ts.length-1-k) (by omega)
  obtain ⟨s,hse⟩:=Int.eq_ofNat_of_zero_le hsy.1
  have hsh:=hs k (by omega)
  rw [hse,Int.toNat_natCast] at hsh
  have hF:=fq_first (hT.ex s (fpS T ts k).1 (by omega) h1 hsh)
  obtain ⟨_,b,z,_,e2,e3,_,hb6,hz64⟩:=hT.gd.cell (fq T (s:Int) (fpS T ts k).1) hF.1
  have hb:cB T (fq T (s:Int) (fpS T ts k).1)=b:=by unfold cB;rw [e2,Int.toNat_natCast]
  have hz:cZ T (fq T (s:Int) (fpS T ts k).1)=z:=by unfold cZ;rw [e3,Int.toNat_natCast]
  have hh:=hF.2.1
  unfold hit at hh
  rw [hb,hz] at hh
  rw [fpS,hse]
  refine ⟨hF.1,?_,?_⟩
  ·simp only [hb];omega
  ·simp only [hb,hz]
   exact put_lt _ _ b _ h3 (by omega)
theorem fpS_first (hT:Tab T ls) (hts:∀ k,k<ts.length→0≤ts.getD k 0∧ts.getD k 0<ls.length) (k:Nat) (hk:k<ts.length) (hs:∀ j,j<k+1→ls.getD (ts.getD (ts.length-1-j) 0).toNat 0≠0):First T (ts.getD (ts.length-1-k) 0) (fpS T ts k).1 (fpS T ts (k+1)).1:=by
 obtain ⟨h1,_,_⟩:=fpS_ok hT hts k (by omega) (fun j hj=>hs j (by omega))
 have hsy:=hts (ts.length-1-k) (by omega)
 obtain ⟨s,hse⟩:=Int.eq_ofNat_of_zero_le hsy.1
 have hsh:=hs k (by omega)
 rw [hse,Int.toNat_natCast] at hsh
 rw [fpS,hse]
 exact fq_first (hT.ex s (fpS T ts k).1 (by omega) h1 hsh)
end
theorem First.unique {T:List Int} {s:Int} {p q r:Nat} (h1:First T s p q) (h2:First T s p r):q=r:=by
 rcases Nat.lt_trichotomy q r with h | h | h
 ·exact absurd h1.2.1 (h2.2.2 q h)
 ·exact h
 ·exact absurd h2.2.1 (h1.2.2 r h)
def fN (T ts:List Int):Nat:=(fpS T ts ts.length).2.1+6
def fV (T ts:List Int):Nat:=(fpS T ts ts.length).2.2+(fpS T ts ts.length).1*2 ^ (fpS T ts ts.length).2.1
end Go.Proofs.YtfeokafkhnbdiaaGreatDoor
namespace Go.Proofs.YtfeokafkhnbdiaaGreatDoor
open Go.RowKit Go.Shelf
attribute [local go_sem] Oper.semAt_some
set_option linter.unusedVariables false
abbrev P64 :={ x:Nat // x<64 }
set_option maxRecDepth 100000 in
theorem place_stops (F:Fence) (n:Nat) (hF:F.fn 151) (hro:F.round=none) (hn:1≤n) (w:World) :
  SeqStops F n Tryz.prog 151 #[] (fun v:P64=>Value.int .i64 ((v.1:Nat):Int)) (fun xs=>xs.map (·.1)=plc 64) (fun _=>True) 64 w:=fun l J Jx W _ _ _ hY h0=>by
 refine callsIn_of_wp Tryz.func151 rfl hF ?_ hro
 simp only [Tryz.ntmps151,List.size_toArray,List.length_cons,List.length_nil,Nat.reduceAdd,Nat.reduceSub,Array.replicate_succ,Array.replicate_zero,List.push_toArray,List.append_toArray,List.nil_append,List.cons_append]
 gi_wp2
 gi_loopw [2,3] (fun p i wr=>∃ (k q:Nat) (pre:List P64),k≤64∧i=.int .i64 k∧q=43*k % 64∧p=.int .i64 q∧pre.map (·.1)=plc k∧J pre wr) (fun _ i _=>64-(intOf i).toNat)
 case atStart=>exact ⟨0,0,[],Nat.zero_le _,rfl,rfl,rfl,rfl,h0⟩
 case round=>
  obtain ⟨k,q,pre,hk,rfl,hq,rfl,hp,hJ⟩:=hrel
  have hq64:q<64:=by omega
  have hl:pre.length=k:=by have:=congrArg List.length hp;simpa [plc_len] using this
  by_cases hlt:k<64
  ·obtain ⟨fn,tmps,assign,body,hy,hR⟩:=hY pre ⟨q,hq64⟩ wr hJ (by omega)
   dsimp only at hy
   have HQ:Hid (q=43*k % 64):=hq
   have HP:Hid (pre.map (·.1)=plc k):=hp
   have HL:Hid (pre.length=k):=hl
   clear hq hp hl
   gi_wp2
   refine hR.mono ?_
   rintro e W3 (⟨rfl,hJ3,hk3⟩ | ⟨rfl,hJx3⟩)
   ·gi_wp2
    go_roundw
    case rel=>exact ⟨k+1,(q+43) % 64,pre++[⟨q,hq64⟩],by omega,by go_num,by rw [HQ.out];omega,by go_num,by rw [List.map_append,HP.out,plc_succ,←HQ.out];rfl,hJ3⟩
    case measure=>simp [intOf];omega
   ·gi_wp2
    refine bodyPost_ret (results_none rfl _ _ _) rfl ?_
    exact ⟨⟨_,rfl⟩,.inr ⟨_,trivial,hJx3⟩⟩
  ·have hke:k=64:=by omega
   subst hke
   gi_wp2
   go_end0
   exact ⟨⟨_,rfl⟩,.inl ⟨pre,hp,hJ⟩⟩
attribute [local go_sem] Oper.semAt_some
set_option linter.unusedVariables false
def Z64 :Array Value:=((List.replicate 64 (0:Int)).map (Value.int .i64)).toArray
theorem z64 :(#[.int .i64 0,.int .i64 0,.int .i64 0,.int .i64 0,.int .i64 0,.int .i64 0,.int .i64 0,.int .i64 0,.int .i64 0,.int .i64 0,.int .i64 0,.int .i64 0,.int .i64 0,.int .i64 0,.int .i64 0,.int .i64 0,.int .i64 0,.int .i64 0,.int .i64 0,.int .i64 0,.int .i64 0,.int .i64 0,.int .i64 0,.int .i64 0,.int .i64 0,.int .i64 0,.int .i64 0,.int .i64 0,.int .i64 0,.int .i64 0,.int .i64 0,.int .i64 0,.int .i64 0,.int .i64 0,.int .i64 0,.int .i64 0,.int .i64 0,.int .i64 0,.int .i64 0,.int .i64 0,.int .i64 0,.int .i64 0,.int .i64 0,.int .i64 0,.int .i64 0,.int .i64 0,.int .i64 0,.int .i64 0,.int .i64 0,.int .i64 0,.int .i64 0,.int .i64 0,.int .i64 0,.int .i64 0,.int .i64 0,.int .i64 0,.int .i64 0,.int .i64 0,.int .i64 0,.int .i64 0,.int .i64 0,.int .i64 0,.int .i64 0,.int .i64 0]:Array Value)=Z64:=rfl
structure SpW (w W:World) (V:Value) (G S Lf:Nat) (tb:List Int) (s left:Nat):Prop where
 bx:Boxed W G 38 V
 rs:W.heap[G+1]?=some (.cells Z64 181 (0,0))
 tab:W.heap[G+1+1]?=some (.cells (tb.map (Value.int .i64)).toArray 181 (0,0))
 sy:Boxed W S 3 (.int .i64 s)
 lf:Boxed W Lf 3 (.int .i64 left)
 bel:Below G w W
section
variable {w W W' : World} {V : Value} {G S Lf : Nat} {tb : List Int} {s left : Nat}
theorem SpW.own {B:Nat} {row:Option Nat} (h:SpW w W V G S Lf tb s left) (hg:W.grownBy W' row) (hr:∀ r,row=some r→B≤r∧∃ o:Obj,W.heap[r]?=some o∧o.isCells=false) (hB:G≤B) (hw:G≤w.heap.size):SpW w W' V G S Lf tb s left:=by
 have hr':∀ r,row=some r→∃ o:Obj,W.heap[r]?=some o∧o.isCells=false:=fun r e=>(hr r e).2
 exact ⟨(grownBy_keeps_cells hg hr' h.bx rfl).trans h.bx,(grownBy_keeps_cells hg hr' h.rs rfl).trans h.rs,(grownBy_keeps_cells hg hr' h.tab rfl).trans h.tab,(grownBy_keeps_cells hg hr' h.sy rfl).trans h.sy,(grownBy_keeps_cells hg hr' h.lf rfl).trans h.lf,h.bel.grown hg (Nat.le_trans hw h.bel.size) (fun k e=>Nat.le_trans hB (hr k e).1)⟩
theorem SpW.setS (h:SpW w W V G S Lf tb s left) (hS:G+1+1<S) (hne:S≠Lf) (s':Nat):SpW w (W.setCell ⟨S,0,none⟩ (.int .i64 s')) V G S Lf tb s' left:=
 ⟨(Below.heap_setCell _ _ _ _ (by simp;omega)).trans h.bx,(Below.heap_setCell _ _ _ _ (by simp;omega)).trans h.rs,(Below.heap_setCell _ _ _ _ (by simp;omega)).trans h.tab,h.sy.set _,(Below.heap_setCell _ _ _ _ (by simpa using hne.symm)).trans h.lf,h.bel.setCell (by simp;omega) _⟩
theorem SpW.setL (h:SpW w W V G S Lf tb s left) (hS:G+1+1<Lf) (hne:S≠Lf) (l':Nat):SpW w (W.setCell ⟨Lf,0,none⟩ (.int .i64 l')) V G S Lf tb s l':=
 ⟨(Below.heap_setCell _ _ _ _ (by simp;omega)).trans h.bx,(Below.heap_setCell _ _ _ _ (by simp;omega)).trans h.rs,(Below.heap_setCell _ _ _ _ (by simp;omega)).trans h.tab,(Below.heap_setCell _ _ _ _ (by simpa using hne)).trans h.sy,h.lf.set _,h.bel.setCell (by simp;omega) _⟩
theorem SpW.setT (h:SpW w W V G S Lf tb s left) (hS:G+1+1<S) (hL:G+1+1<Lf) (x:Nat) (v:Int):SpW w (W.setCell ⟨G+1+1,x,none⟩ (.int .i64 v)) V G S Lf (tb.set x v) s left:=
 ⟨(Below.heap_setCell _ _ _ _ (by simp;omega)).trans h.bx,(Below.heap_setCell _ _ _ _ (by simp)).trans h.rs,by rw [heap_setCell_same _ _ x _ _ _ h.tab];simp [List.map_set],(Below.heap_setCell _ _ _ _ (by simp;omega)).trans h.sy,(Below.heap_setCell _ _ _ _ (by simp;omega)).trans h.lf,h.bel.setCell (by simp;omega) _⟩
end
theorem normB_sumS {zs:List Int} (hn:normB zs=true):(∀ z ∈ zs,0≤z)∧zs.sum=64:=by
 simp only [normB,decide_eq_true_eq] at hn
 exact ⟨fun z hz=>(hn.2.2.1 z hz).1,hn.2.2.2⟩
theorem tab_cell {w:World} {g:Nat} {T:TypeId} {tb:List Int} (h:w.heap[g]?=some (.cells (tb.map (Value.int .i64)).toArray T (0,0))) (x:Nat) (hx:x<tb.length):w.cell? ⟨g,x,none⟩=some (.int .i64 (tb.getD x 0)):=by
 rw [cell_of_row _ _ x _ _ _ h]
 simp [List.getD_eq_getElem?_getD,hx]
theorem wpListIn_load_rowS {n:Nat} {P:Program} {ops:Array Oper} {rest:List Oper} {op:Oper} {a:Act} {w:World} {Q:Exit→Act→World→Prop} (hgd:op.guard=none) (ty:TypeId) (x:Operand) (ho:op.op=.load ty x) (b:Nat) (hx:a.eval x=.pointer (some ⟨b,0,none⟩)) (v:Value)
  (hl:(loadVar ty ⟨b,0,none⟩).run P w=.ok v w) (h:wpListIn Fence.wide n P ops Q rest (a.put op.dst v) w):wpListIn Fence.wide n P ops Q (op :: rest) a w:=wpListIn_plain hgd fun K hK=>by
 refine ⟨fun _ _=>trivial,?_⟩
 show op.uponIn _ _ _ _ _ _ ((op.semAt none a.eval).run P w)
 rw [Oper.semAt_none]
 unfold execOp
 simp only [ho,hx,Instr.loadAt,Instr.sureAddr,Sem.run_bind,Sem.run_pure,Result.andThen_ok,hl]
 exact hK _ _ h
theorem wpListIn_store_rowS {n:Nat} {P:Program} {ops:Array Oper} {rest:List Oper} {op:Oper} {a:Act} {w w':World} {Q:Exit→Act→World→Prop} (hgd:op.guard=none) (ty:TypeId) (x y:Operand) (ho:op.op=.store ty x y) (b:Nat) (hx:a.eval x=.pointer (some ⟨b,0,none⟩)) (v:Value) (hy:a.eval y=v)
  (hl:(storeVar ty ⟨b,0,none⟩ v).run P w=.ok () w') (h:wpListIn Fence.wide n P ops Q rest (a.put op.dst undef) w'):wpListIn Fence.wide n P ops Q (op :: rest) a w:=wpListIn_plain hgd fun K hK=>by
 refine ⟨fun _ _=>trivial,?_⟩
 show op.uponIn _ _ _ _ _ _ ((op.semAt none a.eval).run P w)
 rw [Oper.semAt_none]
 unfold execOp
 simp only [ho,hx,hy,Instr.storeAt,Instr.sureAddr,Sem.run_bind,Sem.run_pure,Result.andThen_ok,hl]
 exact hK _ _ h
theorem results_cell1 {fn:Func} {p:Tmp} {ty:TypeId} (h:fn.results=#[.cell p ty]) (tmps:Array Value) (P:Program) (w:World):(results fn tmps).run P w=((asAddr (tmps.getD p undef)).run P w).andThen fun a w₁=>(loadVar ty a).run P w₁:=by
 simp only [results,h]
 simp [Sem.run_bind,Result.andThen]
theorem below_setRowS {B g:Nat} {w0 w:World} (hb:Below B w0 w) (hBg:B≤g) (cs:Array Value):Below B w0 (w.setRow g cs):=
 hb.trans ⟨rfl,rfl,rfl,by simp [World.setRow],fun k hk=>setRow_other w g k cs (by omega)⟩
def cellN (w:World) (S:Nat):Nat:=match w.cell? ⟨S,0,none⟩ with
 | some v=>(intOf v).toNat
 | none=>0
theorem cellN_eq {w:World} {S s:Nat} {t:TypeId} (h:Boxed w S t (.int .i64 s)):cellN w S=s:=by
 unfold cellN
 rw [h.cell]
 simp [intOf]
set_option maxRecDepth 100000 in
theorem spreadOf_in (n:Nat) (hn3:3≤n) (a:Option Addr) (cap:Nat) (zs:List Int) (w:World) (hb:Ins w a zs) (hn:normB zs=true) :
  CallsIn Fence.wide n Tryz.prog 131 #[.slice a zs.length cap] w fun e w'=>e=.returned (.agg ((pl (fl 0 zs) (plc 64)).map (Value.int .i64)).toArray)∧Below w.heap.size w w':=by
 have h1:1≤n:=by omega
 have hbd:=normB_bnd hn
 obtain ⟨b1,o1,rfl,hb1,hc1⟩:=hb.len_pos 0 (by omega)
 have HC:Hid (∀ i,i<zs.length→w.cell? ⟨b1,o1+i,none⟩=some (.int .i64 (zs.getD i 0))):=hc1
 have hs0:=hc1 0 (by omega)
 have HN:Hid (normB zs=true):=hn
 clear hn hb hc1
 generalize hL:zs.length=L at *
 have HL:Hid (zs.length=L):=hL
 clear hL
 obtain ⟨L',rfl⟩:∃ L',L=L'+1:=⟨L-1,by omega⟩
 refine callsIn_of_wp_marks Tryz.func131 rfl trivial ?_ rfl
 simp only [Tryz.ntmps131,List.size_toArray,List.length_cons,List.length_nil,Nat.reduceAdd,Nat.reduceSub,Array.replicate_succ,Array.replicate_zero,List.push_toArray,List.append_toArray,List.nil_append,List.cons_append]
 gi_wp2
 rw [z64]
 have HB0:Hid (Below w.heap.size w (((w.alloc (Obj.cells #[.slice (some ⟨b1,o1,none⟩) (L'+1) cap] 38)).alloc (Obj.cells Z64 181)).alloc (Obj.cells Z64 181))):=(((Below.refl _ _).alloc nl _).alloc (by simp) _).alloc (by simp;omega) _
 have HX0:Hid (Boxed (((w.alloc (Obj.cells #[.slice (some ⟨b1,o1,none⟩) (L'+1) cap] 38)).alloc (Obj.cells Z64 181)).alloc (Obj.cells Z64 181)) w.heap.size 38 (.slice (some ⟨b1,o1,none⟩) (L'+1) cap)):=((Boxed.new w _ _).alloc _).alloc _
 have HP0:Hid ((((w.alloc (Obj.cells #[.slice (some ⟨b1,o1,none⟩) (L'+1) cap] 38)).alloc (Obj.cells Z64 181)).alloc (Obj.cells Z64 181)).heap[w.heap.size+1]?=some (.cells Z64 181 (0,0))):=by
  have:=World.alloc_heap_new (w.alloc (Obj.cells #[.slice (some ⟨b1,o1,none⟩) (L'+1) cap] 38)) (Obj.cells Z64 181)
  rw [World.size_alloc] at this
  exact (Below.heap_alloc _ _ _ (by simp)).trans this
 have HQ0:Hid ((((w.alloc (Obj.cells #[.slice (some ⟨b1,o1,none⟩) (L'+1) cap] 38)).alloc (Obj.cells Z64 181)).alloc (Obj.cells Z64 181)).heap[w.heap.size+1+1]?=some (.cells Z64 181 (0,0))):=by
  have:=World.alloc_heap_new ((w.alloc (Obj.cells #[.slice (some ⟨b1,o1,none⟩) (L'+1) cap] 38)).alloc (Obj.cells Z64 181)) (Obj.cells Z64 181)
  rw [World.size_alloc,World.size_alloc] at this
  exact this
 have HS0:Hid ((((w.alloc (Obj.cells #[.slice (some ⟨b1,o1,none⟩) (L'+1) cap] 38)).alloc (Obj.cells Z64 181)).alloc (Obj.cells Z64 181)).heap.size=w.heap.size+1+1+1):=by simp [Hid]
 generalize ((w.alloc (Obj.cells #[.slice (some ⟨b1,o1,none⟩) (L'+1) cap] 38)).alloc (Obj.cells Z64 181)).alloc (Obj.cells Z64 181)=W0 at *
 generalize hG:w.heap.size=G at *
 have HG:Hid (w.heap.size=G):=hG
 clear hG
 have c0:=HX0.out.cell
 have c1:W0.cell? ⟨b1,o1+0,none⟩=some (.int .i64 (zs.getD 0 0)):=keep HB0.out hb1 hs0
 have l0:=HX0.out.lt
 have l1:b1<W0.heap.size:=by omega
 obtain ⟨z0,hz0⟩:∃ z0:Int,zs.getD 0 0=z0:=⟨_,rfl⟩
 have HZ:Hid (zs.getD 0 0=z0):=hz0
 rw [hz0] at c1
 rw [Nat.add_zero] at c1
 clear hs0 hz0
 have hmx:Tryz.prog.follows .mixedOrders=true:=by kernel_rfl
 have hz0n:0≤z0:=by have:=normB_get HN.out 0 (by rw [HL.out];omega);rw [HZ.out] at this;omega
 obtain ⟨y0,rfl⟩:=Int.eq_ofNat_of_zero_le hz0n
 gi_region
 all_goals have hsz:=HS0.out
 all_goals have HSZ:Hid (W0.heap.size=G+1+1+1):=hsz
 all_goals clear HS0
 have H1:Hid (SpW w ((W0.alloc (Obj.cells #[.int .i64 0] 3)).alloc (Obj.cells #[.int .i64 (y0:Int)] 3)).drew (.slice (some ⟨b1,o1,none⟩) (L'+1) cap) G W0.heap.size (W0.heap.size+1) (pl (fl 0 zs) []) 0 y0):=
  ⟨(HX0.out.alloc _).alloc _,(Below.heap_alloc _ _ _ (by simp;omega)).trans ((Below.heap_alloc _ _ _ (by omega)).trans HP0.out),(Below.heap_alloc _ _ _ (by simp;omega)).trans ((Below.heap_alloc _ _ _ (by omega)).trans HQ0.out),(Boxed.new W0 3 _).alloc _,(by have:=Boxed.new (W0.alloc (Obj.cells #[.int .i64 0] 3)) 3 (.int .i64 (y0:Int));rw [World.size_alloc] at this;exact this),((HB0.out.alloc (by omega) _).alloc (by simp;omega) _).drew⟩
 have HF:Hid (G+1+1<W0.heap.size∧G+1+1<(W0.heap.size+1)∧W0.heap.size≠(W0.heap.size+1)):=by unfold Hid;omega
 generalize ((W0.alloc (Obj.cells #[.int .i64 0] 3)).alloc (Obj.cells #[.int .i64 (y0:Int)] 3)).drew=W1 at H1 ⊢
 generalize W0.heap.size+1=Lf at H1 HF ⊢
 generalize W0.heap.size=S at H1 HF ⊢
 clear HX0 HP0 HQ0 HB0 HSZ l0 l1 c0 c1 hmx hsz
 rotate_left
 have H1:Hid (SpW w ((W0.alloc (Obj.cells #[.int .i64 (y0:Int)] 3)).alloc (Obj.cells #[.int .i64 0] 3)).drew (.slice (some ⟨b1,o1,none⟩) (L'+1) cap) G (W0.heap.size+1) W0.heap.size (pl (fl 0 zs) []) 0 y0):=
  ⟨(HX0.out.alloc _).alloc _,(Below.heap_alloc _ _ _ (by simp;omega)).trans ((Below.heap_alloc _ _ _ (by omega)).trans HP0.out),(Below.heap_alloc _ _ _ (by simp;omega)).trans ((Below.heap_alloc _ _ _ (by omega)).trans HQ0.out),(by have:=Boxed.new (W0.alloc (Obj.cells #[.int .i64 (y0:Int)] 3)) 3 (.int .i64 0);rw [World.size_alloc] at this;exact this),(Boxed.new W0 3 _).alloc _,((HB0.out.alloc (by omega) _).alloc (by simp;omega) _).drew⟩
 have HF:Hid (G+1+1<(W0.heap.size+1)∧G+1+1<W0.heap.size∧(W0.heap.size+1)≠W0.heap.size):=by unfold Hid;omega
 generalize ((W0.alloc (Obj.cells #[.int .i64 (y0:Int)] 3)).alloc (Obj.cells #[.int .i64 0] 3)).drew=W1 at H1 ⊢
 generalize W0.heap.size+1=S at H1 HF ⊢
 generalize W0.heap.size=Lf at H1 HF ⊢
 clear HX0 HP0 HQ0 HB0 HSZ l0 l1 c0 c1 hmx hsz
 all_goals
  obtain ⟨hS,hLf,hne⟩:=HF.out
  have HW1:Hid (G≤W1.heap.size):=by have:=H1.out.bx.lt;unfold Hid;omega
  have hsum64:=(normB_sumS HN.out)
  have HALL:Hid ((∀ z ∈ zs,0≤z)∧zs.sum=64):=hsum64
  clear hsum64 HF
  gi_wp2
  refine wpIn_rangeFunc_ownF rfl h1 (gf:=151) (lb:=#[]) rfl trivial (enters_of Tryz.func151 (by kernel_rfl) rfl)
   (encs:=fun x:P64=>#[.int .i64 ((x.1:Nat):Int)]) (Kp:=KeepsWalks) (place_stops Fence.wide (n-1) trivial rfl (by omega) W1) walksK_t walksK_b (Below.refl _ _) (fun _=>rfl)
   (fun pre W=>∃ s left:Nat,s<L'+1∧(left:Int)≤zs.getD s 0∧(zs.take s).sum+zs.getD s 0-left=(pre.length:Int)∧SpW w W (.slice (some ⟨b1,o1,none⟩) (L'+1) cap) G S Lf (pl (fl 0 zs) (pre.map (·.1))) s left)
   (fun _ _ _=>False)
   (fun pre A B row hs hg hr=>by obtain ⟨s,left,p1,p2,p3,h⟩:=hs;exact ⟨s,left,p1,p2,p3,h.own hg hr HW1.out (by rw [HG.out];exact Nat.le_refl _)⟩)
   (fun _ _ _ _ _ hs _ _=>hs)
   ⟨0,y0,by omega,by rw [HZ.out];exact Int.le_refl _,by rw [HZ.out];simp,H1.out⟩
   (fun x=>{ tmps:=#[(.slice (some ⟨b1,o1,none⟩) (L'+1) cap),.pointer (some ⟨G,0,none⟩),.pointer (some ⟨G+1,0,none⟩),.pointer (some ⟨G+1+1,0,none⟩),.pointer (some ⟨S,0,none⟩),.pointer (some ⟨Lf,0,none⟩),.int .i64 ((x.1:Nat):Int),(.slice (some ⟨b1,o1,none⟩) (L'+1) cap),.pointer (some ⟨b1,o1,none⟩),.int .i64 y0,.int .i64 ((x.1:Nat):Int),undef,undef,undef,undef,undef,undef,undef,undef,undef,undef,undef,undef,undef,undef],defers:=[] }) ?assign ?body ?done ?stop
  case assign=>
   intro l x W K hK
   gi_wp2
   exact hK
  case body=>
   rintro l pre ⟨x,hx⟩ W ⟨s,left,hs,hle,hsum,hw⟩ hlt
   have HH:Hid (∃ s left:Nat,s<L'+1∧(left:Int)≤zs.getD s 0∧(zs.take s).sum+zs.getD s 0-left=(pre.length:Int)∧SpW w W (.slice (some ⟨b1,o1,none⟩) (L'+1) cap) G S Lf (pl (fl 0 zs) (pre.map (·.1))) s left):=⟨s,left,hs,hle,hsum,hw⟩
   clear hs hle hsum hw s left
   gi_wp2
   gi_loopw [] (fun wr=>(∃ s left:Nat,s<L'+1∧(left:Int)≤zs.getD s 0∧(zs.take s).sum+zs.getD s 0-left=(pre.length:Int)∧SpW w wr (.slice (some ⟨b1,o1,none⟩) (L'+1) cap) G S Lf (pl (fl 0 zs) (pre.map (·.1))) s left)∧KeepsOthers W wr) (fun wr=>L'+1-cellN wr S)
   case atStart=>exact ⟨HH.out,KeepsOthers.refl _⟩
   case round=>
    obtain ⟨⟨s,left,hs,hle,hsum,hw⟩,hko⟩:=hrel
    have HNs:Hid (cellN wr S=s):=cellN_eq hw.sy
    have HKO:Hid (KeepsOthers W wr):=hko
    have x0:=hw.bx.cell
    have x1:=hw.sy.cell
    have x2:=hw.lf.cell
    have y1:=hw.sy.frozen
    have y2:=hw.lf.frozen
    have h1s:=sum_succ zs s (by rw [HL.out];exact hs)
    have hgs:=normB_get HN.out s (by rw [HL.out];exact hs)
    by_cases hl0:left=0
    ·subst hl0
     have hs1:s+1<L'+1:=by
      rcases Nat.lt_or_ge (s+1) (L'+1) with h | h
      ·exact h
      ·exfalso
       have e:s+1=zs.length:=by rw [HL.out];omega
       rw [e,List.take_length,HALL.out.2] at h1s
       omega
     have hg:=normB_get HN.out (s+1) (by rw [HL.out];exact hs1)
     obtain ⟨z1,hz1⟩:=Int.eq_ofNat_of_zero_le hg.1
     have HZ1:Hid (zs.getD (s+1) 0=(z1:Int)):=hz1
     have hc:=keep hw.bel hb1 (HC.out (s+1) hs1)
     rw [hz1] at hc
     have hbS:b1≠S:=by omega
     have hbL:b1≠Lf:=by omega
     have HSUM:Hid ((zs.take (s+1)).sum+zs.getD (s+1) 0-z1=(pre.length:Int)):=by unfold Hid;rw [h1s,HZ1.out];omega
     have HW2:Hid (SpW w ((wr.setCell ⟨S,0,none⟩ (.int .i64 ((s:Int)+1))).setCell ⟨Lf,0,none⟩ (.int .i64 z1)) (.slice (some ⟨b1,o1,none⟩) (L'+1) cap) G S Lf (pl (fl 0 zs) (pre.map (·.1))) (s+1) z1):=by
      have:=(hw.setS hS hne (s+1)).setL hLf hne z1
      rw [show (((s+1:Nat)):Int)=(s:Int)+1 from by omega] at this
      exact this
     have hSL:=hne
     have hLS:=hne.symm
     clear hw hle hsum h1s hgs hg hz1 hko
     gi_wp2
     go_roundw
     case rel=>exact ⟨⟨s+1,z1,hs1,by rw [HZ1.out];exact Int.le_refl _,HSUM.out,HW2.out⟩,(HKO.out.trans (KeepsOthers.setCell _ _ _)).trans (KeepsOthers.setCell _ _ _)⟩
     case measure=>
      rw [cellN_eq HW2.out.sy,HNs.out]
      omega
    ·obtain ⟨l',rfl⟩:∃ l',left=l'+1:=⟨left-1,by omega⟩
     have hl1:(((l'+1:Nat):Int) == 0)=false:=by simp;omega
     have HFL:Hid ((fl 0 zs).getD (pre.map (·.1)).length 0=(s:Int)):=by
      unfold Hid
      have h2:=sum_nn HALL.out.1 s
      have:=fl_at zs 0 s (zs.getD s 0-(l'+1:Nat)).toNat HALL.out.1 (by rw [HL.out];exact hs) (by omega)
      rw [show (zs.take s).sum.toNat+(zs.getD s 0-(l'+1:Nat)).toNat=(pre.map (·.1)).length from by rw [List.length_map];omega,Nat.zero_add] at this
      exact this
     have hlen:=pl_len (fl 0 zs) (pre.map (·.1))
     have hc:=tab_cell hw.tab x (by rw [hlen];exact hx)
     have hf:=frozen_of_row wr _ x _ _ hw.tab
     have HW2:Hid (SpW w ((wr.setCell ⟨G+1+1,x,none⟩ (.int .i64 s)).setCell ⟨Lf,0,none⟩ (.int .i64 l')) (.slice (some ⟨b1,o1,none⟩) (L'+1) cap) G S Lf (pl (fl 0 zs) ((pre++[(⟨x,hx⟩:P64)]).map (·.1))) s l'):=by
      have:=(hw.setT hS hLf x (s:Int)).setL hLf hne l'
      rw [List.map_append,List.map_cons,List.map_nil,pl_snoc,HFL.out]
      exact this
     have HSUM:Hid ((zs.take s).sum+zs.getD s 0-l'=((pre++[(⟨x,hx⟩:P64)]).length:Int)):=by unfold Hid;rw [List.length_append,List.length_singleton];omega
     have HLE:Hid ((l':Int)≤zs.getD s 0):=by unfold Hid;omega
     have hlb:(l':Int)≤64:=by omega
     have hTS:G+1+1≠S:=by omega
     have hTL:G+1+1≠Lf:=by omega
     have hST:=hTS.symm
     have hLT:=hTL.symm
     generalize (pl (fl 0 zs) (pre.map (·.1))).getD x 0=old at *
     clear hw hle hsum h1s hgs hko hlen
     gi_wp2
     have hk2:=(HKO.out.trans (KeepsOthers.setCell wr ⟨G+1+1,x,none⟩ (.int .i64 s))).trans (KeepsOthers.setCell _ ⟨Lf,0,none⟩ (.int .i64 l'))
     exact ⟨hk2,hk2.walks,s,l',hs,HLE.out,HSUM.out,HW2.out⟩
  case done=>
   rintro D ys W hD hys ⟨s,left,hs,hle,hsum,hw⟩ hK
   rw [hys] at hw
   have hlen:=pl_len (fl 0 zs) (plc 64)
   have hsz:(((pl (fl 0 zs) (plc 64)).map (Value.int .i64)).toArray).size=64:=by simp [hlen]
   have hlv:=run_loadVar_row (P:=Tryz.prog) W (G+1+1) 181 181 _ (0,0) _ hw.tab Tryz.underlying181 rfl (by rw [hsz];kernel_rfl)
   have hsv:=run_storeVar_row (P:=Tryz.prog) W (G+1) 181 181 Z64 _ hw.rs (by rw [hsz];kernel_rfl) (by rw [hsz];rfl) (by simp [Value.oneCell'])
   have HLV:Hid _:=hlv
   have HSV:Hid _:=hsv
   have HWW:Hid (SpW w W (.slice (some ⟨b1,o1,none⟩) (L'+1) cap) G S Lf (pl (fl 0 zs) (plc 64)) s left):=hw
   clear hlv hsv hw
   simp only [Exit.then,Exit.inBlock]
   gi_step
   apply wpIn_seq_k
   intro _ _
   apply wpIn_region_lit
   refine wpListIn_load_rowS rfl 181 (.tmp 3) rfl (G+1+1) rfl _ HLV.out ?_
   refine wpListIn_store_rowS rfl 181 (.tmp 2) (.tmp 24) rfl (G+1) rfl _ rfl HSV.out ?_
   apply wpListIn_nil
   gi_wp2
   have hD1:G+1<D:=by
    have h2:=(Array.getElem?_eq_some_iff.1 H1.out.tab).1
    omega
   generalize hE:((pl (fl 0 zs) (plc 64)).map (Value.int .i64)).toArray=E at *
   have hK':(W.setRow (G+1) E).heap[D]?=some (.deferred (some [])):=(setRow_other _ _ _ _ (by omega)).trans hK
   have hr1:(W.setRow (G+1) E).heap[G+1]?=some (.cells E 181 (0,0)):=setRow_heap _ _ _ _ _ _ HWW.out.rs
   have hr2:((W.setRow (G+1) E).putObj D (.deferred none)).heap[G+1]?=some (.cells E 181 (0,0)):=(World.putObj_heap_other (by omega)).trans hr1
   have hlast:=run_loadVar_row (P:=Tryz.prog) _ (G+1) 181 181 E (0,0) _ hr2 Tryz.underlying181 rfl (by rw [hsz];kernel_rfl)
   refine ⟨by simp,.inl ⟨_,_,rfl,run_takeDeferred hK',?_⟩⟩
   refine ⟨.agg E,?_,rfl,?_⟩
   ·rw [results_cell1 Tryz.results131]
    exact hlast
   ·rw [HG.out]
    exact (below_setRowS HWW.out.bel (by omega) _).trans (belowK_b (w:=W1) HW1.out _ D _ _ hD hK' rfl rfl)
  case stop=>
   rintro D c pre W _ _ h _
   exact h.elim
end Go.Proofs.YtfeokafkhnbdiaaGreatDoor
namespace Go.Proofs.YtfeokafkhnbdiaaGreatDoor
open Go.RowKit
set_option linter.unusedVariables false
def bl (n:Nat):Nat:=if n=0 then 0 else Nat.log2 n+1
theorem bl_all :∀ n,n<256→n<2 ^ bl n∧(∀ k,k<9→k<bl n→2 ^ k≤n)∧bl n≤8∧(n≤64→bl n≤7):=by decide +kernel
theorem bl_lt (n:Nat) (h:n<256):n<2 ^ bl n:=(bl_all n h).1
theorem bl_ge (n k:Nat) (h:n<256) (hk:k<bl n):2 ^ k≤n:=(bl_all n h).2.1 k (by have:=(bl_all n h).2.2.1;omega) hk
theorem bl_le (n:Nat) (h:n<256):bl n≤8:=(bl_all n h).2.2.1
theorem bl_le7 (n:Nat) (h:n≤64):bl n≤7:=(bl_all n (by omega)).2.2.2 h
set_option maxRecDepth 100000 in
theorem len64_int (x:Int) (w:World) (h0:0≤x) (h:x<256) :
  Calls Tryz.prog 117 #[.int .u64 x] w fun e w'=>e=.returned (.int .i64 (bl x.toNat:Nat))∧w'=w:=by
 generalize hy:((bl x.toNat:Nat):Int)=y
 have HY:Hid (((bl x.toNat:Nat):Int)=y):=hy
 clear hy
 go_enter Tryz.func117,Tryz.ntmps117
 go_wp2
 go_ret
 refine ⟨ret_int ?_,rfl⟩
 rw [←HY.out]
 have hn:x.toNat<256:=by omega
 have e:∀ (n:Nat) (S:ByteArray) (h:n<S.size),S[n]=S.data.toList.getD n 0:=by
  intro n S h
  have h':n<S.data.toList.length:=by simpa using h
  rw [List.getD_eq_getElem?_getD,List.getElem?_eq_getElem h']
  rfl
 rw [e]
 generalize x.toNat=n at *
 revert hn
 clear HY e
 revert n
 decide +kernel
theorem len64_any (n:Nat) (w:World) (h:n<256) :
  Calls Tryz.prog 117 #[.int .u64 (n:Int)] w fun e w'=>e=.returned (.int .i64 (bl n:Nat))∧w'=w:=by
 have:=len64_int (n:Int) w (by omega) (by omega)
 simpa using this
theorem len_any (n:Nat) (w:World) (h:n<256) :
  Calls Tryz.prog 92 #[.int .u64 (n:Int)] w fun e w'=>e=.returned (.int .i64 (bl n:Nat))∧w'=w:=by
 go_enter Tryz.func92,Tryz.ntmps92
 go_wp2_with fail
 refine (len64_any n w h).mono ?_
 rintro e w1 ⟨rfl,rfl⟩
 go_wp2
 go_ret
 exact ⟨rfl,rfl⟩
def ArI (w:World) (B U:Nat) (a:Option Addr) (zs:List Int):Prop:=
 (∀ z ∈ zs,-9223372036854775808≤z∧z≤9223372036854775807)∧((a=none∧zs=[])∨∃ g T,a=some ⟨g,0,none⟩∧B≤g∧g<U∧w.heap[g]?=some (.cells (zs.map (Value.int .i64)).toArray T (0,0)))
theorem arr_cell {w:World} {g:Nat} {T:TypeId} {tb:List Int} (h:w.heap[g]?=some (.cells (tb.map (Value.int .i64)).toArray T (0,0))) (x:Nat) (hx:x<tb.length):w.cell? ⟨g,x,none⟩=some (.int .i64 (tb.getD x 0)):=by
 rw [cell_of_row _ _ x _ _ _ h]
 simp [List.getD_eq_getElem?_getD,hx]
section
variable {w W W' : World} {B U B' U' : Nat} {a : Option Addr} {zs : List Int}
end
def zer (n:Nat):List Int:=List.replicate n 0
def cel (l:List Int):Array Value:=(l.map (Value.int .i64)).toArray
theorem infoTab :(Tryz.prog.info? 179).bind (·.zero)=some (.agg (cel (zer 192))):=by kernel_rfl
theorem infoNxt :(Tryz.prog.info? 180).bind (·.zero)=some (.agg (cel (zer 80))):=by kernel_rfl
theorem zeroOf {P:Program} {t:TypeId} {z:Value} (h:(P.info? t).bind (·.zero)=some z) (w:World):(zeroValue t).run P w=.ok z w:=by
 cases hi:P.info? t with
 | none=>rw [hi] at h;simp at h
 | some i=>
  rw [hi] at h
  simp at h
  simp [zeroValue,typeInfo,hi,h]
theorem zeroTab (w:World):(zeroValue 179).run Tryz.prog w=.ok (.agg (cel (zer 192))) w:=zeroOf infoTab w
theorem zeroNxt (w:World):(zeroValue 180).run Tryz.prog w=.ok (.agg (cel (zer 80))) w:=zeroOf infoNxt w
theorem splice_zer (zs:List Int) (L:Nat) (h:zs.length=L):splice ((zer 80).map (Value.int .i64)) 0 (zs.map (Value.int .i64))=(zs++zer (80-L)).map (Value.int .i64):=by
 unfold splice
 rw [List.take_zero,List.nil_append,Nat.zero_add,List.length_map,h,←List.map_drop,List.map_append]
 unfold zer
 rw [List.drop_replicate]
theorem index_row (E:Array Value) (k s:Nat) (hk:k<64) (hE:E[k]?=some (.int .i64 (s:Int))) (W:World):(Instr.index 181 (.agg E) (.int .i64 (k:Int))).run Tryz.prog W=.ok (.int .i64 (s:Int)) W:=by
 obtain ⟨i0,hi,hz0,hz1,hz2⟩:=info_parts Tryz.infoI64
 simp [Instr.index,asIntOf,run_underlying Tryz.underlying181,run_underlying Tryz.underlying3,Go.part,isAgg,sizeOf,typeInfo,hi,hz1,hE,hk]
theorem wd_bl :∀ X,X<128→1≤X→bl X+wd X=7:=by decide +kernel
end Go.Proofs.YtfeokafkhnbdiaaGreatDoor
