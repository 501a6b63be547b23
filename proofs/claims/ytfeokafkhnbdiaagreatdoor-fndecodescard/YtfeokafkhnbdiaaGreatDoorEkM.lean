/- Lemmas on the way. -/
import Derived.Test.YtfeokafkhnbdiaaGreatDoorPcA
import Derived.Test.YtfeokafkhnbdiaaGreatDoorEnL
import Derived.Maps.AppendAt
import Derived.Test.YtfeokafkhnbdiaaGreatDoorPmA
import Derived.Test.YtfeokafkhnbdiaaGreatDoorPcN
set_option maxRecDepth 20000
set_option maxHeartbeats 16000000
namespace Go.Proofs.YtfeokafkhnbdiaaGreatDoor
open Go.RowKit
set_option linter.unusedVariables false
theorem l2counts_any (a:Option Addr) (cap:Nat) (zs:List Int) (n:Nat) (w:World) (hb:Ins w a zs) (ht:txtB zs n=true) :
  Calls Tryz.prog 107 #[.slice a zs.length cap,.int .i64 n] w fun e w'=>
   e=.returned (.slice (some ⟨w.heap.size,0,none⟩) n n)∧OwI w' w.heap.size w.heap.size n (cnts zs n)∧Below w.heap.size w w':=by
 obtain ⟨i0,hi,hz0,hz1,hz2⟩:=info_parts Tryz.infoI64
 obtain ⟨hn1,hn2,hn3⟩:=txtB_bnd ht
 have HTX:Hid (txtB zs n=true):=ht
 clear ht
 generalize hlen:zs.length=L at *
 have HL:Hid (zs.length=L):=hlen
 clear hlen
 go_enter Tryz.func107,Tryz.ntmps107
 go_wp2_with (at_make;refine wpList_make_full _ rfl _ _ 38 rfl w.heap.size 3 i0 (.int .i64 0) 1 Tryz.underlying38 hi hz0 hz1 .i64 .i64 _ _ n rfl rfl rfl rfl (by rw [hz2];omega) (by unfold maxLen;omega) nl ?_;intro w1 hown hgrow)
 have h0:OwI w1 w.heap.size w.heap.size n (cnts (zs.take 0) n):=by
  have e:cnts (zs.take 0) n=List.replicate n 0:=by simp [cnts]
  rw [e]
  refine ⟨?_,by intro z hz;simp at hz;omega⟩
  rw [made_zeroI] at hown
  simpa using hown
 have hbw:Below w.heap.size w w1:=(Below.refl _ _).grown hgrow nl (by intro k hk;cases hk)
 have H0:Hid (OwI w1 w.heap.size w.heap.size n (cnts (zs.take 0) n)):=h0
 clear h0 hown hgrow hi hz0 hz1 hz2
 go_loopw [6] (fun i wr=>∃ k:Nat,k≤L∧i=.int .i64 k∧OwI wr w.heap.size w.heap.size n (cnts (zs.take k) n)∧Below w.heap.size w wr) (fun i _=>L-(intOf i).toNat)
 case atStart=>exact ⟨0,Nat.zero_le _,rfl,H0.out,hbw⟩
 case round=>
  obtain ⟨k,hk,rfl,hown,hbel⟩:=hrel
  have HO:Hid (OwI wr w.heap.size w.heap.size n (cnts (zs.take k) n)):=hown
  clear hown hbw
  by_cases hlt:k<L
  ·obtain ⟨b,off,rfl,hbl,hcells⟩:=hb.len_pos k (by rw [HL.out];exact hlt)
   have hsrc:wr.cell? ⟨b,off+k,none⟩=some (.int .i64 (zs.getD k 0)):=(hbel.cell (p:=⟨b,off+k,none⟩) hbl).trans (hcells k (by rw [HL.out];exact hlt))
   have hx:=txtB_get HTX.out k (by rw [HL.out];exact hlt)
   have HST:Hid (bump (cnts (zs.take k) n) (zs.getD k 0)=cnts (zs.take (k+1)) n):=cnts_take_succ zs n k (by rw [HL.out];exact hlt)
   generalize hxx:zs.getD k 0=x at *
   obtain ⟨x,rfl⟩:∃ j:Nat,x=j:=⟨x.toNat,by omega⟩
   have hdst:=HO.out.cell x (by rw [cnts_len];omega)
   have hfz:=HO.out.frozen x
   have hv:0≤(cnts (zs.take k) n).getD x 0∧(cnts (zs.take k) n).getD x 0≤300:=by
    have:=cnts_rng (zs.take k) n _ (getD_mem (zs:=cnts (zs.take k) n) (k:=x) (by rw [cnts_len];omega))
    have h3:(zs.take k).length≤300:=by rw [List.length_take,HL.out];omega
    omega
   have R:=HO.out.store x ((cnts (zs.take k) n).getD x 0+1) (by omega)
   have e:(cnts (zs.take k) n).set x ((cnts (zs.take k) n).getD x 0+1)=cnts (zs.take (k+1)) n:=by rw [←HST.out];simp [bump]
   rw [e] at R
   generalize (cnts (zs.take k) n).getD x 0=v at *
   have HR:Hid (OwI (wr.setCell ⟨w.heap.size,x,none⟩ (.int .i64 (v+1))) w.heap.size w.heap.size n (cnts (zs.take (k+1)) n)):=R
   have HB:Hid (Below w.heap.size w (wr.setCell ⟨w.heap.size,x,none⟩ (.int .i64 (v+1)))):=hbel.setCell (p:=⟨w.heap.size,x,none⟩) nl (.int .i64 (v+1))
   clear R e hcells hb hxx
   go_wp2
   go_roundw
   case rel=>exact ⟨k+1,by omega,by go_num,by simpa using HR.out,by simpa using HB.out⟩
   case measure=>simp [intOf];omega
  ·have hkn:k=L:=by omega
   subst hkn
   have hall:=HO.out
   rw [List.take_of_length_le (by rw [HL.out];exact Nat.le_refl _)] at hall
   have HA:Hid (OwI wr w.heap.size w.heap.size n (cnts zs n)):=hall
   clear hall
   go_wp2
   go_ret
   exact ⟨rfl,HA.out,hbel⟩
set_option linter.unusedSimpArgs false
def Pc.sy :Pc→List Int
 | .coin s c=>[(s:Int)]
 | .pack a b n=>a.sy++b.sy
theorem sy_len (p:Pc):p.sy.length=p.sz:=by
 induction p with
 | coin s c=>rfl
 | pack a b n iha ihb=>simp [Pc.sy,Pc.sz,iha,ihb]
structure Ek where
 p:Pc
 a:Option Addr
 c:Nat
def dek :Ek:=⟨dpc,none,0⟩
def Ek.cells (e:Ek):List Value:=[.int .i64 e.p.wt,.slice e.a e.p.sy.length e.c]
theorem ek_flat (es:List Ek) (i:Nat) (hi:i<es.length) (j:Nat) (hj:j<2):(es.flatMap Ek.cells)[i*2+j]?=((es.getD i dek).cells)[j]?:=by
 induction es generalizing i with
 | nil=>simp at hi
 | cons e es ih=>
  cases i with
  | zero=>
   simp only [List.flatMap_cons,Nat.zero_mul,Nat.zero_add]
   rw [List.getElem?_append_left (by simp [Ek.cells];exact hj)]
   rfl
  | succ i=>
   simp only [List.flatMap_cons]
   rw [List.getElem?_append_right (by simp [Ek.cells];omega)]
   have h:=ih i (by simpa using hi)
   rw [show (i+1)*2+j-e.cells.length=i*2+j by simp [Ek.cells];omega,h]
   rfl
theorem ek_flen (es:List Ek):(es.flatMap Ek.cells).length=es.length*2:=by
 induction es with
 | nil=>rfl
 | cons e es ih=>simp [List.flatMap_cons,ih,Ek.cells];omega
theorem ek_one (es:List Ek):∀ u ∈ es.flatMap Ek.cells,u.oneCell'=true:=fun u hu=>by
 obtain ⟨e,_,he⟩:=List.mem_flatMap.1 hu
 simp only [Ek.cells,List.mem_cons,List.not_mem_nil,or_false] at he
 rcases he with rfl | rfl <;> rfl
def Eks (w:World) (a:Option Addr) (es:List Ek):Prop:=
 0<es.length→∃ b off,a=some ⟨b,off,none⟩∧b<w.heap.size∧∀ i,i<es.length→w.cell? ⟨b,off+i*2,none⟩=some (.int .i64 (es.getD i dek).p.wt)∧w.cell? ⟨b,off+i*2+1,none⟩=some (.slice (es.getD i dek).a (es.getD i dek).p.sy.length (es.getD i dek).c)
theorem Eks.below {w w':World} {a:Option Addr} {es:List Ek} (h:Eks w a es) (hb:Below w.heap.size w w'):Eks w' a es:=fun h0=>by
 obtain ⟨b,o,e,hl,hc⟩:=h h0
 exact ⟨b,o,e,Nat.lt_of_lt_of_le hl hb.size,fun i hi=>⟨keep hb hl (hc i hi).1,keep hb hl (hc i hi).2⟩⟩
def OVk (w:World) (B:Nat) (v:Value) (es:List Ek):Prop:=w.ownsRow B 190 2 v es.length (es.flatMap Ek.cells)
theorem OVk.nil (w:World) (B:Nat):OVk w B (.slice none 0 0) []:=⟨rfl,.inl ⟨rfl,rfl⟩⟩
theorem OVk.slice {w:World} {B:Nat} {v:Value} {es:List Ek} (h:OVk w B v es):∃ a c,v=.slice a es.length c∧Eks w a es∧es.length≤c∧((a=none∧es=[]∧c=0)∨∃ g,a=some ⟨g,0,none⟩):=by
 rcases h.2 with ⟨rfl,h1⟩ | ⟨g,cap,cur,rfl,hg,hh,h4,h5,h6,h7⟩
 ·have:es=[]:=List.length_eq_zero_iff.1 h1
  subst this
  exact ⟨none,0,rfl,fun h=>by simp at h,Nat.le_refl _,.inl ⟨rfl,rfl,rfl⟩⟩
 ·refine ⟨_,cap,rfl,fun h0=>⟨g,0,rfl,(Array.getElem?_eq_some_iff.1 hh).1,fun i hi=>?_⟩,h4,.inr ⟨g,rfl⟩⟩
  have e0:=ek_flat es i hi 0 (by omega)
  have e1:=ek_flat es i hi 1 (by omega)
  have c0:=World.ownsRow.cellAt h (i*2+0) (by omega)
  have c1:=World.ownsRow.cellAt h (i*2+1) (by omega)
  rw [e0] at c0
  rw [e1] at c1
  simp only [Nat.zero_add,Nat.add_zero] at c0 c1 ⊢
  exact ⟨by rw [c0];rfl,by rw [c1];rfl⟩
theorem OVk.below {w w':World} {B:Nat} {v:Value} {es:List Ek} (h:OVk w B v es) (hb:Below w.heap.size w w'):OVk w' B v es:=by
 have hg:w.grownBy w' none:=⟨hb.os,hb.tape,hb.output,hb.size,fun k hk _=>hb.block k hk⟩
 exact World.ownsRow.kept h hg (by cases v.ownBlock <;> simp)
theorem OVk.tag {w:World} {B:Nat} {v:Value} {es:List Ek} (h:OVk w B v es) {k:Nat} (hk:v.ownBlock=some k):∃ cur,w.heap[k]?=some (.cells cur 190 (0,0)):=by
 rcases h.2 with ⟨rfl,_⟩ | ⟨g,cap,cur,rfl,hg,hh,r⟩
 ·simp [Value.ownBlock] at hk
 ·simp [Value.ownBlock] at hk
  subst hk
  exact ⟨cur,hh⟩
theorem Tryz.infoEk :(Tryz.prog.info? 190).map (fun i=>(i.zero,i.size,i.bytes))=some (some (.agg #[.int .i64 0,.slice none 0 0]),2,32):=by kernel_rfl
theorem run_append_ek {w:World} {ty:TypeId} {B:Nat} {v:Value} {es fs:List Ek} {a:Option Addr} {c:Nat} (h:OVk w B v es) (hq:Eks w a fs) (hl:es.length+fs.length≤100000) (hB:B≤w.heap.size) :
  ∃ v' w',(Builtin.append_ #[188,188] ty #[v,.slice a fs.length c]).run Tryz.prog w=.ok v' w'∧OVk w' B v' (es++fs)∧w.grownBy w' v.ownBlock∧(v'.ownBlock=v.ownBlock∨v'.ownBlock=some w.heap.size):=by
 obtain ⟨i0,hi,hz0,hz1,hz2⟩:=info_parts Tryz.infoEk
 have h1:=Tryz.underlying188
 by_cases h0:fs.length=0
 ·obtain rfl:fs=[]:=List.length_eq_zero_iff.1 h0
  refine ⟨v,w,?_,by simpa using h,⟨rfl,rfl,rfl,Nat.le_refl _,fun _ _ _=>rfl⟩,.inl rfl⟩
  obtain ⟨a',c',rfl,_,hc,_⟩:=h.slice
  simp [Builtin.append_,run_underlying h1,sizeOf,typeInfo,hi,Builtin.lenOf,Builtin.firstCells,loadCells,loadCellsFrom,hc]
  cases a <;> cases a' <;> simp [Result.andThen,storeCells]
 ·obtain ⟨b,off,rfl,hbl,hc⟩:=hq (by omega)
  obtain ⟨v',w',hr,ho,hg,_,hat⟩:=run_append_own_at (P:=Tryz.prog) w B 188 ty 190 i0 _ 2 32 h1 hi hz0 hz1 hz2 rfl (by decide) v es.length (es.flatMap Ek.cells) h ⟨b,off,none⟩ fs.length c (fs.flatMap Ek.cells) (ek_flen fs) (by
   intro j u hu
   have hj:j<fs.length*2:=by rw [←ek_flen fs];exact (List.getElem?_eq_some_iff.1 hu).1
   have h2:(⟨b,off,none⟩:Addr).add j=⟨b,off+j,none⟩:=by
    cases j with
    | zero=>simp [Addr.add]
    | succ j=>simp [Addr.add]
   rw [h2]
   have hcj:=hc (j / 2) (by omega)
   have hf:=ek_flat fs (j / 2) (by omega) (j % 2) (by omega)
   rw [show j / 2*2+j % 2=j by omega,hu] at hf
   rcases Nat.mod_two_eq_zero_or_one j with hm | hm
   ·rw [hm] at hf
    rw [show off+j=off+j / 2*2 by omega,hcj.1]
    simpa [Ek.cells] using hf.symm
   ·rw [hm] at hf
    rw [show off+j=off+j / 2*2+1 by omega,hcj.2]
    simpa [Ek.cells] using hf.symm) (ek_one fs) (by unfold maxLen;omega) (by omega) hB
  refine ⟨v',w',hr,?_,hg,hat⟩
  unfold OVk
  rw [List.length_append,List.flatMap_append]
  exact ho
theorem wp_append_ek {o:Oper} {act:Act} {w:World} {K:Act→World→Prop} {Q:Exit→Act→World→Prop} (s x:Operand) (ho:o.op=.call { callee:=.builtin .append,args:=#[s,x],argTypes:=#[188,188] })
  {B:Nat} {v:Value} {es fs:List Ek} {a:Option Addr} {c n:Nat} (hs:act.eval s=v) (hx:act.eval x=.slice a n c) (hn:n=fs.length) (h:OVk w B v es) (hq:Eks w a fs) (hl:es.length+fs.length≤100000) (hB:B≤w.heap.size)
  (hk:∀ v' w',OVk w' B v' (es++fs)→w.grownBy w' v.ownBlock→(v'.ownBlock=v.ownBlock∨v'.ownBlock=some w.heap.size)→K (act.put o.dst v') w'):o.wp Tryz.prog act w K Q:=by
 subst hn
 obtain ⟨v',w',hr,r1,r2,r3⟩:=run_append_ek (ty:=o.type) (c:=c) h hq hl hB
 unfold Oper.wp execOp
 simp only [ho,resolve,invoke,builtin,Sem.run_bind,Sem.run_pure,Result.andThen_ok,List.map_toArray,List.map_cons,List.map_nil,hs,hx,hr]
 exact hk v' w' r1 r2 r3
theorem wpList_append_ek {ops:Array Oper} {rest:List Oper} {o:Oper} {act:Act} {w:World} {Q:Exit→Act→World→Prop} (hgd:o.guard=none) (s x:Operand) (ho:o.op=.call { callee:=.builtin .append,args:=#[s,x],argTypes:=#[188,188] })
  {B:Nat} {v:Value} {es fs:List Ek} {a:Option Addr} {c n:Nat} (hs:act.eval s=v) (hx:act.eval x=.slice a n c) (hn:n=fs.length) (h:OVk w B v es) (hq:Eks w a fs) (hl:es.length+fs.length≤100000) (hB:B≤w.heap.size)
  (hk:∀ v' w',OVk w' B v' (es++fs)→w.grownBy w' v.ownBlock→(v'.ownBlock=v.ownBlock∨v'.ownBlock=some w.heap.size)→wpList Tryz.prog ops Q rest (act.put o.dst v') w'):wpList Tryz.prog ops Q (o :: rest) act w:=by
 refine wpList_plain hgd fun K hK=>?_
 exact wp_append_ek s x ho hs hx hn h hq hl hB (fun v' w' r1 r2 r3=>hK _ _ (hk v' w' r1 r2 r3))
theorem eks_one (w:World) (e:Ek):Eks (w.alloc (Obj.cells #[.int .i64 e.p.wt,.slice e.a e.p.sy.length e.c] 190)) (some ⟨w.heap.size,0,none⟩) [e]:=fun _=>
 ⟨w.heap.size,0,rfl,by simp,fun i hi=>by
  have hi0:i=0:=by simpa using hi
  subst hi0
  exact ⟨cell_blk (heap_alloc_new w _) rfl,cell_blk (heap_alloc_new w _) rfl⟩⟩
def mrgE :List Ek→List Ek→List Ek
 | [],b=>b
 | a :: ar,[]=>a :: ar
 | a :: ar,b :: br=>if a.p.wt≤b.p.wt then a :: mrgE ar (b :: br) else b :: mrgE (a :: ar) br
termination_by a b=>a.length+b.length
theorem mrgE_map :∀ a b,(mrgE a b).map Ek.p=mrg (a.map Ek.p) (b.map Ek.p)
 | [],b=>by rw [mrgE];simp [mrg]
 | a :: ar,[]=>by rw [mrgE];simp [mrg]
 | a :: ar,b :: br=>by
  rw [mrgE,List.map_cons,List.map_cons,mrg]
  split
  ·rw [List.map_cons,mrgE_map ar (b :: br)]
   rfl
  ·rw [List.map_cons,mrgE_map (a :: ar) br]
   rfl
termination_by a b=>a.length+b.length
theorem mrgE_len :∀ a b,(mrgE a b).length=a.length+b.length
 | [],b=>by rw [mrgE];simp
 | a :: ar,[]=>by rw [mrgE];simp
 | a :: ar,b :: br=>by
  rw [mrgE]
  split
  ·rw [List.length_cons,mrgE_len ar (b :: br)];simp;omega
  ·rw [List.length_cons,mrgE_len (a :: ar) br];simp;omega
termination_by a b=>a.length+b.length
theorem mrgE_mem :∀ {a b:List Ek} {e:Ek},e ∈ mrgE a b→e ∈ a∨e ∈ b
 | [],b,e,h=>by rw [mrgE] at h;exact .inr h
 | a :: ar,[],e,h=>by rw [mrgE] at h;exact .inl h
 | a :: ar,b :: br,e,h=>by
  rw [mrgE] at h
  split at h
  ·rcases List.mem_cons.1 h with h | h
   ·exact .inl (by simp [h])
   ·rcases mrgE_mem h with h | h
    ·exact .inl (by simp [h])
    ·exact .inr h
  ·rcases List.mem_cons.1 h with h | h
   ·exact .inr (by simp [h])
   ·rcases mrgE_mem h with h | h
    ·exact .inl h
    ·exact .inr (by simp [h])
termination_by a b=>a.length+b.length
theorem drop_getE {l:List Ek} {i:Nat} (h:i<l.length):l.drop i=l.getD i dek :: l.drop (i+1):=by
 rw [List.drop_eq_getElem_cons h]
 simp [List.getD_eq_getElem?_getD,h]
theorem mrgE_left {a b:List Ek} {i k:Nat} (hi:i<a.length) (h:b.length≤k∨(a.getD i dek).p.wt≤(b.getD k dek).p.wt):mrgE (a.drop i) (b.drop k)=a.getD i dek :: mrgE (a.drop (i+1)) (b.drop k):=by
 rw [drop_getE hi]
 by_cases hk:k<b.length
 ·rw [drop_getE hk,mrgE,if_pos (by omega)]
 ·rw [List.drop_eq_nil_of_le (show b.length≤k by omega),mrgE]
  cases a.drop (i+1) <;> rw [mrgE]
theorem mrgE_right {a b:List Ek} {i k:Nat} (hk:k<b.length) (h:a.length≤i∨¬(a.getD i dek).p.wt≤(b.getD k dek).p.wt):mrgE (a.drop i) (b.drop k)=b.getD k dek :: mrgE (a.drop i) (b.drop (k+1)):=by
 rw [drop_getE hk]
 by_cases hi:i<a.length
 ·rw [drop_getE hi,mrgE,if_neg (by omega)]
 ·rw [List.drop_eq_nil_of_le (show a.length≤i by omega),mrgE,mrgE]
def Ekc (e:Ek) (u:Nat) (ea:Option Addr) (el ec:Nat):Prop:=u=e.p.wt∧ea=e.a∧el=e.p.sy.length∧ec=e.c
theorem Eks.read {w wr:World} {a:Option Addr} {es:List Ek} (h:Eks w a es) (hb:Below w.heap.size w wr) (i:Nat) (hi:i<es.length):∃ b o u ea el ec,a=some ⟨b,o,none⟩∧b<wr.heap.size∧wr.cell? ⟨b,o+i*2,none⟩=some (.int .i64 (u:Nat))∧wr.cell? ⟨b,o+i*2+1,none⟩=some (.slice ea el ec)∧Ekc (es.getD i dek) u ea el ec:=by
 obtain ⟨b,o,e,hl,hc⟩:=h (by omega)
 exact ⟨b,o,_,_,_,_,e,Nat.lt_of_lt_of_le hl hb.size,keep hb hl (hc i hi).1,keep hb hl (hc i hi).2,rfl,rfl,rfl,rfl⟩
theorem eks_oneL (w:World) {e:Ek} {u:Nat} {ea:Option Addr} {el ec:Nat} (h:Ekc e u ea el ec):Eks (w.alloc (Obj.cells #[.int .i64 u,.slice ea el ec] 190)) (some ⟨w.heap.size,0,none⟩) [e]:=by
 obtain ⟨rfl,rfl,rfl,rfl⟩:=h
 exact eks_one w e
theorem l2merge_any (a1 a2:Option Addr) (c1 c2:Nat) (es fs:List Ek) (w:World) (h1:Eks w a1 es) (h2:Eks w a2 fs) (hl:es.length+fs.length≤90000) :
  Calls Tryz.prog 137 #[.slice a1 es.length c1,.slice a2 fs.length c2] w fun e w'=>∃ v,e=.returned v∧OVk w' w.heap.size v (mrgE es fs)∧Below w.heap.size w w':=by
 have HY:Hid (Eks w a1 es∧Eks w a2 fs):=⟨h1,h2⟩
 have HLEN:Hid (es.length+fs.length≤90000∧(mrgE es fs).length=es.length+fs.length):=⟨hl,mrgE_len es fs⟩
 have hne:es.length≤90000:=by omega
 have hnf:fs.length≤90000:=by omega
 have HML:Hid (∀ i k,i<es.length→(fs.length≤k∨(es.getD i dek).p.wt≤(fs.getD k dek).p.wt)→mrgE (es.drop i) (fs.drop k)=es.getD i dek :: mrgE (es.drop (i+1)) (fs.drop k)):=fun i k=>mrgE_left
 have HMR:Hid (∀ i k,k<fs.length→(es.length≤i∨¬(es.getD i dek).p.wt≤(fs.getD k dek).p.wt)→mrgE (es.drop i) (fs.drop k)=fs.getD k dek :: mrgE (es.drop i) (fs.drop (k+1))):=fun i k=>mrgE_right
 have HD0:Hid ([]++mrgE (es.drop 0) (fs.drop 0)=mrgE es fs∧∀ i k,es.length≤i→fs.length≤k→mrgE (es.drop i) (fs.drop k)=[]):=⟨by simp,fun i k hi hk=>by rw [List.drop_eq_nil_of_le hi,List.drop_eq_nil_of_le hk,mrgE]⟩
 clear h1 h2 hl
 obtain ⟨n,hn⟩:∃ n,n=es.length:=⟨_,rfl⟩
 obtain ⟨m,hm⟩:∃ m,m=fs.length:=⟨_,rfl⟩
 rw [←hn,←hm] at HLEN ⊢
 rw [←hn] at hne HML HD0 HMR
 rw [←hm] at hnf HML HMR HD0
 have HNM:Hid (n=es.length∧m=fs.length):=⟨hn,hm⟩
 clear hn hm
 go_enter Tryz.func137,Tryz.ntmps137
 go_wp2
 go_loopw [5,6,7] (fun ov iv kv W=>∃ (i k:Nat) (ds:List Ek),i≤n∧k≤m∧iv=.int .i64 i∧kv=.int .i64 k∧OVk W w.heap.size ov ds∧ds++mrgE (es.drop i) (fs.drop k)=mrgE es fs∧Below w.heap.size w W) (fun _ iv kv _=>(n-(intOf iv).toNat)+(m-(intOf kv).toNat))
 case atStart=>exact ⟨0,0,[],Nat.zero_le _,Nat.zero_le _,rfl,rfl,OVk.nil _ _,HD0.out.1,Below.refl _ _⟩
 case round=>
  obtain ⟨i,k,ds,hi,hk,rfl,rfl,hov,hds,hbel⟩:=hrel
  have hdl:ds.length≤n+m:=by
   have h:=congrArg List.length hds
   rw [List.length_append] at h
   have:=HLEN.out.2
   omega
  have HR:Hid (OVk wr w.heap.size u5 ds∧ds++mrgE (es.drop i) (fs.drop k)=mrgE es fs∧Below w.heap.size w wr):=⟨hov,hds,hbel⟩
  obtain ⟨oa,oc,hov5,-,-,-⟩:=hov.slice
  subst hov5
  obtain ⟨D,hD⟩:∃ D,D=ds.length:=⟨_,rfl⟩
  rw [←hD] at HR hdl ⊢
  have HDL:Hid (D=ds.length∧True):=⟨hD,trivial⟩
  clear hov hds hbel hD
  by_cases hkm:k<m
  ·obtain ⟨b2,o2,u2,ea2,el2,ec2,rfl,hb2,cA2,cB2,hE2⟩:=HY.out.2.read HR.out.2.2 k (by have:=HNM.out.2;omega)
   obtain ⟨E2,hEE2⟩:∃ E,E=fs.getD k dek:=⟨(fs.getD k dek),rfl⟩
   rw [←hEE2] at hE2
   have HEE2:Hid (E2=fs.getD k dek∧u2=(fs.getD k dek).p.wt):=⟨hEE2,by rw [←hEE2];exact hE2.1⟩
   have HE2:Hid (Ekc E2 u2 ea2 el2 ec2):=hE2
   clear hE2 hEE2
   have hkm2:(k:Int)<(m:Int):=by omega
   have hkm3:¬(m:Int)≤(k:Int):=by omega
   have dk:decide ((m:Int)≤(k:Int))=false:=decide_eq_false hkm3
   by_cases hin:i<n
   ·obtain ⟨b1,o1,u1,ea1,el1,ec1,rfl,hb1,cA1,cB1,hE1⟩:=HY.out.1.read HR.out.2.2 i (by have:=HNM.out.1;omega)
    obtain ⟨E1,hEE1⟩:∃ E,E=es.getD i dek:=⟨(es.getD i dek),rfl⟩
    rw [←hEE1] at hE1
    have HEE1:Hid (E1=es.getD i dek∧u1=(es.getD i dek).p.wt):=⟨hEE1,by rw [←hEE1];exact hE1.1⟩
    have HE1:Hid (Ekc E1 u1 ea1 el1 ec1):=hE1
    clear hE1 hEE1
    have hin2:(i:Int)<(n:Int):=by omega
    have di:decide ((i:Int)<(n:Int))=true:=decide_eq_true hin2
    by_cases hw:u1≤u2
    ·have hw2:(u1:Int)≤(u2:Int):=by omega
     have dw:decide ((u1:Int)≤(u2:Int))=true:=decide_eq_true hw2
     have HST:Hid ((ds++[E1])++mrgE (es.drop (i+1)) (fs.drop k)=mrgE es fs∧True):=by
      refine ⟨?_,trivial⟩
      have h:=HR.out.2.1
      rw [HML.out i k hin (.inr (by rw [←HEE1.out.2,←HEE2.out.2];exact hw)),←HEE1.out.1] at h
      rw [←h,List.append_assoc]
      rfl
     go_wp2
     go_quiet (fail)
     have H4:Hid (OVk (wr.drewN nq) w.heap.size (.slice oa D oc) ds∧Below w.heap.size w (wr.drewN nq)):=⟨HR.out.1,⟨HR.out.2.2.os,HR.out.2.2.tape,HR.out.2.2.output,HR.out.2.2.size,HR.out.2.2.block⟩⟩
     have x0:(wr.drewN nq).cell? ⟨b1,o1+i*2,none⟩=some (.int .i64 (u1:Nat)):=cA1
     have x1:(wr.drewN nq).cell? ⟨b1,o1+i*2+1,none⟩=some (.slice ea1 el1 ec1):=cB1
     generalize wr.drewN nq=W4 at *
     have HY4:Hid (OVk (W4.alloc (Obj.cells #[.int .i64 (u1:Nat),.slice ea1 el1 ec1] 190)) w.heap.size (.slice oa D oc) ds∧Eks (W4.alloc (Obj.cells #[.int .i64 (u1:Nat),.slice ea1 el1 ec1] 190)) (some ⟨W4.heap.size,0,none⟩) [E1]∧w.heap.size≤(W4.alloc (Obj.cells #[.int .i64 (u1:Nat),.slice ea1 el1 ec1] 190)).heap.size∧Below w.heap.size w (W4.alloc (Obj.cells #[.int .i64 (u1:Nat),.slice ea1 el1 ec1] 190))):=⟨H4.out.1.below ((Below.refl _ _).alloc nl _),eks_oneL W4 HE1.out,by have:=H4.out.2.size;simp;omega,H4.out.2.alloc H4.out.2.size _⟩
     go_wp2_with (at_builtin;(refine wpList_append_ek (v:=.slice oa D oc) (es:=ds) (fs:=[E1]) rfl (.tmp 41) (.tmp 46) rfl rfl rfl rfl HY4.out.1 HY4.out.2.1 (show ds.length+1≤100000 by rw [←HDL.out.1];have:=HLEN.out.1;omega) HY4.out.2.2.1 ?_;intro v9 w9 hov9 hg9 hat9;have H9:Hid (OVk w9 w.heap.size v9 (ds++[E1])∧Below w.heap.size w w9):=⟨hov9,HY4.out.2.2.2.grown hg9 HY4.out.2.2.1 (fun j hj=>(World.ownsRow.lt HY4.out.1 j hj).1)⟩;clear hov9 hg9 hat9))
     go_roundw
     case rel=>exact ⟨i+1,k,ds++[E1],by omega,by omega,by first | rfl | go_num,by first | rfl | go_num,H9.out.1,HST.out.1,H9.out.2⟩
     case measure=>simp [intOf];omega
    ·have hw2:¬(u1:Int)≤(u2:Int):=by omega
     have dw:decide ((u1:Int)≤(u2:Int))=false:=decide_eq_false hw2
     have HST:Hid ((ds++[E2])++mrgE (es.drop i) (fs.drop (k+1))=mrgE es fs∧True):=by
      refine ⟨?_,trivial⟩
      have h:=HR.out.2.1
      rw [HMR.out i k hkm (.inr (by rw [←HEE1.out.2,←HEE2.out.2];exact hw)),←HEE2.out.1] at h
      rw [←h,List.append_assoc]
      rfl
     go_wp2
     go_quiet (fail)
     have H4:Hid (OVk (wr.drewN nq) w.heap.size (.slice oa D oc) ds∧Below w.heap.size w (wr.drewN nq)):=⟨HR.out.1,⟨HR.out.2.2.os,HR.out.2.2.tape,HR.out.2.2.output,HR.out.2.2.size,HR.out.2.2.block⟩⟩
     have x0:(wr.drewN nq).cell? ⟨b2,o2+k*2,none⟩=some (.int .i64 (u2:Nat)):=cA2
     have x1:(wr.drewN nq).cell? ⟨b2,o2+k*2+1,none⟩=some (.slice ea2 el2 ec2):=cB2
     generalize wr.drewN nq=W4 at *
     have HY4:Hid (OVk (W4.alloc (Obj.cells #[.int .i64 (u2:Nat),.slice ea2 el2 ec2] 190)) w.heap.size (.slice oa D oc) ds∧Eks (W4.alloc (Obj.cells #[.int .i64 (u2:Nat),.slice ea2 el2 ec2] 190)) (some ⟨W4.heap.size,0,none⟩) [E2]∧w.heap.size≤(W4.alloc (Obj.cells #[.int .i64 (u2:Nat),.slice ea2 el2 ec2] 190)).heap.size∧Below w.heap.size w (W4.alloc (Obj.cells #[.int .i64 (u2:Nat),.slice ea2 el2 ec2] 190))):=⟨H4.out.1.below ((Below.refl _ _).alloc nl _),eks_oneL W4 HE2.out,by have:=H4.out.2.size;simp;omega,H4.out.2.alloc H4.out.2.size _⟩
     go_wp2_with (at_builtin;(refine wpList_append_ek (v:=.slice oa D oc) (es:=ds) (fs:=[E2]) rfl (.tmp 50) (.tmp 55) rfl rfl rfl rfl HY4.out.1 HY4.out.2.1 (show ds.length+1≤100000 by rw [←HDL.out.1];have:=HLEN.out.1;omega) HY4.out.2.2.1 ?_;intro v9 w9 hov9 hg9 hat9;have H9:Hid (OVk w9 w.heap.size v9 (ds++[E2])∧Below w.heap.size w w9):=⟨hov9,HY4.out.2.2.2.grown hg9 HY4.out.2.2.1 (fun j hj=>(World.ownsRow.lt HY4.out.1 j hj).1)⟩;clear hov9 hg9 hat9))
     go_roundw
     case rel=>exact ⟨i,k+1,ds++[E2],by omega,by omega,by first | rfl | go_num,by first | rfl | go_num,H9.out.1,HST.out.1,H9.out.2⟩
     case measure=>simp [intOf];omega
   ·have hin2:¬(i:Int)<(n:Int):=by omega
    have di:decide ((i:Int)<(n:Int))=false:=decide_eq_false hin2
    have HST:Hid ((ds++[E2])++mrgE (es.drop i) (fs.drop (k+1))=mrgE es fs∧True):=by
     refine ⟨?_,trivial⟩
     have h:=HR.out.2.1
     rw [HMR.out i k hkm (.inl (by omega)),←HEE2.out.1] at h
     rw [←h,List.append_assoc]
     rfl
    go_wp2_with fail
    have dkN:decide (m≤k)=false:=decide_eq_false (by omega)
    have diN:decide (i<n)=false:=decide_eq_false (by omega)
    clear hkm2 hkm3 hin2
    refine wp_region_cut (S:=fun _=>True) 23 (by kernel_rfl) (by kernel_rfl) (by exact trivial) (fun hHeld=>?_)
    refine tk 0 (v:=?_) ?_ ?_
    rotate_left
    ·(intro w hSw;(try dsimp only at hSw);go_simp;try (with_reducible rfl))
    try simp only [tkS]
    refine tk 1 (v:=?_) ?_ ?_
    rotate_left
    ·(intro w hSw;(try dsimp only at hSw);go_simp;try (with_reducible rfl))
    try simp only [tkS]
    refine tk 2 (v:=?_) ?_ ?_
    rotate_left
    ·(intro w hSw;(try dsimp only at hSw);go_simp;try (with_reducible rfl))
    try simp only [tkS]
    refine tk 3 (v:=?_) ?_ ?_
    rotate_left
    ·(intro w hSw;(try dsimp only at hSw);go_simp;try (with_reducible rfl))
    try simp only [tkS]
    refine tk 4 (v:=?_) ?_ ?_
    rotate_left
    ·(intro w hSw;(try dsimp only at hSw);go_simp;try (with_reducible rfl))
    try simp only [tkS]
    refine tk 5 (v:=?_) ?_ ?_
    rotate_left
    ·(intro w hSw;(try dsimp only at hSw);go_simp;try (with_reducible rfl))
    try simp only [tkS]
    refine tk 6 (v:=?_) ?_ ?_
    rotate_left
    ·(intro w hSw;(try dsimp only at hSw);go_simp;try (with_reducible rfl))
    try simp only [tkS]
    refine tk 7 (v:=?_) ?_ ?_
    rotate_left
    ·(intro w hSw;(try dsimp only at hSw);go_simp;try (with_reducible rfl))
    try simp only [tkS]
    refine tk 8 (v:=?_) ?_ ?_
    rotate_left
    ·(intro w hSw;(try dsimp only at hSw);go_simp;try (with_reducible rfl))
    try simp only [tkS]
    refine tk 9 (v:=?_) ?_ ?_
    rotate_left
    ·(intro w hSw;(try dsimp only at hSw);go_simp;try (with_reducible rfl))
    try simp only [tkS]
    refine tu 10 ?_
    try simp only [tkS]
    refine tu 11 ?_
    try simp only [tkS]
    refine tu 12 ?_
    try simp only [tkS]
    refine tu 13 ?_
    try simp only [tkS]
    refine tu 14 ?_
    try simp only [tkS]
    refine tu 15 ?_
    try simp only [tkS]
    refine tu 16 ?_
    try simp only [tkS]
    refine tu 17 ?_
    try simp only [tkS]
    refine tu 18 ?_
    try simp only [tkS]
    refine tu 19 ?_
    try simp only [tkS]
    refine tu 20 ?_
    try simp only [tkS]
    refine tk 21 (v:=?_) ?_ ?_
    rotate_left
    ·(intro w hSw;(try dsimp only at hSw);go_simp;try (with_reducible rfl))
    try simp only [tkS]
    refine tk 22 (v:=?_) ?_ ?_
    rotate_left
    ·(intro w hSw;(try dsimp only at hSw);go_simp;try (with_reducible rfl))
    try simp only [tkS]
    refine wpAnyH_done (by kernel_rfl) ?_ _
    simp only [cutQ,List.drop_succ_cons,List.drop_zero]
    clear hHeld
    have H4:Hid (OVk (wr.drew) w.heap.size (.slice oa D oc) ds∧Below w.heap.size w (wr.drew)):=⟨HR.out.1,⟨HR.out.2.2.os,HR.out.2.2.tape,HR.out.2.2.output,HR.out.2.2.size,HR.out.2.2.block⟩⟩
    have x0:(wr.drew).cell? ⟨b2,o2+k*2,none⟩=some (.int .i64 (u2:Nat)):=cA2
    have x1:(wr.drew).cell? ⟨b2,o2+k*2+1,none⟩=some (.slice ea2 el2 ec2):=cB2
    generalize wr.drew=W4 at *
    have HY4:Hid (OVk (W4.alloc (Obj.cells #[.int .i64 (u2:Nat),.slice ea2 el2 ec2] 190)) w.heap.size (.slice oa D oc) ds∧Eks (W4.alloc (Obj.cells #[.int .i64 (u2:Nat),.slice ea2 el2 ec2] 190)) (some ⟨W4.heap.size,0,none⟩) [E2]∧w.heap.size≤(W4.alloc (Obj.cells #[.int .i64 (u2:Nat),.slice ea2 el2 ec2] 190)).heap.size∧Below w.heap.size w (W4.alloc (Obj.cells #[.int .i64 (u2:Nat),.slice ea2 el2 ec2] 190))):=⟨H4.out.1.below ((Below.refl _ _).alloc nl _),eks_oneL W4 HE2.out,by have:=H4.out.2.size;simp;omega,H4.out.2.alloc H4.out.2.size _⟩
    go_wp2_with (at_builtin;(refine wpList_append_ek (v:=.slice oa D oc) (es:=ds) (fs:=[E2]) rfl (.tmp 50) (.tmp 55) rfl rfl rfl rfl HY4.out.1 HY4.out.2.1 (show ds.length+1≤100000 by rw [←HDL.out.1];have:=HLEN.out.1;omega) HY4.out.2.2.1 ?_;intro v9 w9 hov9 hg9 hat9;have H9:Hid (OVk w9 w.heap.size v9 (ds++[E2])∧Below w.heap.size w w9):=⟨hov9,HY4.out.2.2.2.grown hg9 HY4.out.2.2.1 (fun j hj=>(World.ownsRow.lt HY4.out.1 j hj).1)⟩;clear hov9 hg9 hat9))
    go_roundw
    case rel=>exact ⟨i,k+1,ds++[E2],by omega,by omega,by first | rfl | go_num,by first | rfl | go_num,H9.out.1,HST.out.1,H9.out.2⟩
    case measure=>simp [intOf];omega
  ·have hkm2:¬(k:Int)<(m:Int):=by omega
   have hkm3:(m:Int)≤(k:Int):=by omega
   have dk:decide ((m:Int)≤(k:Int))=true:=decide_eq_true hkm3
   by_cases hin:i<n
   ·obtain ⟨b1,o1,u1,ea1,el1,ec1,rfl,hb1,cA1,cB1,hE1⟩:=HY.out.1.read HR.out.2.2 i (by have:=HNM.out.1;omega)
    obtain ⟨E1,hEE1⟩:∃ E,E=es.getD i dek:=⟨(es.getD i dek),rfl⟩
    rw [←hEE1] at hE1
    have HEE1:Hid (E1=es.getD i dek∧u1=(es.getD i dek).p.wt):=⟨hEE1,by rw [←hEE1];exact hE1.1⟩
    have HE1:Hid (Ekc E1 u1 ea1 el1 ec1):=hE1
    clear hE1 hEE1
    have hin2:(i:Int)<(n:Int):=by omega
    have HST:Hid ((ds++[E1])++mrgE (es.drop (i+1)) (fs.drop k)=mrgE es fs∧True):=by
     refine ⟨?_,trivial⟩
     have h:=HR.out.2.1
     rw [HML.out i k hin (.inl (by omega)),←HEE1.out.1] at h
     rw [←h,List.append_assoc]
     rfl
    go_wp2
    go_quiet (fail)
    have H4:Hid (OVk (wr.drewN nq) w.heap.size (.slice oa D oc) ds∧Below w.heap.size w (wr.drewN nq)):=⟨HR.out.1,⟨HR.out.2.2.os,HR.out.2.2.tape,HR.out.2.2.output,HR.out.2.2.size,HR.out.2.2.block⟩⟩
    have x0:(wr.drewN nq).cell? ⟨b1,o1+i*2,none⟩=some (.int .i64 (u1:Nat)):=cA1
    have x1:(wr.drewN nq).cell? ⟨b1,o1+i*2+1,none⟩=some (.slice ea1 el1 ec1):=cB1
    generalize wr.drewN nq=W4 at *
    have HY4:Hid (OVk (W4.alloc (Obj.cells #[.int .i64 (u1:Nat),.slice ea1 el1 ec1] 190)) w.heap.size (.slice oa D oc) ds∧Eks (W4.alloc (Obj.cells #[.int .i64 (u1:Nat),.slice ea1 el1 ec1] 190)) (some ⟨W4.heap.size,0,none⟩) [E1]∧w.heap.size≤(W4.alloc (Obj.cells #[.int .i64 (u1:Nat),.slice ea1 el1 ec1] 190)).heap.size∧Below w.heap.size w (W4.alloc (Obj.cells #[.int .i64 (u1:Nat),.slice ea1 el1 ec1] 190))):=⟨H4.out.1.below ((Below.refl _ _).alloc nl _),eks_oneL W4 HE1.out,by have:=H4.out.2.size;simp;omega,H4.out.2.alloc H4.out.2.size _⟩
    go_wp2_with (at_builtin;(refine wpList_append_ek (v:=.slice oa D oc) (es:=ds) (fs:=[E1]) rfl (.tmp 41) (.tmp 46) rfl rfl rfl rfl HY4.out.1 HY4.out.2.1 (show ds.length+1≤100000 by rw [←HDL.out.1];have:=HLEN.out.1;omega) HY4.out.2.2.1 ?_;intro v9 w9 hov9 hg9 hat9;have H9:Hid (OVk w9 w.heap.size v9 (ds++[E1])∧Below w.heap.size w w9):=⟨hov9,HY4.out.2.2.2.grown hg9 HY4.out.2.2.1 (fun j hj=>(World.ownsRow.lt HY4.out.1 j hj).1)⟩;clear hov9 hg9 hat9))
    go_roundw
    case rel=>exact ⟨i+1,k,ds++[E1],by omega,by omega,by first | rfl | go_num,by first | rfl | go_num,H9.out.1,HST.out.1,H9.out.2⟩
    case measure=>simp [intOf];omega
   ·have hin2:¬(i:Int)<(n:Int):=by omega
    have HE:Hid (OVk wr w.heap.size (.slice oa D oc) (mrgE es fs)∧Below w.heap.size w wr):=by
     have h:=HR.out.2.1
     rw [HD0.out.2 i k (by omega) (by omega),List.append_nil] at h
     rw [←h]
     exact ⟨HR.out.1,HR.out.2.2⟩
    go_wp2
    go_ret
    exact ⟨_,rfl,HE.out.1,HE.out.2⟩
end Go.Proofs.YtfeokafkhnbdiaaGreatDoor
