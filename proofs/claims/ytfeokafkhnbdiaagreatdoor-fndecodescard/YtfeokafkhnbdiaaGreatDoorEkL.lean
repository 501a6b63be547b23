/- Lemmas on the way. -/
import Derived.Test.YtfeokafkhnbdiaaGreatDoorEkM
import Derived.Test.YtfeokafkhnbdiaaGreatDoorSyms
import Derived.Test.YtfeokafkhnbdiaaGreatDoorLnN
import Derived.BigQuiet
import Derived.Test.YtfeokafkhnbdiaaGreatDoorPcN
set_option maxRecDepth 20000
set_option maxHeartbeats 16000000
namespace Go.Proofs.YtfeokafkhnbdiaaGreatDoor
open Go.RowKit
set_option linter.unusedVariables false
set_option linter.unusedSimpArgs false
def EkSy (w:World) (M:Nat) (es:List Ek):Prop:=∀ e ∈ es,∃ b cur,e.a=some ⟨b,0,none⟩∧M<b∧e.p.sy.length≤e.c∧w.heap[b]?=some (.cells cur 3 (0,0))∧∀ i,i<e.p.sy.length→cur[i]?=some (.int .i64 (e.p.sy.getD i 0))
theorem EkSy.only {S:Nat→Prop} {w w':World} {M:Nat} {es:List Ek} (h:EkSy w M es) (ho:Only S w w') (hS:∀ k,S k→k≤M∨∃ cur T,w.heap[k]?=some (.cells cur T (0,0))∧T≠3):EkSy w' M es:=fun e he=>by
 obtain ⟨b,cur,h1,h2,h3,h4,h5⟩:=h e he
 refine ⟨b,cur,h1,h2,h3,(ho.block b (Array.getElem?_eq_some_iff.1 h4).1 (fun hs=>?_)).trans h4,h5⟩
 rcases hS b hs with h | ⟨cur',T,hc,hT⟩
 ·omega
 ·rw [h4] at hc
  simp at hc
  exact hT hc.2.symm
theorem EkSy.below {w w':World} {M:Nat} {es:List Ek} (h:EkSy w M es) (hb:Below w.heap.size w w'):EkSy w' M es:=h.only (Only.ofBelow (S:=fun _=>False) hb nl) (by simp)
theorem EkSy.ins {w:World} {M:Nat} {es:List Ek} (h:EkSy w M es) {e:Ek} (he:e ∈ es) (hr:∀ z ∈ e.p.sy,-9223372036854775808≤z∧z≤9223372036854775807):Ins w e.a e.p.sy:=by
 obtain ⟨b,cur,h1,h2,h3,h4,h5⟩:=h e he
 refine ⟨hr,fun _=>⟨b,0,h1,(Array.getElem?_eq_some_iff.1 h4).1,fun i hi=>?_⟩⟩
 rw [Nat.zero_add]
 exact cell_blk h4 (h5 i hi)
theorem ek_made (w:World) {e:Ek} {u:Nat} {ea:Option Addr} {el ec:Nat} (h:Ekc e u ea el ec):OVk (w.alloc (Obj.cells #[.int .i64 u,.slice ea el ec] 190)) w.heap.size (.slice (some ⟨w.heap.size,0,none⟩) 1 1) [e]:=by
 obtain ⟨rfl,rfl,rfl,rfl⟩:=h
 exact ⟨rfl,.inr ⟨w.heap.size,1,_,rfl,Nat.le_refl _,heap_alloc_new w _,Nat.le_refl _,by decide,rfl,rfl⟩⟩
theorem OVk.take {w:World} {B:Nat} {a:Option Addr} {n c:Nat} {es:List Ek} (h:OVk w B (.slice a n c) es) (k:Nat) (hk:k≤es.length):OVk w B (.slice a k c) (es.take k):=by
 have hl:(es.take k).length=k:=by rw [List.length_take];omega
 rcases h.2 with ⟨e,h1⟩ | ⟨g,cap,cur,e,hg,hh,h4,h5,h6,h7⟩
 ·simp only [Value.slice.injEq] at e
  obtain ⟨rfl,-,rfl⟩:=e
  have hk0:k=0:=by omega
  subst hk0
  exact ⟨by rw [List.take_zero];rfl,.inl ⟨rfl,by rw [List.take_zero];rfl⟩⟩
 ·simp only [Value.slice.injEq] at e
  obtain ⟨rfl,-,rfl⟩:=e
  refine ⟨ek_flen _,.inr ⟨g,c,cur,by rw [hl],hg,hh,by rw [hl];omega,h5,h6,?_⟩⟩
  rw [hl]
  have e1:es.flatMap Ek.cells=(es.take k).flatMap Ek.cells++(es.drop k).flatMap Ek.cells:=by rw [←List.flatMap_append,List.take_append_drop]
  have e2:cur.toList.take (k*2)=(cur.toList.take (es.length*2)).take (k*2):=by rw [List.take_take,Nat.min_eq_left (by omega)]
  rw [e2,h7,e1]
  have e3:((es.take k).flatMap Ek.cells).length=k*2:=by rw [ek_flen,hl]
  rw [←e3,List.take_left]
theorem Eks.drop {w:World} {a:Option Addr} {c:Nat} {es:List Ek} (h:Eks w a es) (k:Nat) (hk:k≤es.length) (hc:es.length≤c):Eks w (if c=k then a else a.map (·.add (k*2))) (es.drop k):=fun h0=>by
 rw [List.length_drop] at h0
 obtain ⟨b,o,rfl,hl,hcl⟩:=h (by omega)
 rw [if_neg (by omega)]
 refine ⟨b,o+k*2,by cases k <;> simp [Addr.add],hl,fun i hi=>?_⟩
 rw [List.length_drop] at hi
 have h1:=hcl (k+i) (by omega)
 have e:(es.drop k).getD i dek=es.getD (k+i) dek:=by simp [List.getD_eq_getElem?_getD]
 rw [e,show o+k*2+i*2=o+(k+i)*2 by omega]
 exact h1
structure CoI (w W:World) (N n:Nat) (zs:List Int) (v:Value) (es:List Ek):Prop where
 row:OVk W (N+1) v es
 sy:EkSy W N es
 out:OwI W N N n (List.replicate zs.length 0)
 bel:Below N w W
theorem CoI.drewN {w W:World} {N n:Nat} {zs:List Int} {v:Value} {es:List Ek} (h:CoI w W N n zs v es) (q:Nat):CoI w (W.drewN q) N n zs v es:=⟨h.row,h.sy,h.out,⟨h.bel.os,h.bel.tape,h.bel.output,h.bel.size,h.bel.block⟩⟩
theorem CoI.more {w V w1 w2:World} {N n D k i z cc:Nat} {zs:List Int} {ca:Option Addr} {v2:Value} {es:List Ek} {o:Obj} (h:CoI w V N n zs (.slice ca D cc) es) (hk:k≤es.length)
  (hg1:((V.alloc (Obj.cells #[.int .i64 i] 3)).alloc o).grownBy w1 (some (V.heap.size+1)))
  (hv2:OVk w2 (N+1) v2 (es.take k++([⟨.coin i z,some ⟨V.heap.size,0,none⟩,1⟩]++es.drop k))) (hg2:w1.grownBy w2 (Value.slice ca k cc).ownBlock) :
  CoI w w2 N n zs v2 (es.take k++([⟨.coin i z,some ⟨V.heap.size,0,none⟩,1⟩]++es.drop k)):=by
 have hN:=h.out.lt.2
 have hb2:Below V.heap.size V ((V.alloc (Obj.cells #[.int .i64 i] 3)).alloc o):=((Below.refl _ _).alloc nl _).alloc (by simp) _
 have hb3:Below V.heap.size V w1:=hb2.grown hg1 (by simp;omega) (fun j hj=>by cases hj;omega)
 have hon:Only (fun b=>(Value.slice ca k cc).ownBlock=some b) V w2:=(Only.ofBelow (S:=fun b=>(Value.slice ca k cc).ownBlock=some b) hb3 nl).grown hg2 (fun b hb=>.inl hb)
 have hcb:∀ b,(Value.slice ca k cc).ownBlock=some b→N<b∧∃ cur,V.heap[b]?=some (.cells cur 190 (0,0)):=fun b hb=>by
  have hb':(Value.slice ca D cc).ownBlock=some b:=by
   cases ca with
   | none=>simp [Value.ownBlock] at hb
   | some x=>exact hb
  exact ⟨(World.ownsRow.lt h.row b hb').1,h.row.tag hb'⟩
 have hsy:EkSy w2 N es:=h.sy.only hon (fun b hb=>by
  obtain ⟨_,cur,hc⟩:=hcb b hb
  exact .inr ⟨cur,_,hc,by decide⟩)
 have hnew:(V.alloc (Obj.cells #[.int .i64 i] 3)).heap[V.heap.size]?=some (.cells #[.int .i64 i] 3 (0,0)):=heap_alloc_new V _
 have hnew2:((V.alloc (Obj.cells #[.int .i64 i] 3)).alloc o).heap[V.heap.size]?=some (.cells #[.int .i64 i] 3 (0,0)):=(Below.heap_alloc _ _ _ (by simp)).trans hnew
 have hnew3:w1.heap[V.heap.size]?=some (.cells #[.int .i64 i] 3 (0,0)):=(hg1.block _ (by simp;omega) (by simp)).trans hnew2
 have hnew4:w2.heap[V.heap.size]?=some (.cells #[.int .i64 i] 3 (0,0)):=(hg2.block _ (Array.getElem?_eq_some_iff.1 hnew3).1 (fun e=>by
  obtain ⟨_,cur,hc⟩:=hcb _ e.symm
  have:=(Array.getElem?_eq_some_iff.1 hc).1
  omega)).trans hnew3
 refine ⟨hv2,fun e he=>?_,?_,h.bel.trans (hon.below (Nat.le_of_lt hN) (fun b hb=>by have:=(hcb b hb).1;omega))⟩
 ·rcases List.mem_append.1 he with he | he
  ·exact hsy e (List.mem_of_mem_take he)
  ·rcases List.mem_append.1 he with he | he
   ·simp only [List.mem_singleton] at he
    subst he
    refine ⟨V.heap.size,_,rfl,hN,by simp [Pc.sy],hnew4,fun j hj=>?_⟩
    have hj0:j=0:=by simpa [Pc.sy] using hj
    subst hj0
    rfl
   ·exact hsy e (List.mem_of_mem_drop he)
 ·exact h.out.only hon (fun hb=>by have:=(hcb N hb).1;omega)
theorem insP_split (p:Pc):∀ (l:List Pc) (k:Nat),k≤l.length→(∀ j,j<k→(l.getD j dpc).wt≤p.wt)→(k<l.length→¬(l.getD k dpc).wt≤p.wt)→insP p l=l.take k++([p]++l.drop k)
 | [],k,hk,_,_=>by simp at hk;subst hk;rfl
 | q :: l,0,_,_,h2=>by
  have:=h2 (by simp)
  simp only [insP]
  rw [if_neg (by simpa using this)]
  rfl
 | q :: l,k+1,hk,h1,h2=>by
  have h0:=h1 0 (by omega)
  simp only [insP]
  rw [if_pos (by simpa using h0),insP_split p l k (by simpa using hk) (fun j hj=>by simpa using h1 (j+1) (by omega)) (fun h=>by simpa using h2 (by simpa using h))]
  rfl
theorem ek_mapD (es:List Ek) (i:Nat):(es.map Ek.p).getD i dpc=(es.getD i dek).p:=by
 simp only [List.getD_eq_getElem?_getD,List.getElem?_map]
 cases es[i]? <;> rfl
theorem srt_step {zs:List Int} {es:List Ek} {i k z:Nat} {a:Option Addr} {c:Nat} (hm:es.map Ek.p=srt zs i) (hz:zs.getD i 0=(z:Int)) (hz0:0<z) (hk:k≤es.length) (h1:∀ j,j<k→(es.getD j dek).p.wt≤z) (h2:k<es.length→¬(es.getD k dek).p.wt≤z) :
  (es.take k++([(⟨.coin i z,a,c⟩:Ek)]++es.drop k)).map Ek.p=srt zs (i+1):=by
 simp only [srt]
 rw [if_pos (by omega),←hm]
 have e:(zs.getD i 0).toNat=z:=by omega
 rw [e,insP_split (.coin i z) (es.map Ek.p) k (by simpa using hk) (fun j hj=>by rw [ek_mapD];exact h1 j hj) (fun h=>by rw [ek_mapD];exact h2 (by simpa using h))]
 simp [List.map_take,List.map_drop]
theorem wanted_ek {P:Program} {ops:Array Oper} {o:Oper} {a:Act} {w:World} {K:Act→World→Prop} {Q:Exit→Act→World→Prop} {E:Prop} (hg:o.guard=none) (h:Oper.wp P o a w K Q) :
  if Region.wanted o (yielded ops a.tmps)=true then Oper.wp P o a w K Q else E:=by
 rw [if_pos (by simp [Region.wanted,hg])]
 exact h
theorem ek_slA {i1:TypeInfo} (hi:Tryz.prog.info? 190=some i1) (hs:i1.size=2) (ca:Option Addr) (D cc k:Nat) (hk:k≤cc):∀ W,(Instr.slice 188 (.slice ca D cc) none (some (.int .i64 (k:Int))) none).run Tryz.prog W=.ok (.slice ca k cc) W:=by
 intro W
 rw [run_slice_h W 188 _ _ _ (by simp [Program.elem,Tryz.underlying188]) .i64 _ (by omega) (by omega)]
 cases ca <;> simp [Program.elem,Tryz.underlying188,Go.sizeOf,typeInfo,hi,hs,Result.andThen,sliced,Addr.add]
theorem ek_slB {i1:TypeInfo} (hi:Tryz.prog.info? 190=some i1) (hs:i1.size=2) (ca:Option Addr) (D cc k:Nat) (hk:k≤D):∀ W,(Instr.slice 188 (.slice ca D cc) (some (.int .i64 (k:Int))) none none).run Tryz.prog W=.ok (.slice (if cc=k then ca else ca.map (·.add (k*2))) (D-k) (cc-k)) W:=by
 intro W
 rw [run_slice_l W 188 _ _ _ (by simp [Program.elem,Tryz.underlying188]) .i64 _ (by omega) (by omega)]
 simp [Program.elem,Tryz.underlying188,Go.sizeOf,typeInfo,hi,hs,Result.andThen,sliced]
theorem lensV_one {zs:List Int} {L s k:Nat} (h:(coinsS zs).length=1) (hp:(coinsS zs).getD 0 dpc=.coin s k) (hs:s<zs.length):lensV zs L=(List.replicate zs.length (0:Int)).set s 1:=by
 unfold lensV
 rw [if_pos h,hp]
 show bump _ _=_
 unfold bump
 have e:(List.replicate zs.length (0:Int)).getD (s:Int).toNat 0=0:=by
  simp only [Int.toNat_natCast,List.getD_eq_getElem?_getD,List.getElem?_replicate]
  split <;> rfl
 rw [e]
 simp
structure RoI (w W:World) (N n:Nat) (zs:List Int) (ca:Option Addr) (es:List Ek) (pa:Option Addr) (ks:List Ek):Prop where
 coins:Eks W ca es
 sye:EkSy W N es
 packs:Eks W pa ks
 syk:EkSy W N ks
 out:OwI W N N n (List.replicate zs.length 0)
 bel:Below N w W
theorem RoI.below {w W W':World} {N n:Nat} {zs:List Int} {ca pa:Option Addr} {es ks:List Ek} (h:RoI w W N n zs ca es pa ks) (hb:Below W.heap.size W W'):RoI w W' N n zs ca es pa ks:=⟨h.coins.below hb,h.sye.below hb,h.packs.below hb,h.syk.below hb,h.out.below hb nl,h.bel.trans (hb.mono (Nat.le_of_lt h.out.lt.2))⟩
theorem cntP_fold (p:Pc):∀ zs:List Int,cntP p zs=p.sy.foldl bump zs:=by
 induction p with
 | coin s c=>intro zs;rfl
 | pack a b n iha ihb=>intro zs;rw [cntP,iha,ihb,Pc.sy,List.foldl_append]
theorem sy_rng {n:Nat} (p:Pc):p.ok n→∀ z ∈ p.sy,0≤z∧z<n:=by
 induction p with
 | coin s c=>intro h z hz;simp [Pc.sy] at hz;have:=h.1;omega
 | pack a b m iha ihb=>
  intro h z hz
  rcases List.mem_append.1 hz with hz | hz
  ·exact iha h.1 z hz
  ·exact ihb h.2 z hz
theorem foldB_len (l:List Int):∀ zs:List Int,(l.foldl bump zs).length=zs.length:=by
 induction l with
 | nil=>intro zs;rfl
 | cons z l ih=>intro zs;rw [List.foldl_cons,ih,bump_len]
theorem foldB_rng (l:List Int):∀ (zs:List Int) (M:Int),0≤M→(∀ z ∈ zs,0≤z∧z≤M)→∀ z ∈ l.foldl bump zs,0≤z∧z≤M+l.length:=by
 induction l with
 | nil=>intro zs M h0 h z hz;have:=h z hz;simp;omega
 | cons y l ih=>
  intro zs M h0 h z hz
  have:=ih (bump zs y) (M+1) (by omega) (bump_rng h h0) z hz
  simp only [List.length_cons]
  omega
theorem foldB_step (l:List Int) (zs:List Int) (k:Nat) (hk:k<l.length):(l.take (k+1)).foldl bump zs=bump ((l.take k).foldl bump zs) (l.getD k 0):=by
 rw [List.take_succ_eq_append_getElem hk,List.foldl_append]
 simp [List.getD_eq_getElem?_getD,hk]
theorem bump_at {cs:List Int} {s:Nat} {x:Int} (h:cs.getD s 0=x):bump cs (s:Int)=cs.set s (x+1):=by
 unfold bump
 rw [Int.toNat_natCast,h]
theorem sz_pos (p:Pc):1≤p.sz:=by
 induction p with
 | coin s c=>exact Nat.le_refl _
 | pack a b n iha ihb=>simp only [Pc.sz];omega
theorem wp_append_iv {o:Oper} {act:Act} {w:World} {K:Act→World→Prop} {Q:Exit→Act→World→Prop} (s x:Operand) (ho:o.op=.call { callee:=.builtin .append,args:=#[s,x],argTypes:=#[38,38] })
  {B:Nat} {v:Value} {zs ys:List Int} {a:Option Addr} {c n:Nat} (hs:act.eval s=v) (hx:act.eval x=.slice a n c) (hn:n=ys.length) (h:OVI w B v zs) (hq:Ins w a ys) (h0:1≤ys.length) (hl:zs.length+ys.length≤100000000000) (hB:B≤w.heap.size)
  (hk:∀ v' w',OVI w' B v' (zs++ys)→w.grownBy w' v.ownBlock→K (act.put o.dst v') w'):o.wp Tryz.prog act w K Q:=by
 obtain ⟨i0,hi,hz0,hz1,hz2⟩:=info_parts Tryz.infoI64
 subst hn
 obtain ⟨b,off,rfl,hbl,hc⟩:=hq.2 (by omega)
 obtain ⟨v',w',hr,h2,h3,_,_⟩:=run_append_own_at (P:=Tryz.prog) w B 38 o.type 3 i0 _ 1 8 Tryz.underlying38 hi hz0 hz1 hz2 rfl (by decide) v zs.length (zs.map (Value.int .i64)) h.1 ⟨b,off,none⟩ ys.length c (ys.map (Value.int .i64)) (by simp) (by
  intro j u hu
  simp only [List.getElem?_map,Option.map_eq_some_iff] at hu
  obtain ⟨y,hy,rfl⟩:=hu
  have hj:j<ys.length:=(List.getElem?_eq_some_iff.1 hy).1
  have e:(⟨b,off,none⟩:Addr).add j=⟨b,off+j,none⟩:=by
   cases j with
   | zero=>simp [Addr.add]
   | succ j=>simp [Addr.add]
  simp [e,hc j hj,List.getD_eq_getElem?_getD,hy]) (by
  intro u hu
  obtain ⟨y,_,rfl⟩:=List.mem_map.1 hu
  rfl) (by unfold maxLen;omega) (by omega) hB
 unfold Oper.wp execOp
 simp only [ho,resolve,invoke,builtin,Sem.run_bind,Sem.run_pure,Result.andThen_ok,List.map_toArray,List.map_cons,List.map_nil,hs,hx,hr]
 refine hk v' w' ⟨by rw [List.length_append,List.map_append];exact h2,fun y hy=>?_⟩ h3
 rcases List.mem_append.1 hy with hy | hy
 ·exact h.2 y hy
 ·exact hq.1 y hy
theorem ovi_made (w:World):OVI (w.alloc (Obj.cells #[] 3)) w.heap.size (.slice (some ⟨w.heap.size,0,none⟩) 0 0) []:=
 ⟨⟨rfl,.inr ⟨w.heap.size,0,#[],rfl,Nat.le_refl _,heap_alloc_new w _,Nat.le_refl _,by decide,rfl,rfl⟩⟩,by simp⟩
structure PaI (w5 W:World) (N B:Nat) (v:Value) (es:List Ek):Prop where
 row:OVk W B v es
 sy:EkSy W N es
 bel:Below B w5 W
theorem PaI.more {w5 V w6 w7 w9:World} {N B:Nat} {v v1 v9:Value} {es:List Ek} {E:Ek} {sy1 sy2:List Int} {o:Obj} (h:PaI w5 V N B v es) (hNB:N<B) (hB:B≤w5.heap.size)
  (hg6:(V.alloc (Obj.cells #[] 3)).grownBy w6 (some V.heap.size)) (ho6:OVI w6 V.heap.size v1 sy1) (hg7:w6.grownBy w7 v1.ownBlock) (ho7:OVI w7 V.heap.size (.slice E.a E.p.sy.length E.c) E.p.sy) (hE:1≤E.p.sy.length)
  (h9:OVk w9 B v9 (es++[E])) (hg9:(w7.alloc o).grownBy w9 v.ownBlock):PaI w5 w9 N B v9 (es++[E]):=by
 have hVB:B≤V.heap.size:=Nat.le_trans hB h.bel.size
 have hb1:Below V.heap.size V (V.alloc (Obj.cells #[] 3)):=bAw
 have hb6:Below V.heap.size V w6:=hb1.grown hg6 hb1.size (fun j hj=>by cases hj;exact Nat.le_refl _)
 have hb7:Below V.heap.size V w7:=hb6.grown hg7 hb6.size (fun j hj=>ho6.blk hj)
 have hb8:Below V.heap.size V (w7.alloc o):=hb7.alloc hb7.size _
 have hon:Only (fun b=>v.ownBlock=some b) V w9:=(Only.ofBelow (S:=fun b=>v.ownBlock=some b) hb8 nl).grown hg9 (fun b hb=>.inl hb)
 refine ⟨h9,fun e he=>?_,h.bel.trans (hon.below hVB (fun b hb=>(World.ownsRow.lt h.row b hb).1))⟩
 rcases List.mem_append.1 he with he | he
 ·exact h.sy.only hon (fun b hb=>by
   obtain ⟨cur,hc⟩:=h.row.tag hb
   exact .inr ⟨cur,_,hc,by decide⟩) e he
 ·simp only [List.mem_singleton] at he
  subst he
  rcases ho7.1.2 with ⟨e1,e2⟩ | ⟨g,cap,cur,e1,hg,hh,h4,h5,h6,h7⟩
  ·omega
  ·simp only [Value.slice.injEq] at e1
   obtain ⟨ea,-,ec⟩:=e1
   have hh8:(w7.alloc o).heap[g]?=some (.cells cur 3 (0,0)):=(Below.heap_alloc _ _ _ (Array.getElem?_eq_some_iff.1 hh).1).trans hh
   have hh9:w9.heap[g]?=some (.cells cur 3 (0,0)):=(hg9.block g (Array.getElem?_eq_some_iff.1 hh8).1 (fun e=>by
    have:=(World.ownsRow.lt h.row g e.symm).2
    omega)).trans hh8
   refine ⟨g,cur,ea,by omega,by rw [ec];exact h4,hh9,fun i hi=>?_⟩
   have h8:=congrArg (·[i]?) h7
   simp only [List.getElem?_take,List.getElem?_map,Nat.mul_one] at h8
   rw [if_pos hi] at h8
   rw [←Array.getElem?_toList,h8]
   simp [List.getD_eq_getElem?_getD,List.getElem?_eq_getElem hi]
set_option maxRecDepth 40000 in
theorem l2lens_any (a:Option Addr) (c:Nat) (zs:List Int) (L:Nat) (w:World) (hb:Ins w a zs) (hok:lensOkB zs (L:Int)) :
  Calls Tryz.prog 108 #[.slice a zs.length c,.int .i64 L] w fun e w'=>(∃ g,e=.returned (.slice (some ⟨g,0,none⟩) zs.length zs.length)∧OwI w' w.heap.size g zs.length (lensV zs L))∧Below w.heap.size w w':=by
 obtain ⟨i0,hi,hz0,hz1,hz2⟩:=info_parts Tryz.infoI64
 obtain ⟨hcb,hx1,hx2,hm1,hm2⟩:=hok
 have hcnt:=hcb
 simp only [cntB,decide_eq_true_eq] at hcnt
 obtain ⟨hn1,hn2,hzr⟩:=hcnt
 have hL1:1≤L:=by omega
 have hL2:L≤12:=by omega
 rw [Int.toNat_natCast] at hm2
 obtain ⟨b0,o0,rfl,hb0,hc0⟩:=hb.2 (by omega)
 have HZ:Hid ((∀ z ∈ zs,0≤z∧z≤1000000)∧zs.length≤80∧(coinsS zs).length≤2 ^ L∧1≤(coinsS zs).length):=⟨hzr,hn2,hm2,hm1⟩
 have HC:Hid (∀ i,i<zs.length→w.cell? ⟨b0,o0+i,none⟩=some (.int .i64 (zs.getD i 0))):=hc0
 have HSL:Hid (∀ i,(srt zs i).length≤i):=fun i=>by rw [(srt_perm zs i).length_eq];exact coinsL_len zs i
 have HS0:Hid (∀ i,¬0<zs.getD i 0→srt zs i=srt zs (i+1)):=fun i h=>by simp only [srt];rw [if_neg h]
 clear hcb hx1 hx2 hm1 hm2 hzr hb hc0
 obtain ⟨n,hn⟩:∃ n,n=zs.length:=⟨_,rfl⟩
 have HNZ:Hid (n=zs.length∧True):=⟨hn,trivial⟩
 rw [←hn] at hn1 hn2 ⊢
 clear hn
 obtain ⟨i1,hif,-,hsz1,-⟩:=info_parts Tryz.infoEk
 have HSZ:Hid (Tryz.prog.info? 190=some i1∧i1.size=2):=⟨hif,hsz1⟩
 clear hif hsz1
 go_enter Tryz.func108,Tryz.ntmps108
 go_wp2_with (at_make;refine wpList_make_full _ rfl _ _ 38 rfl w.heap.size 3 i0 (.int .i64 0) 1 Tryz.underlying38 hi hz0 hz1 .i64 .i64 _ _ n rfl rfl rfl rfl (by rw [hz2];omega) (by unfold maxLen;omega) nl ?_;intro w2 hown hgrow)
 have hmade:=lens_made (w0:=w) (w1:=w) (cs:=[]) (la:=none) (m:=0) (lc:=0) HNZ.out.1 (OVV.nil _ _) (Below.refl _ _) hown hgrow
 obtain ⟨N,hN⟩:∃ N,N=w.heap.size:=⟨_,rfl⟩
 rw [←hN] at hmade ⊢
 have H2:Hid (CoI w w2 N n zs (.slice none 0 0) []∧b0<N):=⟨⟨OVk.nil _ _,(by intro e he;cases he),hmade.1,hmade.2.2.1⟩,by omega⟩
 have HNW:Hid (N=w.heap.size∧True):=⟨hN,trivial⟩
 clear hmade hown hgrow hi hz0 hz1 hz2 hN hb0
 go_loopw [7,5] (fun iv cv W=>∃ (i:Nat) (es:List Ek),i≤n∧iv=.int .i64 i∧es.map Ek.p=srt zs i∧CoI w W N n zs cv es) (fun iv _ _=>n-(intOf iv).toNat)
 case atStart=>exact ⟨0,[],Nat.zero_le _,rfl,rfl,H2.out.1⟩
 case round=>
  obtain ⟨i,es,hin,rfl,hmap,hco⟩:=hrel
  have HR:Hid (es.map Ek.p=srt zs i∧CoI w wr N n zs u5 es):=⟨hmap,hco⟩
  obtain ⟨D,hD⟩:∃ D,D=es.length:=⟨_,rfl⟩
  have hDi:D≤80:=by have:=HSL.out i;have e:=congrArg List.length hmap;rw [List.length_map] at e;omega
  obtain ⟨ca,cc,hv5,-,hcc,hca⟩:=hco.row.slice
  rw [←hD] at hv5 hcc
  subst hv5
  have HD:Hid (D=es.length∧D≤cc∧((ca=none∧es=[]∧cc=0)∨∃ g,ca=some ⟨g,0,none⟩)):=⟨hD,hcc,hca⟩
  clear hmap hco hD hcc hca
  by_cases hlt:i<n
  ·have hlt2:(i:Int)<(n:Int):=by omega
   have hbw:b0<wr.heap.size:=by have:=HR.out.2.out.lt.2;have:=H2.out.2;omega
   have hcz:=HR.out.2.bel.cell (p:=⟨b0,o0+i,none⟩) H2.out.2
   rw [HC.out i (by rw [←HNZ.out.1];exact hlt)] at hcz
   have hz0:0≤zs.getD i 0∧zs.getD i 0≤1000000:=HZ.out.1 _ (getD_mem (by rw [←HNZ.out.1];exact hlt))
   obtain ⟨z,hzz⟩:∃ z:Nat,zs.getD i 0=z:=⟨(zs.getD i 0).toNat,by omega⟩
   have HZZ:Hid (zs.getD i 0=(z:Int)∧True):=⟨hzz,trivial⟩
   rw [hzz] at hcz
   clear hz0 hzz
   by_cases hzp:0<z
   ·have hzp2:(0:Int)<(z:Int):=by omega
    go_wp2
    go_loopw [8] (fun kv W=>∃ k q:Nat,k≤D∧kv=.int .i64 k∧(∀ j,j<k→(es.getD j dek).p.wt≤z)∧W=wr.drewN q) (fun kv _=>D-(intOf kv).toNat)
    case atStart=>exact ⟨0,0,Nat.zero_le _,rfl,fun j hj=>by omega,rfl⟩
    case round=>
     obtain ⟨k,q,hk,rfl,hkw,rfl⟩:=hrel
     have HK:Hid (∀ j,j<k→(es.getD j dek).p.wt≤z):=hkw
     clear hkw
     by_cases hkD:k<D
     ·have hkD2:(k:Int)<(D:Int):=by omega
      have dD:decide ((k:Int)<(D:Int))=true:=decide_eq_true hkD2
      obtain ⟨a',c',e',hek,-,-⟩:=HR.out.2.row.slice
      simp only [Value.slice.injEq] at e'
      obtain ⟨rfl,-,rfl⟩:=e'
      obtain ⟨b1,o1,u1,ea1,el1,ec1,rfl,hb1,cA1,cB1,hE1⟩:=hek.read (Below.refl _ _) k (by rw [←HD.out.1];exact hkD)
      have HU:Hid (u1=(es.getD k dek).p.wt∧True):=⟨hE1.1,trivial⟩
      clear hek cB1 hE1
      by_cases hw:u1≤z
      ·have hw2:(u1:Int)≤(z:Int):=by omega
       have dw:decide ((u1:Int)≤(z:Int))=true:=decide_eq_true hw2
       have HKK:Hid (∀ j,j<k+1→(es.getD j dek).p.wt≤z):=fun j hj=>by
        rcases Nat.lt_or_ge j k with h | h
        ·exact HK.out j h
        ·rw [show j=k by omega,←HU.out.1];exact hw
       go_wp2
       go_quiet (fail)
       go_wp2
       go_roundw
       case rel=>exact ⟨k+1,_,by omega,by first | rfl | go_num,HKK.out,rfl⟩
       case measure=>simp [intOf];omega
      ·have hw2:¬(u1:Int)≤(z:Int):=by omega
       have dw:decide ((u1:Int)≤(z:Int))=false:=decide_eq_false hw2
       have HST:Hid (k≤es.length∧(∀ j,j<k→(es.getD j dek).p.wt≤z)∧(k<es.length→¬(es.getD k dek).p.wt≤z)):=⟨by rw [←HD.out.1];exact hk,HK.out,fun _=>by rw [←HU.out.1];exact hw⟩
       go_wp2
       go_quiet (fail)
       go_wp2_with fail
       have HV:Hid (CoI w ((wr.drewN q).drewN nq) N n zs (.slice (some (⟨b1,o1,none⟩:Addr)) D cc) es):=(HR.out.2.drewN q).drewN nq
       have hcv:((wr.drewN q).drewN nq).cell? ⟨b0,o0+i,none⟩=some (.int .i64 z):=hcz
       have hbv:b0<((wr.drewN q).drewN nq).heap.size:=hbw
       generalize (wr.drewN q).drewN nq=V at *
       have hsA:=ek_slA HSZ.out.1 HSZ.out.2 (some (⟨b1,o1,none⟩:Addr)) D cc k (by have:=HD.out.2.1;omega)
       have hsB:=ek_slB HSZ.out.1 HSZ.out.2 (some (⟨b1,o1,none⟩:Addr)) D cc k hk
       obtain ⟨cb,hcb⟩:∃ x,x=(if cc=k then (some (⟨b1,o1,none⟩:Addr)) else ((some (⟨b1,o1,none⟩:Addr))).map (·.add (k*2))):=⟨_,rfl⟩
       rw [←hcb] at hsB
       obtain ⟨E,hE⟩:∃ E:Ek,E=⟨.coin i z,some ⟨V.heap.size,0,none⟩,1⟩:=⟨_,rfl⟩
       have hEc:Ekc E z (some ⟨V.heap.size,0,none⟩) 1 1:=by rw [hE];exact ⟨rfl,rfl,rfl,rfl⟩
       obtain ⟨a9,c9,e9,hek9,hcap9,-⟩:=HV.out.row.slice
       have hb12:Below V.heap.size V ((V.alloc (Obj.cells #[.int .i64 i] 3)).alloc (Obj.cells #[.int .i64 z,.slice (some ⟨V.heap.size,0,none⟩) 1 1] 190)):=((Below.refl _ _).alloc nl _).alloc (by simp) _
       have HE1:Hid (E=⟨.coin i z,some ⟨V.heap.size,0,none⟩,1⟩∧OVk ((V.alloc (Obj.cells #[.int .i64 i] 3)).alloc (Obj.cells #[.int .i64 z,.slice (some ⟨V.heap.size,0,none⟩) 1 1] 190)).drew (V.heap.size+1) (.slice (some ⟨V.heap.size+1,0,none⟩) 1 1) [E]∧Eks ((V.alloc (Obj.cells #[.int .i64 i] 3)).alloc (Obj.cells #[.int .i64 z,.slice (some ⟨V.heap.size,0,none⟩) 1 1] 190)).drew cb (es.drop k)∧Below V.heap.size V ((V.alloc (Obj.cells #[.int .i64 i] 3)).alloc (Obj.cells #[.int .i64 z,.slice (some ⟨V.heap.size,0,none⟩) 1 1] 190)).drew∧D-k=(es.drop k).length):=by
        refine ⟨hE,?_,?_,hb12.drew,by rw [List.length_drop,HD.out.1]⟩
        ·have:=ek_made (V.alloc (Obj.cells #[.int .i64 i] 3)) hEc
         rw [World.size_alloc] at this
         exact this
        ·simp only [Value.slice.injEq] at e9
         rw [hcb]
         rw [e9.1]
         exact ((hek9.drop k (by rw [←HD.out.1];exact hk) (by rw [←HD.out.1];exact HD.out.2.1)).below hb12).below ((Below.refl _ _).drew)
       clear hcb hE hEc e9 hek9 hcap9 hb12 hcz hbw
       refine wp_region_cut (S:=fun W=>W.cell? ⟨b0,o0+i,none⟩=some (.int .i64 z)) 16 (by kernel_rfl) (by kernel_rfl) (by exact hcv) (fun hHeld=>?_)
       refine tk 0 (v:=?_) ?_ ?_
       rotate_left
       ·(intro w hSw;(try dsimp only at hSw);go_simp;try (with_reducible rfl))
       try simp only [tkS]
       refine tk 1 (v:=?_) ?_ ?_
       rotate_left
       ·(intro w hSw;(try dsimp only at hSw);go_simp;try (with_reducible rfl))
       try simp only [tkS]
       refine tk 2 (v:=?_) ?_ ?_
       rotate_left
       ·(intro w hSw;(try dsimp only at hSw);go_simp;try (with_reducible rfl))
       try simp only [tkS]
       refine tk 3 (v:=?_) ?_ ?_
       rotate_left
       ·(intro w hSw;(try dsimp only at hSw);go_simp;try (with_reducible rfl))
       try simp only [tkS]
       refine tk 4 (v:=?_) ?_ ?_
       rotate_left
       ·(intro w hSw;(try dsimp only at hSw);go_simp;try (with_reducible rfl))
       try simp only [tkS]
       refine tk 5 (v:=?_) ?_ ?_
       rotate_left
       ·(intro w hSw;(try dsimp only at hSw);go_simp;try (with_reducible rfl))
       try simp only [tkS]
       refine tk 6 (v:=?_) ?_ ?_
       rotate_left
       ·(intro w hSw;(try dsimp only at hSw);go_simp;try (with_reducible rfl))
       try simp only [tkS]
       refine tk 7 (v:=?_) ?_ ?_
       rotate_left
       ·(intro w hSw;(try dsimp only at hSw);go_simp;try (with_reducible rfl))
       try simp only [tkS]
       refine tk 11 (v:=?_) ?_ ?_
       rotate_left
       ·(intro w hSw;(try dsimp only at hSw);go_simp;try (with_reducible rfl))
       try simp only [tkS]
       refine tk 12 (v:=?_) ?_ ?_
       rotate_left
       ·(intro w hSw;(try dsimp only at hSw);go_simp;try (with_reducible rfl))
       try simp only [tkS]
       refine tk 13 (v:=?_) ?_ ?_
       rotate_left
       ·(intro w hSw;(try dsimp only at hSw);go_simp;try (with_reducible rfl))
       try simp only [tkS]
       refine wpAnyH_ready (rs:=[8]) (by kernel_rfl) (by simp) ?_
       refine AllReadyH.cons rfl (fun K hK=>?_) AllReadyH.nil
       go_simp
       refine hK.out _ _ (by exact keepA _ hbv hcv) (fun hHeld=>?_)
       clear hK K
       try simp only [tkS]
       refine tk 9 (v:=?_) ?_ ?_
       rotate_left
       ·(intro w hSw;(try dsimp only at hSw);go_simp;try (with_reducible rfl))
       try simp only [tkS]
       refine wpAnyH_ready (rs:=[10]) (by kernel_rfl) (by simp) ?_
       refine AllReadyH.cons rfl (fun K hK=>?_) AllReadyH.nil
       go_simp
       refine hK.out _ _ (by exact keep HE1.out.2.2.2.1 hbv hcv) (fun hHeld=>?_)
       clear hK K
       try simp only [tkS]
       refine wpAnyH_ready (rs:=[14]) (by kernel_rfl) (by simp) ?_
       refine AllReadyH.cons rfl (fun K hK=>?_) AllReadyH.nil
       refine wanted_ek rfl (wp_append_ek (v:=.slice (some ⟨V.heap.size+1,0,none⟩) 1 1) (es:=[E]) (fs:=es.drop k) (a:=cb) (c:=cc-k) (.tmp 57) (.tmp 60) rfl (by simp [Act.eval]) (by simp [Act.eval]) HE1.out.2.2.2.2 HE1.out.2.1 HE1.out.2.2.1 (by have:=HE1.out.2.2.2.2;simp only [List.length_cons,List.length_nil];omega) (by simp) ?_)
       intro v1 w3 hov1 hg1 hat1
       have hg1':((V.alloc (Obj.cells #[.int .i64 i] 3)).alloc (Obj.cells #[.int .i64 z,.slice (some ⟨V.heap.size,0,none⟩) 1 1] 190)).grownBy w3 (some (V.heap.size+1)):=⟨hg1.os,hg1.tape,hg1.output,hg1.size,hg1.block⟩
       have hb13:Below V.heap.size V w3:=HE1.out.2.2.2.1.grown hg1 (by simp;omega) (fun j hj=>by simp [Value.ownBlock] at hj;omega)
       obtain ⟨a1,c1,rfl,hek1,-,-⟩:=hov1.slice
       have hrow3:OVk w3 (N+1) (.slice (some (⟨b1,o1,none⟩:Addr)) k cc) (es.take k):=(HV.out.row.take k (by rw [←HD.out.1];exact hk)).below hb13
       have H3:Hid (((V.alloc (Obj.cells #[.int .i64 i] 3)).alloc (Obj.cells #[.int .i64 z,.slice (some ⟨V.heap.size,0,none⟩) 1 1] 190)).grownBy w3 (some (V.heap.size+1))∧Below V.heap.size V w3∧Eks w3 a1 ([E]++es.drop k)∧OVk w3 (N+1) (.slice (some (⟨b1,o1,none⟩:Addr)) k cc) (es.take k)∧N+1≤w3.heap.size):=⟨hg1',hb13,hek1,hrow3,by have:=HV.out.out.lt.2;have:=hb13.size;omega⟩
       obtain ⟨n1,hn1'⟩:∃ n1,n1=([E]++es.drop k).length:=⟨_,rfl⟩
       have HN1:Hid (n1=([E]++es.drop k).length∧(es.take k).length+n1≤100000):=⟨hn1',by rw [hn1',List.length_append,List.length_take,List.length_drop];have:=HD.out.1;simp only [List.length_cons,List.length_nil];omega⟩
       rw [←hn1']
       refine hK.out _ _ (by exact keep hb13 hbv hcv) (fun hHeld=>?_)
       clear hK K hov1 hg1 hat1 hg1' hb13 hek1 hrow3 hn1'
       try simp only [tkS]
       refine wpAnyH_ready (rs:=[15]) (by kernel_rfl) (by simp) ?_
       refine AllReadyH.cons rfl (fun K hK=>?_) AllReadyH.nil
       refine wanted_ek rfl (wp_append_ek (v:=.slice (some (⟨b1,o1,none⟩:Addr)) k cc) (es:=es.take k) (fs:=[E]++es.drop k) (a:=a1) (c:=c1) (.tmp 49) (.tmp 61) rfl (by simp [Act.eval]) (by simp [Act.eval]) HN1.out.1 H3.out.2.2.2.1 H3.out.2.2.1 (by rw [←HN1.out.1];exact HN1.out.2) H3.out.2.2.2.2 ?_)
       intro v2 w4 hov2 hg2 hat2
       have HFIN:Hid (CoI w w4 N n zs v2 (es.take k++([E]++es.drop k))∧(es.take k++([E]++es.drop k)).map Ek.p=srt zs (i+1)∧w4.cell? ⟨b0,o0+i,none⟩=some (.int .i64 z)):=by
        have h1:=HE1.out.1
        subst h1
        exact ⟨CoI.more HV.out HST.out.1 H3.out.1 hov2 hg2,srt_step HR.out.1 HZZ.out.1 hzp HST.out.1 HST.out.2.1 HST.out.2.2,by
         have h2:=HC.out i (by rw [←HNZ.out.1];exact hlt)
         have h3:=(CoI.more HV.out HST.out.1 H3.out.1 hov2 hg2).bel.cell (p:=⟨b0,o0+i,none⟩) H2.out.2
         rw [h2,HZZ.out.1] at h3
         exact h3⟩
       refine hK.out _ _ (by exact HFIN.out.2.2) (fun hHeld=>?_)
       clear hK K hov2 hg2 hat2 hHeld
       try simp only [tkS]
       refine wpAnyH_done (by kernel_rfl) ?_ _
       simp only [cutQ,List.drop_succ_cons,List.drop_zero]
       go_wp2
       go_roundw
       case rel=>exact ⟨i+1,_,by omega,by first | rfl | go_num,HFIN.out.2.1,HFIN.out.1⟩
       case measure=>simp [intOf];omega
     ·have hkD2:¬(k:Int)<(D:Int):=by omega
      have dD:decide ((k:Int)<(D:Int))=false:=decide_eq_false hkD2
      have HST:Hid (k≤es.length∧(∀ j,j<k→(es.getD j dek).p.wt≤z)∧(k<es.length→¬(es.getD k dek).p.wt≤z)):=⟨by rw [←HD.out.1];exact hk,HK.out,fun h=>by rw [←HD.out.1] at h;omega⟩
      go_wp2
      go_quiet (fail)
      go_wp2_with fail
      have HV:Hid (CoI w ((wr.drewN q).drewN nq) N n zs (.slice ca D cc) es):=(HR.out.2.drewN q).drewN nq
      have hcv:((wr.drewN q).drewN nq).cell? ⟨b0,o0+i,none⟩=some (.int .i64 z):=hcz
      have hbv:b0<((wr.drewN q).drewN nq).heap.size:=hbw
      generalize (wr.drewN q).drewN nq=V at *
      have hsA:=ek_slA HSZ.out.1 HSZ.out.2 ca D cc k (by have:=HD.out.2.1;omega)
      have hsB:=ek_slB HSZ.out.1 HSZ.out.2 ca D cc k hk
      obtain ⟨cb,hcb⟩:∃ x,x=(if cc=k then ca else (ca).map (·.add (k*2))):=⟨_,rfl⟩
      rw [←hcb] at hsB
      obtain ⟨E,hE⟩:∃ E:Ek,E=⟨.coin i z,some ⟨V.heap.size,0,none⟩,1⟩:=⟨_,rfl⟩
      have hEc:Ekc E z (some ⟨V.heap.size,0,none⟩) 1 1:=by rw [hE];exact ⟨rfl,rfl,rfl,rfl⟩
      obtain ⟨a9,c9,e9,hek9,hcap9,-⟩:=HV.out.row.slice
      have hb12:Below V.heap.size V ((V.alloc (Obj.cells #[.int .i64 i] 3)).alloc (Obj.cells #[.int .i64 z,.slice (some ⟨V.heap.size,0,none⟩) 1 1] 190)):=((Below.refl _ _).alloc nl _).alloc (by simp) _
      have HE1:Hid (E=⟨.coin i z,some ⟨V.heap.size,0,none⟩,1⟩∧OVk ((V.alloc (Obj.cells #[.int .i64 i] 3)).alloc (Obj.cells #[.int .i64 z,.slice (some ⟨V.heap.size,0,none⟩) 1 1] 190)).drew (V.heap.size+1) (.slice (some ⟨V.heap.size+1,0,none⟩) 1 1) [E]∧Eks ((V.alloc (Obj.cells #[.int .i64 i] 3)).alloc (Obj.cells #[.int .i64 z,.slice (some ⟨V.heap.size,0,none⟩) 1 1] 190)).drew cb (es.drop k)∧Below V.heap.size V ((V.alloc (Obj.cells #[.int .i64 i] 3)).alloc (Obj.cells #[.int .i64 z,.slice (some ⟨V.heap.size,0,none⟩) 1 1] 190)).drew∧D-k=(es.drop k).length):=by
       refine ⟨hE,?_,?_,hb12.drew,by rw [List.length_drop,HD.out.1]⟩
       ·have:=ek_made (V.alloc (Obj.cells #[.int .i64 i] 3)) hEc
        rw [World.size_alloc] at this
        exact this
       ·simp only [Value.slice.injEq] at e9
        rw [hcb]
        rw [e9.1]
        exact ((hek9.drop k (by rw [←HD.out.1];exact hk) (by rw [←HD.out.1];exact HD.out.2.1)).below hb12).below ((Below.refl _ _).drew)
      clear hcb hE hEc e9 hek9 hcap9 hb12 hcz hbw
      refine wp_region_cut (S:=fun W=>W.cell? ⟨b0,o0+i,none⟩=some (.int .i64 z)) 16 (by kernel_rfl) (by kernel_rfl) (by exact hcv) (fun hHeld=>?_)
      refine tk 0 (v:=?_) ?_ ?_
      rotate_left
      ·(intro w hSw;(try dsimp only at hSw);go_simp;try (with_reducible rfl))
      try simp only [tkS]
      refine tk 1 (v:=?_) ?_ ?_
      rotate_left
      ·(intro w hSw;(try dsimp only at hSw);go_simp;try (with_reducible rfl))
      try simp only [tkS]
      refine tk 2 (v:=?_) ?_ ?_
      rotate_left
      ·(intro w hSw;(try dsimp only at hSw);go_simp;try (with_reducible rfl))
      try simp only [tkS]
      refine tk 3 (v:=?_) ?_ ?_
      rotate_left
      ·(intro w hSw;(try dsimp only at hSw);go_simp;try (with_reducible rfl))
      try simp only [tkS]
      refine tk 4 (v:=?_) ?_ ?_
      rotate_left
      ·(intro w hSw;(try dsimp only at hSw);go_simp;try (with_reducible rfl))
      try simp only [tkS]
      refine tk 5 (v:=?_) ?_ ?_
      rotate_left
      ·(intro w hSw;(try dsimp only at hSw);go_simp;try (with_reducible rfl))
      try simp only [tkS]
      refine tk 6 (v:=?_) ?_ ?_
      rotate_left
      ·(intro w hSw;(try dsimp only at hSw);go_simp;try (with_reducible rfl))
      try simp only [tkS]
      refine tk 7 (v:=?_) ?_ ?_
      rotate_left
      ·(intro w hSw;(try dsimp only at hSw);go_simp;try (with_reducible rfl))
      try simp only [tkS]
      refine tk 11 (v:=?_) ?_ ?_
      rotate_left
      ·(intro w hSw;(try dsimp only at hSw);go_simp;try (with_reducible rfl))
      try simp only [tkS]
      refine tk 12 (v:=?_) ?_ ?_
      rotate_left
      ·(intro w hSw;(try dsimp only at hSw);go_simp;try (with_reducible rfl))
      try simp only [tkS]
      refine tk 13 (v:=?_) ?_ ?_
      rotate_left
      ·(intro w hSw;(try dsimp only at hSw);go_simp;try (with_reducible rfl))
      try simp only [tkS]
      refine wpAnyH_ready (rs:=[8]) (by kernel_rfl) (by simp) ?_
      refine AllReadyH.cons rfl (fun K hK=>?_) AllReadyH.nil
      go_simp
      refine hK.out _ _ (by exact keepA _ hbv hcv) (fun hHeld=>?_)
      clear hK K
      try simp only [tkS]
      refine tk 9 (v:=?_) ?_ ?_
      rotate_left
      ·(intro w hSw;(try dsimp only at hSw);go_simp;try (with_reducible rfl))
      try simp only [tkS]
      refine wpAnyH_ready (rs:=[10]) (by kernel_rfl) (by simp) ?_
      refine AllReadyH.cons rfl (fun K hK=>?_) AllReadyH.nil
      go_simp
      refine hK.out _ _ (by exact keep HE1.out.2.2.2.1 hbv hcv) (fun hHeld=>?_)
      clear hK K
      try simp only [tkS]
      refine wpAnyH_ready (rs:=[14]) (by kernel_rfl) (by simp) ?_
      refine AllReadyH.cons rfl (fun K hK=>?_) AllReadyH.nil
      refine wanted_ek rfl (wp_append_ek (v:=.slice (some ⟨V.heap.size+1,0,none⟩) 1 1) (es:=[E]) (fs:=es.drop k) (a:=cb) (c:=cc-k) (.tmp 57) (.tmp 60) rfl (by simp [Act.eval]) (by simp [Act.eval]) HE1.out.2.2.2.2 HE1.out.2.1 HE1.out.2.2.1 (by have:=HE1.out.2.2.2.2;simp only [List.length_cons,List.length_nil];omega) (by simp) ?_)
      intro v1 w3 hov1 hg1 hat1
      have hg1':((V.alloc (Obj.cells #[.int .i64 i] 3)).alloc (Obj.cells #[.int .i64 z,.slice (some ⟨V.heap.size,0,none⟩) 1 1] 190)).grownBy w3 (some (V.heap.size+1)):=⟨hg1.os,hg1.tape,hg1.output,hg1.size,hg1.block⟩
      have hb13:Below V.heap.size V w3:=HE1.out.2.2.2.1.grown hg1 (by simp;omega) (fun j hj=>by simp [Value.ownBlock] at hj;omega)
      obtain ⟨a1,c1,rfl,hek1,-,-⟩:=hov1.slice
      have hrow3:OVk w3 (N+1) (.slice ca k cc) (es.take k):=(HV.out.row.take k (by rw [←HD.out.1];exact hk)).below hb13
      have H3:Hid (((V.alloc (Obj.cells #[.int .i64 i] 3)).alloc (Obj.cells #[.int .i64 z,.slice (some ⟨V.heap.size,0,none⟩) 1 1] 190)).grownBy w3 (some (V.heap.size+1))∧Below V.heap.size V w3∧Eks w3 a1 ([E]++es.drop k)∧OVk w3 (N+1) (.slice ca k cc) (es.take k)∧N+1≤w3.heap.size):=⟨hg1',hb13,hek1,hrow3,by have:=HV.out.out.lt.2;have:=hb13.size;omega⟩
      obtain ⟨n1,hn1'⟩:∃ n1,n1=([E]++es.drop k).length:=⟨_,rfl⟩
      have HN1:Hid (n1=([E]++es.drop k).length∧(es.take k).length+n1≤100000):=⟨hn1',by rw [hn1',List.length_append,List.length_take,List.length_drop];have:=HD.out.1;simp only [List.length_cons,List.length_nil];omega⟩
      rw [←hn1']
      refine hK.out _ _ (by exact keep hb13 hbv hcv) (fun hHeld=>?_)
      clear hK K hov1 hg1 hat1 hg1' hb13 hek1 hrow3 hn1'
      try simp only [tkS]
      refine wpAnyH_ready (rs:=[15]) (by kernel_rfl) (by simp) ?_
      refine AllReadyH.cons rfl (fun K hK=>?_) AllReadyH.nil
      refine wanted_ek rfl (wp_append_ek (v:=.slice ca k cc) (es:=es.take k) (fs:=[E]++es.drop k) (a:=a1) (c:=c1) (.tmp 49) (.tmp 61) rfl (by simp [Act.eval]) (by simp [Act.eval]) HN1.out.1 H3.out.2.2.2.1 H3.out.2.2.1 (by rw [←HN1.out.1];exact HN1.out.2) H3.out.2.2.2.2 ?_)
      intro v2 w4 hov2 hg2 hat2
      have HFIN:Hid (CoI w w4 N n zs v2 (es.take k++([E]++es.drop k))∧(es.take k++([E]++es.drop k)).map Ek.p=srt zs (i+1)∧w4.cell? ⟨b0,o0+i,none⟩=some (.int .i64 z)):=by
       have h1:=HE1.out.1
       subst h1
       exact ⟨CoI.more HV.out HST.out.1 H3.out.1 hov2 hg2,srt_step HR.out.1 HZZ.out.1 hzp HST.out.1 HST.out.2.1 HST.out.2.2,by
        have h2:=HC.out i (by rw [←HNZ.out.1];exact hlt)
        have h3:=(CoI.more HV.out HST.out.1 H3.out.1 hov2 hg2).bel.cell (p:=⟨b0,o0+i,none⟩) H2.out.2
        rw [h2,HZZ.out.1] at h3
        exact h3⟩
      refine hK.out _ _ (by exact HFIN.out.2.2) (fun hHeld=>?_)
      clear hK K hov2 hg2 hat2 hHeld
      try simp only [tkS]
      refine wpAnyH_done (by kernel_rfl) ?_ _
      simp only [cutQ,List.drop_succ_cons,List.drop_zero]
      go_wp2
      go_roundw
      case rel=>exact ⟨i+1,_,by omega,by first | rfl | go_num,HFIN.out.2.1,HFIN.out.1⟩
      case measure=>simp [intOf];omega
   ·have hzp2:¬(0:Int)<(z:Int):=by omega
    have HE:Hid (es.map Ek.p=srt zs (i+1)∧True):=⟨by rw [←HS0.out i (by rw [HZZ.out.1];omega)];exact HR.out.1,trivial⟩
    go_wp2
    go_roundw
    case rel=>exact ⟨i+1,es,by omega,by first | rfl | go_num,HE.out.1,HR.out.2⟩
    case measure=>simp [intOf];omega
  ·have hii:i=n:=by omega
   have hlt2:¬(i:Int)<(n:Int):=by omega
   have HM:Hid (es.map Ek.p=coinsS zs∧D=(coinsS zs).length):=by
    have e:es.map Ek.p=coinsS zs:=by rw [HR.out.1,hii,HNZ.out.1];rfl
    exact ⟨e,by rw [←e,List.length_map];exact HD.out.1⟩
   have hD1:1≤D:=by rw [HM.out.2];exact HZ.out.2.2.2
   obtain ⟨g,hg⟩:∃ g,ca=some ⟨g,0,none⟩:=by
    rcases HD.out.2.2 with ⟨_,h,_⟩ | h
    ·have:=HD.out.1;rw [h] at this;simp at this;omega
    ·exact h
   subst hg
   obtain ⟨a',c',e',hek,-,-⟩:=HR.out.2.row.slice
   simp only [Value.slice.injEq] at e'
   obtain ⟨rfl,-,rfl⟩:=e'
   obtain ⟨g',o',e2,hgl,hcl⟩:=hek (by rw [←HD.out.1];exact hD1)
   simp only [Option.some.injEq,Addr.mk.injEq] at e2
   obtain ⟨rfl,rfl,-⟩:=e2
   have HEK:Hid (Eks wr (some ⟨g,0,none⟩) es):=hek
   clear hek hii
   by_cases hone:D=1
   ·have hone2:(D:Int)=1:=by omega
    have hd1:((D:Int) == 1)=true:=by simp [hone2]
    obtain ⟨E,hE⟩:∃ E,E=es.getD 0 dek:=⟨_,rfl⟩
    have hEin:E ∈ es:=by
     rw [hE,List.getD_eq_getElem?_getD,List.getElem?_eq_getElem (by rw [←HD.out.1];omega)]
     exact List.getElem_mem _
    have hpE:E.p=(coinsS zs).getD 0 dpc:=by rw [hE,←ek_mapD,HM.out.1]
    obtain ⟨-,-,hok,s,k,hsk⟩:=coinsS_mem HZ.out.1 E.p (by rw [hpE];exact getD_memP2 (by rw [←HM.out.2];omega))
    obtain ⟨b,cur,hEa,hNb,hcl2,hblk,hcur⟩:=HR.out.2.sy E hEin
    have c1:=(hcl 0 (by rw [←HD.out.1];omega)).2
    rw [←hE,hEa,hsk] at c1
    simp only [Nat.zero_add,Nat.zero_mul] at c1
    have c1':wr.cell? ⟨g,1,none⟩=some (.slice (some ⟨b,0,none⟩) 1 E.c):=c1
    have c2:wr.cell? ⟨b,0,none⟩=some (.int .i64 s):=by
     have:=hcur 0 (by rw [hsk];simp [Pc.sy])
     rw [hsk] at this
     exact cell_blk hblk this
    rw [hsk] at hok
    have hsn:s<zs.length:=hok.1
    have HLV:Hid (lensV zs L=(List.replicate zs.length (0:Int)).set s 1∧True):=⟨lensV_one (by rw [←HM.out.2];exact hone) (by rw [←hpE,hsk]) hsn,trivial⟩
    have hc3:=HR.out.2.out.cell s (by rw [List.length_replicate];exact hsn)
    have hf3:=HR.out.2.out.frozen s
    have HO3:Hid (OwI (wr.setCell ⟨N,s,none⟩ (.int .i64 1)) N N n ((List.replicate zs.length (0:Int)).set s 1)∧Below N w (wr.setCell ⟨N,s,none⟩ (.int .i64 1))):=⟨HR.out.2.out.store s 1 (by omega),HR.out.2.bel.setCell nl _⟩
    have hsn2:(s:Int)<(n:Int):=by have:=HNZ.out.1;omega
    obtain ⟨old,hold⟩:∃ o,(List.replicate zs.length (0:Int)).getD s 0=o:=⟨_,rfl⟩
    rw [hold] at hc3
    clear hE hEin hpE hok hsk hEa hNb hcl2 hblk hcur c1 hsn hold hone hcl
    go_wp2
    go_ret
    exact ⟨⟨_,rfl,by rw [HLV.out.1,←HNW.out.1];exact HO3.out.1⟩,by rw [←HNW.out.1];exact HO3.out.2⟩
   ·have hone2:¬(D:Int)=1:=by omega
    have hd1:((D:Int) == 1)=false:=by simp [hone2]
    have HV:Hid (lensV zs L=cntL ((rnd (coinsS zs) L).take (2*D-2)) (List.replicate zs.length 0)∧2*D-2≤(rnd (coinsS zs) L).length):=by
     refine ⟨?_,by rw [HM.out.2];exact rnd_enough (coinsS zs) L hL1 HZ.out.2.2.1⟩
     unfold lensV
     rw [←HM.out.2,if_neg hone]
    have HR0:Hid (RoI w wr N n zs (some ⟨g,0,none⟩) es none []):=⟨HEK.out,HR.out.2.sy,fun h=>by simp at h,(by intro e he;cases he),HR.out.2.out,HR.out.2.bel⟩
    have HMP0:Hid (([]:List Ek).map Ek.p=pairL (rnd (coinsS zs) 0) ((rnd (coinsS zs) 0).length / 2)∧True):=⟨by simp [rnd,pairL],trivial⟩
    have HI:Hid (∀ r,(rnd (coinsS zs) r).length≤2*D):=fun r=>by rw [HM.out.2];exact (rnd_inv HZ.out.1 HZ.out.2.1 r).2.2
    clear hone hcl HR HEK
    generalize wr=V0 at *
    go_wp2
    go_loopw [10,9] (fun rv pv W=>∃ (r:Nat) (ks:List Ek) (pa:Option Addr) (pc:Nat),r<L∧rv=.int .i64 r∧pv=.slice pa ks.length pc∧ks.map Ek.p=pairL (rnd (coinsS zs) r) ((rnd (coinsS zs) r).length / 2)∧RoI w W N n zs (some ⟨g,0,none⟩) es pa ks) (fun rv _ _=>L-(intOf rv).toNat)
    case atStart=>exact ⟨0,[],none,0,by omega,rfl,rfl,HMP0.out.1,HR0.out⟩
    case round=>
     obtain ⟨r,ks,pa,pc,hr,rfl,rfl,hkm,hro⟩:=hrel
     obtain ⟨K,hK⟩:∃ K,K=ks.length:=⟨_,rfl⟩
     have hKD:K≤D:=by
      have e:=congrArg List.length hkm
      rw [List.length_map,pairL_len,←hK] at e
      have:=HI.out r
      omega
     have HRO:Hid (ks.map Ek.p=pairL (rnd (coinsS zs) r) ((rnd (coinsS zs) r).length / 2)∧RoI w wr N n zs (some ⟨g,0,none⟩) es pa ks∧K=ks.length):=⟨hkm,hro,hK⟩
     have HME:=l2merge_any (some ⟨g,0,none⟩) pa cc pc es ks wr hro.coins hro.packs (by have:=HD.out.1;omega)
     rw [←HD.out.1,←hK] at HME
     rw [←hK]
     have hrL:(r:Int)<(L:Int):=by omega
     clear hkm hro hK
     go_wp2_with fail
     refine HME.mono ?_
     clear HME
     rintro e w5 ⟨v5,rfl,ho5,hb5⟩
     obtain ⟨fa,fc,rfl,hf5,-,-⟩:=ho5.slice
     obtain ⟨fs,hfs⟩:∃ fs,fs=mrgE es ks:=⟨_,rfl⟩
     have hfm:fs.map Ek.p=rnd (coinsS zs) (r+1):=by rw [hfs,mrgE_map,HM.out.1,HRO.out.1];rfl
     rw [←hfs] at hf5 ⊢
     have hr5:=HRO.out.2.1.below hb5
     obtain ⟨F,hF⟩:∃ F,F=fs.length:=⟨_,rfl⟩
     rw [←hF]
     have H5:Hid (Eks w5 fa fs∧EkSy w5 N fs∧RoI w w5 N n zs (some ⟨g,0,none⟩) es pa ks∧fs.map Ek.p=rnd (coinsS zs) (r+1)∧F=fs.length∧N<w5.heap.size∧∀ b o,fa=some ⟨b,o,none⟩→N<b):=⟨hf5,fun e he=>by
      rw [hfs] at he
      rcases mrgE_mem he with he | he
      ·exact hr5.sye e he
      ·exact hr5.syk e he,hr5,hfm,hF,hr5.out.lt.2,fun b o hb=>by
      have h1:=(World.ownsRow.lt ho5 b (by rw [hb];rfl)).1
      have h2:=HRO.out.2.1.out.lt.2
      omega⟩
     have hF2:F≤160:=by
      have e:=congrArg List.length hfm
      rw [List.length_map,←hF] at e
      have:=HI.out (r+1)
      omega
     clear ho5 hb5 hf5 hfs hfm hr5 hF
     by_cases hlast:r+1=L
     ·have hl1:(r:Int)=(L:Int)-1:=by omega
      have hd2:((r:Int) == (L:Int)-1)=true:=by simp [hl1]
      obtain ⟨Q,hQ⟩:∃ Q,Q=2*D-2:=⟨_,rfl⟩
      have hQi:2*(D:Int)-2=(Q:Int):=by omega
      have hfL:fs.map Ek.p=rnd (coinsS zs) L:=by rw [←hlast];exact H5.out.2.2.2.1
      have hQF:Q≤F:=by
       have e:=congrArg List.length hfL
       rw [List.length_map,←H5.out.2.2.2.2.1] at e
       have:=HV.out.2
       omega
      have HQ:Hid (lensV zs L=cntL ((rnd (coinsS zs) L).take Q) (List.replicate zs.length 0)∧Q≤F∧fs.map Ek.p=rnd (coinsS zs) L):=⟨by rw [hQ];exact HV.out.1,hQF,hfL⟩
      clear hQ hfL
      go_wp2
      go_loopw [12] (fun iv W=>∃ i:Nat,i≤Q∧iv=.int .i64 i∧OwI W N N n (cntL ((rnd (coinsS zs) L).take i) (List.replicate zs.length 0))∧Only (fun b=>b=N) w5 W) (fun iv _=>Q-(intOf iv).toNat)
      case atStart=>exact ⟨0,Nat.zero_le _,rfl,H5.out.2.2.1.out,Only.refl _ _⟩
      case round=>
       obtain ⟨i,hi,rfl,hou,hon⟩:=hrel
       have HO:Hid (OwI wr N N n (cntL ((rnd (coinsS zs) L).take i) (List.replicate zs.length 0))∧Only (fun b=>b=N) w5 wr):=⟨hou,hon⟩
       clear hou hon
       by_cases hiQ:i<Q
       ·have hiQ2:(i:Int)<(Q:Int):=by omega
        have hiF:(i:Int)<(F:Int):=by omega
        obtain ⟨bf,of_,uf,ea,el,ec,hfa,hbf,cA,cB,hE⟩:=H5.out.1.read (Below.refl _ _) i (by rw [←H5.out.2.2.2.2.1];omega)
        obtain ⟨E,hEE⟩:∃ E,E=fs.getD i dek:=⟨_,rfl⟩
        have hEin:E ∈ fs:=by
         rw [hEE,List.getD_eq_getElem?_getD,List.getElem?_eq_getElem (by rw [←H5.out.2.2.2.2.1];omega)]
         exact List.getElem_mem _
        have hpE:E.p=(rnd (coinsS zs) L).getD i dpc:=by rw [hEE,←ek_mapD,HQ.out.2.2]
        have hpin:E.p ∈ rnd (coinsS zs) L:=by rw [←HQ.out.2.2];exact List.mem_map_of_mem hEin
        obtain ⟨-,hpo,hps⟩:=fine_of HZ.out.1 HZ.out.2.1 L hL2 E.p hpin
        obtain ⟨b,cur,hEa,hNb,-,hblk,hcur⟩:=H5.out.2.1 E hEin
        rw [←hEE] at hE
        obtain ⟨-,hea,hel,-⟩:=hE
        rw [hea,hEa] at cB
        have hbfN:=H5.out.2.2.2.2.2.2 bf of_ hfa
        subst hfa
        have HB:Hid (w5.cell? ⟨bf,of_+i*2+1,none⟩=some (.slice (some ⟨b,0,none⟩) el ec)∧bf≠N∧b≠N∧bf<w5.heap.size∧b<w5.heap.size∧el=E.p.sy.length∧(∀ k,k<el→w5.cell? ⟨b,k,none⟩=some (.int .i64 (E.p.sy.getD k 0)))):=⟨cB,by omega,by omega,hbf,(Array.getElem?_eq_some_iff.1 hblk).1,hel,fun k hk=>cell_blk hblk (hcur k (by rw [←hel];exact hk))⟩
        have HPP:Hid (E.p.ok zs.length∧E.p.sz≤10000000000∧cntL ((rnd (coinsS zs) L).take (i+1)) (List.replicate zs.length 0)=E.p.sy.foldl bump (cntL ((rnd (coinsS zs) L).take i) (List.replicate zs.length 0))):=⟨hpo,hps,by rw [cntL_step _ _ i (by have e:=congrArg List.length HQ.out.2.2;rw [List.length_map,←H5.out.2.2.2.2.1] at e;omega),←hpE,cntP_fold]⟩
        have hel2:el≤10000000000:=by rw [hel,sy_len];exact hps
        clear cA cB hEE hEin hpE hpin hpo hps hEa hNb hblk hcur hea hel hbfN hbf
        go_wp2
        go_loopw [13] (fun kv W=>∃ k:Nat,k≤el∧kv=.int .i64 k∧OwI W N N n ((E.p.sy.take k).foldl bump (cntL ((rnd (coinsS zs) L).take i) (List.replicate zs.length 0)))∧Only (fun b=>b=N) w5 W) (fun kv _=>el-(intOf kv).toNat)
        case atStart=>exact ⟨0,Nat.zero_le _,rfl,HO.out.1,HO.out.2⟩
        case round=>
         obtain ⟨k,hk,rfl,hou2,hon2⟩:=hrel
         have cBw:=hon2.cell HB.out.2.2.2.1 (fun e=>HB.out.2.1 e) HB.out.1
         have hbfw:bf<wr.heap.size:=by have:=hon2.size;have:=HB.out.2.2.2.1;omega
         by_cases hke:k<el
         ·have hke2:(k:Int)<(el:Int):=by omega
          have hsr:=sy_rng E.p HPP.out.1 _ (getD_mem (show k<E.p.sy.length by rw [←HB.out.2.2.2.2.2.1];exact hke))
          obtain ⟨sN,hsN⟩:∃ s:Nat,E.p.sy.getD k 0=s:=⟨(E.p.sy.getD k 0).toNat,by omega⟩
          have cS:=hon2.cell HB.out.2.2.2.2.1 (fun e=>HB.out.2.2.1 e) (HB.out.2.2.2.2.2.2 k hke)
          rw [hsN] at cS hsr
          have hsn:sN<n:=by have:=HNZ.out.1;omega
          have hsn2:(sN:Int)<(n:Int):=by omega
          have hln:((E.p.sy.take k).foldl bump (cntL ((rnd (coinsS zs) L).take i) (List.replicate zs.length 0))).length=n:=by rw [foldB_len,cntL_len,List.length_replicate];exact HNZ.out.1.symm
          have cx:=hou2.cell sN (by rw [hln];exact hsn)
          have fx:=hou2.frozen sN
          have hxr:=foldB_rng (E.p.sy.take k) _ 2000000000000 (by omega) (cntL_step_rng HZ.out.1 HZ.out.2.1 L hL2 i (by omega)) _ (getD_mem (show sN<_ by rw [hln];exact hsn))
          obtain ⟨x,hx⟩:∃ x,((E.p.sy.take k).foldl bump (cntL ((rnd (coinsS zs) L).take i) (List.replicate zs.length 0))).getD sN 0=x:=⟨_,rfl⟩
          rw [hx] at cx hxr
          have hx0:0≤x:=hxr.1
          have hx1:x≤3000000000000:=by have h:=hxr.2;have:(E.p.sy.take k).length≤10000000000:=(by rw [List.length_take];omega);omega
          have HST:Hid (OwI (wr.setCell ⟨N,sN,none⟩ (.int .i64 (x+1))) N N n ((E.p.sy.take (k+1)).foldl bump (cntL ((rnd (coinsS zs) L).take i) (List.replicate zs.length 0)))∧Only (fun b=>b=N) w5 (wr.setCell ⟨N,sN,none⟩ (.int .i64 (x+1)))):=by
           refine ⟨?_,hon2.setCell (p:=⟨N,sN,none⟩) (.inl rfl) _⟩
           have h:=hou2.store sN (x+1) (by omega)
           rw [foldB_step _ _ k (by rw [←HB.out.2.2.2.2.2.1];exact hke),hsN,bump_at hx]
           exact h
          have hbw:b<wr.heap.size:=by have:=hon2.size;have:=HB.out.2.2.2.2.1;omega
          clear hsr hsN hln hxr hx hou2 hon2
          go_wp2
          go_roundw
          case rel=>exact ⟨k+1,by omega,by first | rfl | go_num,HST.out.1,HST.out.2⟩
          case measure=>simp [intOf];omega
         ·have hke2:¬(k:Int)<(el:Int):=by omega
          have HST:Hid (OwI wr N N n (cntL ((rnd (coinsS zs) L).take (i+1)) (List.replicate zs.length 0))∧Only (fun b=>b=N) w5 wr):=by
           refine ⟨?_,hon2⟩
           rw [HPP.out.2.2]
           rw [show k=el by omega,HB.out.2.2.2.2.2.1,List.take_length] at hou2
           exact hou2
          clear hou2 hon2
          go_wp2
          go_roundw
          case rel=>exact ⟨i+1,by omega,by first | rfl | go_num,HST.out.1,HST.out.2⟩
          case measure=>simp [intOf];omega
       ·have hii:i=Q:=by omega
        have hiQ2:¬(i:Int)<(Q:Int):=by omega
        have HFF:Hid (OwI wr N N n (lensV zs L)∧Below N w wr):=by
         refine ⟨by rw [HQ.out.1,←hii];exact HO.out.1,H5.out.2.2.1.bel.trans (HO.out.2.below (Nat.le_of_lt H5.out.2.2.2.2.2.1) (fun j hj=>by rw [hj];exact Nat.le_refl _))⟩
        clear hii
        go_wp2
        go_ret
        exact ⟨⟨_,rfl,by rw [←HNW.out.1];exact HFF.out.1⟩,by rw [←HNW.out.1];exact HFF.out.2⟩
     ·have hl1:¬(r:Int)=(L:Int)-1:=by omega
      have hd2:((r:Int) == (L:Int)-1)=false:=by simp [hl1]
      obtain ⟨B,hB⟩:∃ B,B=w5.heap.size:=⟨_,rfl⟩
      have HB5:Hid (B=w5.heap.size∧N<B):=⟨hB,by rw [hB];exact H5.out.2.2.2.2.2.1⟩
      have HP0:Hid (PaI w5 w5 N B (.slice none 0 0) []):=⟨OVk.nil _ _,(by intro e he;cases he),Below.refl _ _⟩
      clear hB
      go_wp2
      go_loopw [14,9] (fun iv pv W=>∃ (j:Nat) (ps:List Ek),j≤F / 2∧iv=.int .i64 ((2*j:Nat):Int)∧ps.map Ek.p=pairL (rnd (coinsS zs) (r+1)) j∧PaI w5 W N B pv ps) (fun iv _ _=>F+2-(intOf iv).toNat)
      case atStart=>exact ⟨0,[],by omega,rfl,rfl,HP0.out⟩
      case round=>
       obtain ⟨j,ps,hj,rfl,hpm,hpa⟩:=hrel
       obtain ⟨qa,qc,hv9,hq9,-,-⟩:=hpa.row.slice
       obtain ⟨P,hP⟩:∃ P,P=ps.length:=⟨_,rfl⟩
       have hPj:P=j:=by rw [hP,←List.length_map (f:=Ek.p),hpm,pairL_len]
       rw [←hP] at hv9
       subst hv9
       have HR2:Hid (ps.map Ek.p=pairL (rnd (coinsS zs) (r+1)) j∧PaI w5 wr N B (.slice qa P qc) ps∧P=ps.length∧Below w5.heap.size w5 wr):=⟨hpm,hpa,hP,by have:=hpa.bel;rw [HB5.out.1] at this;exact this⟩
       have HQ9:Hid (Eks wr qa ps):=hq9
       have hP80:P≤80:=by omega
       obtain ⟨i2,hi2⟩:∃ x,x=2*j:=⟨_,rfl⟩
       rw [←hi2]
       have HI2:Hid (i2=2*j∧True):=⟨hi2,trivial⟩
       clear hpm hpa hq9 hP hPj
       by_cases hlt:i2+1<F
       ·obtain ⟨i3,hi3⟩:∃ x,x=i2+1:=⟨_,rfl⟩
        have hi3i:(i2:Int)+1=(i3:Int):=by omega
        have hi3F:(i3:Int)<(F:Int):=by omega
        have hi2F:(i2:Int)<(F:Int):=by omega
        obtain ⟨bf,of_,hfa,hbf,hcf⟩:=H5.out.1 (by rw [←H5.out.2.2.2.2.1];omega)
        subst hfa
        obtain ⟨E1,hE1⟩:∃ E,E=fs.getD i2 dek:=⟨_,rfl⟩
        obtain ⟨E2,hE2⟩:∃ E,E=fs.getD i3 dek:=⟨_,rfl⟩
        have hd1:=hcf i2 (by rw [←H5.out.2.2.2.2.1];omega)
        have hd2:=hcf i3 (by rw [←H5.out.2.2.2.2.1];omega)
        rw [←hE1] at hd1
        rw [←hE2] at hd2
        have hin1:E1 ∈ fs:=by
         rw [hE1,List.getD_eq_getElem?_getD,List.getElem?_eq_getElem (by rw [←H5.out.2.2.2.2.1];omega)]
         exact List.getElem_mem _
        have hin2:E2 ∈ fs:=by
         rw [hE2,List.getD_eq_getElem?_getD,List.getElem?_eq_getElem (by rw [←H5.out.2.2.2.2.1];omega)]
         exact List.getElem_mem _
        obtain ⟨hf1,hp1,hs1⟩:=fine_of HZ.out.1 HZ.out.2.1 (r+1) (by omega) E1.p (by rw [←H5.out.2.2.2.1];exact List.mem_map_of_mem hin1)
        obtain ⟨hf2,hp2,hs2⟩:=fine_of HZ.out.1 HZ.out.2.1 (r+1) (by omega) E2.p (by rw [←H5.out.2.2.2.1];exact List.mem_map_of_mem hin2)
        have hi1:=(H5.out.2.1.ins hin1 (fun z hz=>by have:=sy_rng E1.p hp1 z hz;have:=HZ.out.2.1;omega)).below HR2.out.2.2.2 nl
        have hi2':=(H5.out.2.1.ins hin2 (fun z hz=>by have:=sy_rng E2.p hp2 z hz;have:=HZ.out.2.1;omega)).below HR2.out.2.2.2 nl
        have l1p:1≤E1.p.sy.length:=by rw [sy_len];exact sz_pos _
        have l2p:1≤E2.p.sy.length:=by rw [sy_len];exact sz_pos _
        have l1b:E1.p.sy.length≤10000000000:=by rw [sy_len];exact hs1
        have l2b:E2.p.sy.length≤10000000000:=by rw [sy_len];exact hs2
        have hw1:=hf1.1
        have hw2:=hf2.1
        have HPK:Hid (ps.map Ek.p++[.pack E1.p E2.p j]=pairL (rnd (coinsS zs) (r+1)) (j+1)∧True):=by
         refine ⟨?_,trivial⟩
         rw [HR2.out.1]
         show _=pairL _ j++_
         rw [hE1,hE2,←ek_mapD,←ek_mapD,H5.out.2.2.2.1,hi3,hi2]
        obtain ⟨u1,hu1⟩:∃ u,u=E1.p.wt:=⟨_,rfl⟩
        obtain ⟨u2,hu2⟩:∃ u,u=E2.p.wt:=⟨_,rfl⟩
        obtain ⟨l1,hl1'⟩:∃ u,u=E1.p.sy.length:=⟨_,rfl⟩
        obtain ⟨l2,hl2'⟩:∃ u,u=E2.p.sy.length:=⟨_,rfl⟩
        obtain ⟨ea1,hea1⟩:∃ u,u=E1.a:=⟨_,rfl⟩
        obtain ⟨ea2,hea2⟩:∃ u,u=E2.a:=⟨_,rfl⟩
        obtain ⟨ec1,hec1⟩:∃ u,u=E1.c:=⟨_,rfl⟩
        obtain ⟨ec2,hec2⟩:∃ u,u=E2.c:=⟨_,rfl⟩
        rw [←hu1,←hl1',←hea1,←hec1] at hd1
        rw [←hu2,←hl2',←hea2,←hec2] at hd2
        rw [←hea1] at hi1
        rw [←hea2] at hi2'
        rw [←hu1] at hw1
        rw [←hu2] at hw2
        obtain ⟨m,hm⟩:∃ m,m=u1+u2:=⟨_,rfl⟩
        have hmi:(u1:Int)+(u2:Int)=(m:Int):=by omega
        have HS:Hid (∀ W,Below w5.heap.size w5 W→W.cell? ⟨bf,of_+i2*2,none⟩=some (.int .i64 (u1:Nat))∧W.cell? ⟨bf,of_+i2*2+1,none⟩=some (.slice ea1 l1 ec1)∧W.cell? ⟨bf,of_+i3*2,none⟩=some (.int .i64 (u2:Nat))∧W.cell? ⟨bf,of_+i3*2+1,none⟩=some (.slice ea2 l2 ec2)):=fun W hW=>⟨keep hW hbf hd1.1,keep hW hbf hd1.2,keep hW hbf hd2.1,keep hW hbf hd2.2⟩
        have HL:Hid (m=E1.p.wt+E2.p.wt∧l1=E1.p.sy.length∧l2=E2.p.sy.length∧1≤E1.p.sy.length∧1≤E2.p.sy.length∧E1.p.sy.length≤10000000000∧E2.p.sy.length≤10000000000):=⟨by rw [hm,hu1,hu2],hl1',hl2',l1p,l2p,l1b,l2b⟩
        have HIN:Hid (Ins wr ea1 E1.p.sy∧Ins wr ea2 E2.p.sy∧w5.heap.size≤wr.heap.size):=⟨hi1,hi2',HR2.out.2.2.2.size⟩
        have hb0':=HR2.out.2.2.2
        have hmb:m≤4000000000000:=by omega
        have hw3:IntKind.i64.wrap (i3:Int)=(i3:Int):=by rw [IntKind.wrap_i64];omega
        have hwm:IntKind.i64.wrap (m:Int)=(m:Int):=by rw [IntKind.wrap_i64];omega
        clear hi2 hi3 hE1 hE2 hd1 hd2 hin1 hin2 hf1 hp1 hs1 hf2 hp2 hs2 hi1 hi2' l1p l2p l1b l2b hu1 hu2 hl1' hl2' hea1 hea2 hec1 hec2 hm hcf hbf
        go_wp2_with fail
        generalize wr=V at *
        have hb1':Below w5.heap.size w5 (V.alloc (Obj.cells #[] 3)).drew:=(hb0'.alloc HIN.out.2.2 _).drew
        refine wp_region_cut (S:=fun W=>W.cell? ⟨bf,of_+i2*2,none⟩=some (.int .i64 (u1:Nat))∧W.cell? ⟨bf,of_+i2*2+1,none⟩=some (.slice ea1 l1 ec1)∧W.cell? ⟨bf,of_+i3*2,none⟩=some (.int .i64 (u2:Nat))∧W.cell? ⟨bf,of_+i3*2+1,none⟩=some (.slice ea2 l2 ec2)) 30 (by kernel_rfl) (by kernel_rfl) (by exact HS.out _ hb0'.drew) (fun hHeld=>?_)
        refine tk 0 (v:=?_) ?_ ?_
        rotate_left
        ·(intro w hSw;(try dsimp only at hSw);go_simp;try (with_reducible rfl))
        try simp only [tkS]
        refine tk 1 (v:=?_) ?_ ?_
        rotate_left
        ·(intro w hSw;(try dsimp only at hSw);go_simp;try (with_reducible rfl))
        try simp only [tkS]
        refine tk 2 (v:=?_) ?_ ?_
        rotate_left
        ·(intro w hSw;(try dsimp only at hSw);go_simp;try (with_reducible rfl))
        try simp only [tkS]
        refine tk 3 (v:=?_) ?_ ?_
        rotate_left
        ·(intro w hSw;(try dsimp only at hSw);go_simp;try (with_reducible rfl))
        try simp only [tkS]
        refine tk 4 (v:=?_) ?_ ?_
        rotate_left
        ·(intro w hSw;(try dsimp only at hSw);go_simp;try (with_reducible rfl))
        try simp only [tkS]
        refine tk 5 (v:=?_) ?_ ?_
        rotate_left
        ·(intro w hSw;(try dsimp only at hSw);go_simp;try (with_reducible rfl))
        try simp only [tkS]
        refine tk 6 (v:=?_) ?_ ?_
        rotate_left
        ·(intro w hSw;(try dsimp only at hSw);go_simp;try (with_reducible rfl))
        try simp only [tkS]
        refine tk 7 (v:=?_) ?_ ?_
        rotate_left
        ·(intro w hSw;(try dsimp only at hSw);go_simp;try (with_reducible rfl))
        try simp only [tkS]
        refine tk 8 (v:=?_) ?_ ?_
        rotate_left
        ·(intro w hSw;(try dsimp only at hSw);go_simp;try (with_reducible rfl))
        try simp only [tkS]
        refine tk 9 (v:=?_) ?_ ?_
        rotate_left
        ·(intro w hSw;(try dsimp only at hSw);go_simp;try (with_reducible rfl))
        try simp only [tkS]
        refine tk 10 (v:=?_) ?_ ?_
        rotate_left
        ·(intro w hSw;(try dsimp only at hSw);go_simp;try (with_reducible rfl))
        try simp only [tkS]
        refine tk 11 (v:=?_) ?_ ?_
        rotate_left
        ·(intro w hSw;(try dsimp only at hSw);go_simp;try (with_reducible rfl))
        try simp only [tkS]
        refine tk 12 (v:=?_) ?_ ?_
        rotate_left
        ·(intro w hSw;(try dsimp only at hSw);go_simp;try (with_reducible rfl))
        try simp only [tkS]
        refine tk 14 (v:=?_) ?_ ?_
        rotate_left
        ·(intro w hSw;(try dsimp only at hSw);go_simp;try (with_reducible rfl))
        try simp only [tkS]
        refine tk 15 (v:=?_) ?_ ?_
        rotate_left
        ·(intro w hSw;(try dsimp only at hSw);go_simp;try (with_reducible rfl))
        try simp only [tkS]
        refine tk 16 (v:=?_) ?_ ?_
        rotate_left
        ·(intro w hSw;(try dsimp only at hSw);go_simp;try (with_reducible rfl))
        try simp only [tkS]
        refine tk 17 (v:=?_) ?_ ?_
        rotate_left
        ·(intro w hSw;(try dsimp only at hSw);go_simp;try (with_reducible rfl))
        try simp only [tkS]
        refine tk 18 (v:=?_) ?_ ?_
        rotate_left
        ·(intro w hSw;(try dsimp only at hSw);go_simp;try (with_reducible rfl))
        try simp only [tkS]
        refine tk 20 (v:=?_) ?_ ?_
        rotate_left
        ·(intro w hSw;(try dsimp only at hSw);go_simp;try (with_reducible rfl))
        try simp only [tkS]
        refine tk 21 (v:=?_) ?_ ?_
        rotate_left
        ·(intro w hSw;(try dsimp only at hSw);go_simp;try (with_reducible rfl))
        try simp only [tkS]
        refine tk 22 (v:=?_) ?_ ?_
        rotate_left
        ·(intro w hSw;(try dsimp only at hSw);go_simp;try (with_reducible rfl))
        try simp only [tkS]
        refine tk 23 (v:=?_) ?_ ?_
        rotate_left
        ·(intro w hSw;(try dsimp only at hSw);go_simp;try (with_reducible rfl))
        try simp only [tkS]
        refine tk 24 (v:=?_) ?_ ?_
        rotate_left
        ·(intro w hSw;(try dsimp only at hSw);go_simp;try (with_reducible rfl))
        try simp only [tkS]
        refine tk 25 (v:=?_) ?_ ?_
        rotate_left
        ·(intro w hSw;(try dsimp only at hSw);go_simp;try (with_reducible rfl))
        try simp only [tkS]
        refine wpAnyH_ready (rs:=[13]) (by kernel_rfl) (by simp) ?_
        refine AllReadyH.cons rfl (fun K hK=>?_) AllReadyH.nil
        go_simp
        refine hK.out _ _ (by exact HS.out _ hb1') (fun hHeld=>?_)
        clear hK K
        try simp only [tkS]
        refine wpAnyH_ready (rs:=[19]) (by kernel_rfl) (by simp) ?_
        refine AllReadyH.cons rfl (fun K hK=>?_) AllReadyH.nil
        refine wanted_ek rfl (wp_append_iv (B:=V.heap.size) (v:=.slice (some ⟨V.heap.size,0,none⟩) 0 0) (zs:=[]) (ys:=E1.p.sy) (a:=ea1) (c:=ec1) (.tmp 139) (.tmp 144) rfl (by simp [Act.eval]) (by simp [Act.eval]) HL.out.2.1 (ovi_made V) (HIN.out.1.below (B:=V.heap.size) (((Below.refl _ _).alloc nl _).drew) nl) HL.out.2.2.2.1 (by have:=HL.out.2.2.2.2.2.1;simp only [List.length_nil];omega) (by simp) ?_)
        intro v6 w6 hov6 hg6
        rw [List.nil_append] at hov6
        have hb6:Below V.heap.size V w6:=(((Below.refl _ _).alloc nl _).drew).grown hg6 (by simp) (fun b hb=>by simp [Value.ownBlock] at hb;omega)
        obtain ⟨xa6,xc6,hv6⟩:=hov6.form
        rw [←HL.out.2.1] at hv6
        subst hv6
        have H6:Hid ((V.alloc (Obj.cells #[] 3)).grownBy w6 (some V.heap.size)∧OVI w6 V.heap.size (.slice xa6 l1 xc6) E1.p.sy∧Below V.heap.size V w6∧Ins w6 ea2 E2.p.sy∧Below w5.heap.size w5 w6):=⟨⟨hg6.os,hg6.tape,hg6.output,hg6.size,hg6.block⟩,hov6,hb6,HIN.out.2.1.below hb6 nl,hb0'.trans (hb6.mono HIN.out.2.2)⟩
        refine hK.out _ _ (by exact HS.out _ H6.out.2.2.2.2) (fun hHeld=>?_)
        clear hK K hov6 hg6 hb6
        try simp only [tkS]
        refine wpAnyH_ready (rs:=[26]) (by kernel_rfl) (by simp) ?_
        refine AllReadyH.cons rfl (fun K hK=>?_) AllReadyH.nil
        refine wanted_ek rfl (wp_append_iv (B:=V.heap.size) (v:=.slice xa6 l1 xc6) (zs:=E1.p.sy) (ys:=E2.p.sy) (a:=ea2) (c:=ec2) (.tmp 145) (.tmp 151) rfl (by simp [Act.eval]) (by simp [Act.eval]) HL.out.2.2.1 H6.out.2.1 H6.out.2.2.2.1 HL.out.2.2.2.2.1 (by have h1:=HL.out.2.2.2.2.2.1;have h2:=HL.out.2.2.2.2.2.2;omega) H6.out.2.2.1.size ?_)
        intro v7 w7 hov7 hg7
        obtain ⟨xa7,xc7,hv7⟩:=hov7.form
        obtain ⟨l7,hl7⟩:∃ l,l=(E1.p.sy++E2.p.sy).length:=⟨_,rfl⟩
        rw [←hl7] at hv7
        subst hv7
        have hb7:Below V.heap.size V w7:=H6.out.2.2.1.grown hg7 H6.out.2.2.1.size (fun b hb=>H6.out.2.1.blk hb)
        have H7:Hid (w6.grownBy w7 (Value.slice xa6 l1 xc6).ownBlock∧OVI w7 V.heap.size (.slice xa7 l7 xc7) (E1.p.sy++E2.p.sy)∧Below V.heap.size V w7∧l7=(E1.p.sy++E2.p.sy).length∧Below w5.heap.size w5 w7):=⟨hg7,hov7,hb7,hl7,hb0'.trans (hb7.mono HIN.out.2.2)⟩
        refine hK.out _ _ (by exact HS.out _ H7.out.2.2.2.2) (fun hHeld=>?_)
        clear hK K hov7 hg7 hb7 hl7
        try simp only [tkS]
        refine tk 27 (v:=?_) ?_ ?_
        rotate_left
        ·(intro w hSw;(try dsimp only at hSw);go_simp;try (with_reducible rfl))
        try simp only [tkS]
        obtain ⟨E,hE⟩:∃ E:Ek,E=⟨.pack E1.p E2.p j,xa7,xc7⟩:=⟨_,rfl⟩
        have hEc:Ekc E m xa7 l7 xc7:=by rw [hE];exact ⟨HL.out.1,rfl,H7.out.2.2.2.1,rfl⟩
        have H8:Hid (E=⟨.pack E1.p E2.p j,xa7,xc7⟩∧Eks (w7.alloc (Obj.cells #[.int .i64 (m:Nat),.slice xa7 l7 xc7] 190)) (some ⟨w7.heap.size,0,none⟩) [E]∧OVk (w7.alloc (Obj.cells #[.int .i64 (m:Nat),.slice xa7 l7 xc7] 190)) B (.slice qa P qc) ps∧Below w5.heap.size w5 (w7.alloc (Obj.cells #[.int .i64 (m:Nat),.slice xa7 l7 xc7] 190))∧B≤(w7.alloc (Obj.cells #[.int .i64 (m:Nat),.slice xa7 l7 xc7] 190)).heap.size):=⟨hE,eks_oneL w7 hEc,(HR2.out.2.1.row.below H7.out.2.2.1).below ((Below.refl _ _).alloc nl _),H7.out.2.2.2.2.alloc H7.out.2.2.2.2.size _,by have h1:=H7.out.2.2.2.2.size;have h2:=HB5.out.1;simp;omega⟩
        clear hE hEc
        refine wpAnyH_ready (rs:=[28]) (by kernel_rfl) (by simp) ?_
        refine AllReadyH.cons rfl (fun K hK=>?_) AllReadyH.nil
        go_simp
        refine hK.out _ _ (by exact HS.out _ H8.out.2.2.2.1) (fun hHeld=>?_)
        clear hK K
        try simp only [tkS]
        refine wpAnyH_ready (rs:=[29]) (by kernel_rfl) (by simp) ?_
        refine AllReadyH.cons rfl (fun K hK=>?_) AllReadyH.nil
        refine wanted_ek rfl (wp_append_ek (B:=B) (v:=.slice qa P qc) (es:=ps) (fs:=[E]) (a:=some ⟨w7.heap.size,0,none⟩) (c:=1) (.tmp 126) (.tmp 154) rfl (by simp [Act.eval]) (by simp [Act.eval]) rfl H8.out.2.2.1 H8.out.2.1 (by have:=HR2.out.2.2.1;simp only [List.length_cons,List.length_nil];omega) H8.out.2.2.2.2 ?_)
        intro v9 w9 hov9 hg9 hat9
        have HF:Hid (PaI w5 w9 N B v9 (ps++[E])∧(ps++[E]).map Ek.p=pairL (rnd (coinsS zs) (r+1)) (j+1)∧Below w5.heap.size w5 w9):=by
         have e:=H8.out.1
         have hsy:E.p.sy=E1.p.sy++E2.p.sy:=by rw [e];rfl
         have hpi:=PaI.more (sy2:=[]) (E:=E) HR2.out.2.1 HB5.out.2 (Nat.le_of_eq HB5.out.1) H6.out.1 H6.out.2.1 H7.out.1 (by rw [hsy,←H7.out.2.2.2.1,e];exact H7.out.2.1) (by rw [hsy,List.length_append];have:=HL.out.2.2.2.1;omega) hov9 hg9
         exact ⟨hpi,by rw [List.map_append,←HPK.out.1,e];rfl,by have:=hpi.bel;rw [HB5.out.1] at this;exact this⟩
        refine hK.out _ _ (by exact HS.out _ HF.out.2.2) (fun hHeld=>?_)
        clear hK K hov9 hg9 hat9 hHeld
        try simp only [tkS]
        refine wpAnyH_done (by kernel_rfl) ?_ _
        simp only [cutQ,List.drop_succ_cons,List.drop_zero]
        have hi4:(i2:Int)+2=((2*(j+1):Nat):Int):=by have:=HI2.out.1;omega
        go_wp2
        go_roundw
        case rel=>exact ⟨j+1,ps++[E],by have:=HI2.out.1;omega,by first | rfl | go_num,HF.out.2.1,HF.out.1⟩
        case measure=>simp [intOf];have:=HI2.out.1;omega
       ·obtain ⟨i3,hi3⟩:∃ x,x=i2+1:=⟨_,rfl⟩
        have hi3i:(i2:Int)+1=(i3:Int):=by omega
        have hge:¬(i3:Int)<(F:Int):=by omega
        have hw3:wrap64 (i3:Int)=(i3:Int):=IntWalk.wrap64_in _ (by omega)
        have hjF:j=F / 2:=by omega
        have HF:Hid (ps.map Ek.p=pairL (rnd (coinsS zs) (r+1)) ((rnd (coinsS zs) (r+1)).length / 2)∧RoI w wr N n zs (some ⟨g,0,none⟩) es qa ps):=by
         have e:=congrArg List.length H5.out.2.2.2.1
         rw [List.length_map,←H5.out.2.2.2.2.1] at e
         have hro:=H5.out.2.2.1.below HR2.out.2.2.2
         exact ⟨by rw [←e,←hjF];exact HR2.out.1,⟨hro.coins,hro.sye,HQ9.out,HR2.out.2.1.sy,hro.out,hro.bel⟩⟩
        have hPl:=HR2.out.2.2.1
        clear hjF hi2 hi3
        go_wp2
        go_roundw
        case rel=>exact ⟨r+1,ps,qa,qc,by omega,by first | rfl | go_num,by rw [hPl],HF.out.1,HF.out.2⟩
        case measure=>simp [intOf];omega
end Go.Proofs.YtfeokafkhnbdiaaGreatDoor
