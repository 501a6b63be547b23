/- Lemmas on the way. -/
import Derived.Test.YtfeokafkhnbdiaaGreatDoorLzL
import Derived.WideKeyEntry
import Derived.DeepKeys4
import Derived.BigQuiet
import Derived.Test.YtfeokafkhnbdiaaGreatDoorFnD
import Derived.Test.YtfeokafkhnbdiaaGreatDoorHPut2M
import Derived.Test.YtfeokafkhnbdiaaGreatDoorPcN
set_option maxRecDepth 20000
set_option maxHeartbeats 16000000
namespace Go.Proofs.YtfeokafkhnbdiaaGreatDoor
open Go.RowKit Go.Maps Go.ChangeShapes Go.ChangeAt Go.MapKept Go.WideElems
open Go.ChangeMaps (setBlock heap_setBlock_same)
open Go.WideMaps (KeyLaw)
set_option linter.unusedVariables false
theorem Tryz.laidOutL :laidOutB Tryz.prog=true:=by kernel_rfl
theorem Tryz.keyLL :KeyLaw Tryz.prog 97:=deep_law_laid Tryz.laidOutL (m:=100) (by omega) (of_decide_eq_true (by kernel_rfl)) (by kernel_rfl) (by kernel_rfl)
theorem Tryz.lawKL :Keyed Tryz.prog 97:=Keyed.of_law Tryz.keyLL
def lkV (q:Int × Int × Int):Value:=.agg #[.int .u8 q.1,.int .u8 q.2.1,.int .u8 q.2.2]
def lkL (q:Int × Int × Int):Lit:=.string (keyBytes [.int .u8 q.1,.int .u8 q.2.1,.int .u8 q.2.2])
def lkR (q:Int × Int × Int):Prop:=(0≤q.1∧q.1≤255)∧(0≤q.2.1∧q.2.1≤255)∧(0≤q.2.2∧q.2.2≤255)
theorem lk_wf {z:Int} (h:0≤z∧z≤255):(Lit.int .u8 z).wf=true:=by
 simp [Lit.wf,IntKind.min,IntKind.max,IntKind.bits,IntKind.signed]
 omega
theorem lk_key {q:Int × Int × Int} (h:lkR q):keyOf Tryz.prog 97 (lkV q)=some (lkL q):=by
 obtain ⟨x,y,z⟩:=q
 obtain ⟨h0,h1,h2⟩:=h
 simp only at h0 h1 h2
 have u1:Tryz.prog.keyType 97=true:=by kernel_rfl
 have u2:Tryz.prog.cellsOf 97=3:=by kernel_rfl
 have u3:Tryz.prog.cellsOf 5=1:=by kernel_rfl
 have u4:Tryz.prog.types.size=283:=by kernel_rfl
 have u5:∀ d,Tryz.prog.keyLits (d+1+1) 97 [.int .u8 x,.int .u8 y,.int .u8 z]=some [.int .u8 x,.int .u8 y,.int .u8 z]:=by
  intro d
  simp [Program.keyLits,Tryz.underlying97,Tryz.underlying5,u2,u3,List.range_succ,lk_wf h0,lk_wf h1,lk_wf h2]
 have u6:(Value.agg #[.int .u8 x,.int .u8 y,.int .u8 z]).formed Tryz.prog 97=true:=by
  simp [Value.formed,Tryz.underlying97,u2]
 unfold keyOf lkV lkL
 simp only [Tryz.underlying97,u1,u6,Bool.and_self,if_true,Value.cells]
 rw [u4,u5]
 rfl
theorem lk_inj {q r:Int × Int × Int} (hq:lkR q) (hr:lkR r) (h:lkL q=lkL r):q=r:=by
 have h1:=Tryz.keyLL.inj (lk_key hq) (by rw [h];exact lk_key hr)
 obtain ⟨x,y,z⟩:=q
 obtain ⟨x',y',z'⟩:=r
 simpa [lkV] using h1
theorem upd_det {P:Program} {k t e:TypeId} {w w':World} {b:Nat} {es e1 e2:Array MapEntry} {clock c1 c2:Nat} {key val:Value} {kl:Lit} (K:KeyLaw P k) (ht:P.underlying t=some (.map k e)) (hs:Stamped es clock) (hks:∀ x ∈ es.toList,∃ l,keyOf P k x.key=some l) (hkey:keyOf P k key=some kl)
  (hw:w.heap[b]?=some (.map es clock)) (hw':w'.heap[b]?=some (.map es clock)) (h1:(Instr.mapUpdate t (.map (some b)) key val).run P w=.ok () (setBlock w b (.map e1 c1))) (h2:(Instr.mapUpdate t (.map (some b)) key val).run P w'=.ok () (setBlock w' b (.map e2 c2))) :
  e1=e2∧c1=c2:=by
 have inj:∀ (w:World) (h:w.heap[b]?=some (.map es clock)) {x y:Obj},setBlock w b x=setBlock w b y→x=y:=fun w h x y e=>by
  have:=heap_setBlock_same h x
  rw [e,heap_setBlock_same h y] at this
  exact (Option.some.inj this).symm
 have hn:=hs.2.2
 rcases K.find w hkey es.toList hks with ⟨f1,g1⟩ | ⟨j,x,f1,g1,m1⟩ <;> rcases K.find w' hkey es.toList hks with ⟨f2,g2⟩ | ⟨j',x',f2,g2,m2⟩
 ·simp [Instr.mapUpdate,run_underlying ht,MapKept.run_getObj_map hw,K.check w false hkey,f1,MapKept.run_setObj_map _ hw,Result.andThen] at h1
  simp [Instr.mapUpdate,run_underlying ht,MapKept.run_getObj_map hw',K.check w' false hkey,f2,MapKept.run_setObj_map _ hw',Result.andThen] at h2
  have h3:=inj w hw h1
  have h4:=inj w' hw' h2
  have h5:=h3.symm.trans h4
  simpa using h5
 ·exact absurd m2 (g1 x' (List.mem_of_getElem? g2))
 ·exact absurd m1 (g2 x (List.mem_of_getElem? g1))
 ·have hjj:j=j':=by
   obtain ⟨a1,a2⟩:=List.getElem?_eq_some_iff.1 g1
   obtain ⟨b1,b2⟩:=List.getElem?_eq_some_iff.1 g2
   refine (List.getElem_inj (h₀:=by simpa using a1) (h₁:=by simpa using b1) hn).1 ?_
   simp [a2,b2,m1,m2]
  subst hjj
  have hj1:es[j]?=some x:=by simpa using g1
  have hj2:es[j]?=some x':=by simpa using g2
  simp [Instr.mapUpdate,run_underlying ht,MapKept.run_getObj_map hw,K.check w false hkey,f1,hj1,m1,K.stays w hkey,MapKept.run_setObj_map _ hw,Result.andThen] at h1
  simp [Instr.mapUpdate,run_underlying ht,MapKept.run_getObj_map hw',K.check w' false hkey,f2,hj2,m2,K.stays w' hkey,MapKept.run_setObj_map _ hw',Result.andThen] at h2
  have h3:=inj w hw h1
  have h4:=inj w' hw' h2
  have h5:=h3.symm.trans h4
  simpa using h5
open Go.ChangeMaps (setBlock heap_setBlock_same heap_setBlock_other)
open Go.WideMaps (KeyLaw)
set_option linter.unusedVariables false
def LivL (w:World) (M n:Nat) (f:Int × Int × Int→List Int):Prop:=
 ∃ D:DataW Unit,w.ownsGroups Tryz.prog 97 (M+1) 3 .i64 M n D∧IsMap D∧∀ q,lkR q→Itm (D.atKey (lkL q) .nil) (f q)
theorem LivL.made (w:World):LivL (w.alloc (.map #[] 0)) w.heap.size 0 (fun _=>[]):=
 ⟨.map [],World.ownsGroups_made w _ _ _ _,isMap_empty,fun s _=>.inl ⟨rfl,rfl⟩⟩
theorem LivL.below {w w':World} {M n:Nat} {f:Int × Int × Int→List Int} (h:LivL w M n f) (hb:Below w.heap.size w w'):LivL w' M n f:=by
 obtain ⟨D,h1,h2,h3⟩:=h
 exact ⟨D,h1.kept (grown_below hb) (by simp) (fun _ _ _ x _=>by cases x.val.ownBlock <;> simp),h2,h3⟩
theorem LivL.lt {w:World} {M n:Nat} {f:Int × Int × Int→List Int} (h:LivL w M n f):M<w.heap.size:=by
 obtain ⟨D,⟨es,clock,hb,_⟩,_⟩:=h
 exact (Array.getElem?_eq_some_iff.1 hb).1
theorem LivL.mono {w:World} {M n m:Nat} {f:Int × Int × Int→List Int} (h:LivL w M n f) (hm:n≤m):LivL w M m f:=by
 obtain ⟨D,⟨es,clock,h1,h2,h3,h4,h5,h6,h7⟩,h8⟩:=h
 exact ⟨D,⟨es,clock,h1,h2,by omega,h4,h5,fun x hx zs hz=>by have:=h6 x hx zs hz;omega,h7⟩,h8⟩
theorem LivL.congr {w:World} {M n:Nat} {f g:Int × Int × Int→List Int} (h:LivL w M n f) (he:∀ q,f q=g q):LivL w M n g:=by
 obtain ⟨D,h1,h2,h3⟩:=h
 exact ⟨D,h1,h2,fun q hq=>by rw [←he];exact h3 q hq⟩
theorem LivL.look {w:World} {M n:Nat} {f:Int × Int × Int→List Int} (h:LivL w M n f) (hn:n≤1000) (q:Int × Int × Int) (hq:lkR q) :
  ∃ v,(Instr.lookup 93 (.map (some M)) (lkV q) false).run Tryz.prog w=.ok v w∧OVI w (M+1) v (f q)∧(f q).length≤n:=by
 obtain ⟨D,h1,h2,h3⟩:=h
 obtain ⟨v,zs,hrun,hat,hoi,hzl,_⟩:=h1.at Tryz.lawKL Tryz.underlying93 (Tryz.zeroSI _) (by unfold maxLen;omega) (lk_key hq)
 obtain rfl:zs=f q:=(Itm.of hoi hat).eq (h3 q hq)
 exact ⟨v,hrun,⟨hoi.1,fun z hz=>bounds_i64 (hoi.2 z hz)⟩,hzl⟩
theorem LivL.entry {w:World} {M n:Nat} {f:Int × Int × Int→List Int} (h:LivL w M n f) (hn:n≤1000) (q:Int × Int × Int) (hq:lkR q) :
  ∃ v st w0,(Instr.mapEntry 93 (.map (some M)) (lkV q)).run Tryz.prog w=.ok (.tuple #[v,goInt st]) w0∧w.grownBy w0 (some M)∧w0.heap.size=w.heap.size∧OVI w0 (M+1) v (f q)∧(f q).length≤n ∧
   ∀ (w1:World) (v':Value) (z:Int),w0.grownBy w1 v.ownBlock→OVI w1 (M+1) v' (f q++[z])→(v'.ownBlock=v.ownBlock∨∃ g,v'.ownBlock=some g∧w.heap.size≤g) →
    ∃ w2,(Instr.entryStore 93 (.map (some M)) (goInt st) v').run Tryz.prog w1=.ok () w2∧LivL w2 M (n+1) (fun t=>if t=q then f q++[z] else f t)∧w1.grownBy w2 (some M):=by
 obtain ⟨D,h1,h2,h3⟩:=h
 obtain ⟨v,zs,hrun,hat,hoi,hzl,hback⟩:=h1.at Tryz.lawKL Tryz.underlying93 (Tryz.zeroSI _) (by unfold maxLen;omega) (lk_key hq)
 obtain rfl:zs=f q:=(Itm.of hoi hat).eq (h3 q hq)
 obtain ⟨es,clock,hb,F,hs,hD,hbb,hlen,hap⟩:=h1
 obtain ⟨v0,st,es1,c1,hme,hcase,hst⟩:=entry_then_store Tryz.keyLL Tryz.underlying93 Tryz.zeroSI hb F (lk_key hq)
 have hMl:M<w.heap.size:=(Array.getElem?_eq_some_iff.1 hb).1
 have hv:v0=v:=by
  rcases Maps.fit_look false Tryz.lawKL Tryz.underlying93 (Tryz.zeroSI w) hb F (lk_key hq) with ⟨hr,hno,_⟩ | ⟨e1,y,hm1,hk1,hr,_⟩
  ·rw [hrun] at hr
   simp at hr
   rcases hcase with ⟨e0,hm0,hk0,_⟩ | ⟨_,h⟩
   ·exact absurd hk0 (hno e0 hm0)
   ·rw [h,hr]
  ·rw [hrun] at hr
   simp at hr
   rcases hcase with ⟨e0,hm0,hk0,h⟩ | ⟨hno,_⟩
   ·rw [h,hr]
    have:=F.stamped.2.2
    obtain ⟨i,hi,rfl⟩:=List.getElem_of_mem hm0
    obtain ⟨j,hj,rfl⟩:=List.getElem_of_mem hm1
    have hij:i=j:=(List.getElem_inj (h₀:=by simpa using hi) (h₁:=by simpa using hj) this).1 (by rw [List.getElem_map,List.getElem_map,hk0,hk1])
    subst hij
    rfl
   ·exact absurd hk1 (hno e1 hm1)
 subst hv
 have hg0:∀ (w:World) (h:w.heap[M]?=some (.map es clock)) (o:Obj),w.grownBy (setBlock w M o) (some M):=fun w h o=>⟨rfl,rfl,rfl,by simp [setBlock],fun i _ hi=>heap_setBlock_other h _ (fun e1=>hi (by rw [e1]))⟩
 have own_ne:∀ {w:World} {u:Value} {ys:List Int},w.ownsInts (M+1) 3 .i64 u ys→u.ownBlock=none∨u.ownBlock≠some M:=fun {w u ys} ho=>by
  cases hu:u.ownBlock with
  | none=>exact Or.inl rfl
  | some g=>
   refine Or.inr (fun e1=>?_)
   have:=(ho.1.lt g hu).1
   cases e1
   omega
 have ho0:(setBlock w M (.map es1 c1)).ownsInts (M+1) 3 .i64 v0 (f q):=hoi.kept (hg0 w hb _) (own_ne hoi)
 refine ⟨v0,st,_,hme,hg0 w hb _,by simp [setBlock],⟨ho0.1,fun z hz=>bounds_i64 (hoi.2 z hz)⟩,hzl,fun w1 v' z hg ho hloc=>?_⟩
 have hvM:some M≠v0.ownBlock:=by
  rcases own_ne hoi with h | h
  ·rw [h];simp
  ·exact fun e=>h e.symm
 have hw1:w1.heap[M]?=some (.map es1 c1):=(hg.block M (by simp [setBlock];exact hMl) hvM).trans (heap_setBlock_same hb _)
 have hoi1:w1.ownsInts (M+1) 3 .i64 v' (f q++[z]):=⟨ho.1,fun y hy=>WalkArith.wf_i64 (ho.2 y hy)⟩
 -- the world as it would be if the entry were not there yet
 have hg1:∀ (o:Obj),w1.grownBy (setBlock w1 M o) (some M):=fun o=>⟨rfl,rfl,rfl,by simp [setBlock],fun i _ hi=>heap_setBlock_other hw1 _ (fun e1=>hi (by rw [e1]))⟩
 have hws:(setBlock w1 M (.map es clock)).heap[M]?=some (.map es clock):=heap_setBlock_same hw1 _
 have hgs:w.grownBy (setBlock w1 M (.map es clock)) v0.ownBlock:=by
  refine ⟨hg.os,hg.tape,hg.output,by have:=hg.size;simp [setBlock] at this ⊢;exact this,fun i hi hne=>?_⟩
  by_cases him:i=M
  ·subst him
   rw [hws,hb]
  ·rw [heap_setBlock_other hw1 _ him,hg.block i (by simp [setBlock];exact hi) hne,heap_setBlock_other hb _ him]
 have hois:(setBlock w1 M (.map es clock)).ownsInts (M+1) 3 .i64 v' (f q++[z]):=hoi1.kept (hg1 _) (own_ne hoi1)
 obtain ⟨w2,hr2,hgr2,hgg2⟩:=hback (setBlock w1 M (.map es clock)) v' (f q++[z]) hgs hois (by simp;omega) hloc
 obtain ⟨es',c',hse,hmu⟩:=hst w1 v' hw1
 -- the store of both
 have F0:Fit Tryz.prog 97 (fun _=>some ((.nil:DataW Unit),([]:List MemPlace))) es clock:=⟨F.size,F.stamped,fun x hx=>by
  obtain ⟨y,hy⟩:=F.reads x hx
  exact ⟨(y.1,.nil),by simp [rd,rd_key hy]⟩⟩
 obtain ⟨v2,st2,es2,c2,_,_,hst2⟩:=entry_then_store Tryz.keyLL Tryz.underlying93 Tryz.zeroSI hws F0 (lk_key hq)
 obtain ⟨es3,c3,_,hmu2⟩:=hst2 (setBlock w1 M (.map es2 c2)) v' (heap_setBlock_same hw1 _)
 obtain ⟨e1,e2⟩:=upd_det Tryz.keyLL Tryz.underlying93 F.stamped F.keys (lk_key hq) hb hws hmu hmu2
 subst e1
 subst e2
 rw [hr2] at hmu2
 have hw2:w2=setBlock w1 M (.map es' c'):=by
  have:w2=setBlock (setBlock w1 M (.map es clock)) M (.map es' c'):=by simpa using hmu2
  rw [this]
  simp [setBlock]
 subst hw2
 refine ⟨_,hse,⟨_,hgr2,h2.put _ _,fun t ht=>?_⟩,hg1 _⟩
 by_cases htq:t=q
 ·subst htq
  show Itm _ (if t=t then _ else _)
  rw [if_pos rfl,atKey_put_same h2 (Tryz.lawKL.key (lk_key ht))]
  exact Itm.of hois rfl
 ·show Itm _ (if t=q then _ else _)
  rw [if_neg htq,atKey_put_other (fun e=>htq (lk_inj ht hq (by first | exact e | exact e.symm)))]
  exact h3 t ht
end Go.Proofs.YtfeokafkhnbdiaaGreatDoor
namespace Go.Proofs.YtfeokafkhnbdiaaGreatDoor
open Go.RowKit
set_option linter.unusedVariables false
set_option linter.unusedSimpArgs false
structure Hst (w:World) (R M:Nat) (a:Option Addr) (n c:Nat):Prop where
 blk:w.heap[R]?=some (.cells #[.slice a n c,.map (some M)] 95 (0,0))
theorem Hst.c0 {w:World} {R M:Nat} {a:Option Addr} {n c:Nat} (h:Hst w R M a n c):w.cell? ⟨R,0,none⟩=some (.slice a n c):=by
 rw [cell_of_row w R 0 _ _ (0,0) h.blk];rfl
theorem Hst.c1 {w:World} {R M:Nat} {a:Option Addr} {n c:Nat} (h:Hst w R M a n c):w.cell? ⟨R,1,none⟩=some (.map (some M)):=by
 rw [cell_of_row w R 1 _ _ (0,0) h.blk];rfl
theorem Hst.lt {w:World} {R M:Nat} {a:Option Addr} {n c:Nat} (h:Hst w R M a n c):R<w.heap.size:=(Array.getElem?_eq_some_iff.1 h.blk).1
theorem Hst.below {w w':World} {R M:Nat} {a:Option Addr} {n c:Nat} (h:Hst w R M a n c) (hb:Below w.heap.size w w'):Hst w' R M a n c:=⟨(hb.block R h.lt).trans h.blk⟩
theorem alikeFrom_any (R M:Nat) (a:Option Addr) (c:Nat) (ys:List Int) (p q:Nat) (w:World) (hH:Hst w R M a ys.length c) (hb:Byt w a ys) (hn:ys.length≤64) (hp:p<q) (hq:q<ys.length) :
  Calls Tryz.prog 62 #[.pointer (some ⟨R,0,none⟩),.int .i64 p,.int .i64 q] w fun e w'=>e=.returned (.int .i64 (alk ys p q))∧Below w.heap.size w w':=by
 obtain ⟨b1,o1,rfl,hb1,hc1⟩:=hb.2 (by omega)
 have HC:Hid (∀ i,i<ys.length→w.cell? ⟨b1,o1+i,none⟩=some (.int .u8 (ys.getD i 0))):=hc1
 have HIS:Hid (∀ m,q+m≤ys.length→(∀ j,j<m→ys.getD (p+j) 0=ys.getD (q+j) 0)→(q+m<ys.length→ys.getD (p+m) 0≠ys.getD (q+m) 0)→alk ys p q=m):=fun m h1 h2 h3=>alk_is ys p q m h1 h2 h3
 have r0:=hH.c0
 have hRl:=hH.lt
 clear hb hc1 hH
 generalize hL:ys.length=n at *
 have HL:Hid (ys.length=n∧True):=⟨hL,trivial⟩
 clear hL
 go_enter Tryz.func62,Tryz.ntmps62
 go_wp2
 go_loopw [7] (fun mm W=>∃ m:Nat,q+m≤n∧mm=.int .i64 m∧(∀ j,j<m→ys.getD (p+j) 0=ys.getD (q+j) 0)∧Below w.heap.size w W) (fun mm _=>n-(intOf mm).toNat)
 case atStart=>exact ⟨0,by omega,rfl,fun j hj=>by omega,Below.refl _ _⟩
 case round=>
  obtain ⟨m,hm,rfl,hal,hbel2⟩:=hrel
  have HM:Hid ((∀ j,j<m→ys.getD (p+j) 0=ys.getD (q+j) 0)∧Below w.heap.size w wr):=⟨hal,hbel2⟩
  have HBD:Hid (∀ nq,Below w.heap.size w (wr.drewN nq)):=fun nq=>⟨hbel2.os,hbel2.tape,hbel2.output,hbel2.size,hbel2.block⟩
  have r1:=keep hbel2 hRl r0
  have hRw:R<wr.heap.size:=by have:=hbel2.size;omega
  clear hal hbel2
  by_cases hlm:q+m<n
  ·obtain ⟨qm,hqm⟩:∃ x:Nat,x=q+m:=⟨_,rfl⟩
   obtain ⟨pm,hpm⟩:∃ x:Nat,x=p+m:=⟨_,rfl⟩
   have c0:=keep HM.out.2 hb1 (HC.out qm (by omega))
   have c1:=keep HM.out.2 hb1 (HC.out pm (by omega))
   have hb1w:b1<wr.heap.size:=by have:=HM.out.2.size;omega
   have hqi:(q:Int)+(m:Int)=(qm:Int):=by omega
   have hpi:(p:Int)+(m:Int)=(pm:Int):=by omega
   have hql:(qm:Int)<(n:Int):=by omega
   have hpl:(pm:Int)<(n:Int):=by omega
   have HQR:Hid (qm=q+m∧pm=p+m):=⟨hqm,hpm⟩
   clear hqm hpm
   obtain ⟨z0,hz0⟩:∃ z,ys.getD qm 0=z:=⟨_,rfl⟩
   obtain ⟨z1,hz1⟩:∃ z,ys.getD pm 0=z:=⟨_,rfl⟩
   have HZ:Hid (ys.getD qm 0=z0∧ys.getD pm 0=z1):=⟨hz0,hz1⟩
   rw [hz0] at c0
   rw [hz1] at c1
   clear hz0 hz1
   by_cases he:z1=z0
   ·subst he
    have hd:(z1 == z1)=true:=by simp
    have HN:Hid (∀ j,j<m+1→ys.getD (p+j) 0=ys.getD (q+j) 0):=fun j hj=>by
     rcases Nat.lt_or_ge j m with h | h
     ·exact HM.out.1 j h
     ·rw [show j=m by omega,←HQR.out.1,←HQR.out.2,HZ.out.1,HZ.out.2]
    go_wp2
    go_quiet (fail)
    go_wp2
    go_roundw
    case rel=>exact ⟨m+1,by omega,by go_num,HN.out,HBD.out _⟩
    case measure=>simp [intOf];omega
   ·have hd:(z1 == z0)=false:=by simp;exact he
    have HN:Hid (ys.getD (p+m) 0≠ys.getD (q+m) 0):=by
     unfold Hid
     rw [←HQR.out.1,←HQR.out.2,HZ.out.1,HZ.out.2]
     exact fun e=>he e
    have HE:Hid (alk ys p q=m):=HIS.out m hm HM.out.1 (fun _=>HN.out)
    go_wp2
    go_quiet (fail)
    go_wp2
    go_ret
    exact ⟨by rw [HE.out];rfl,HBD.out _⟩
  ·have hql:¬(q:Int)+(m:Int)<(n:Int):=by omega
   have hd:decide ((q:Int)+(m:Int)<(n:Int))=false:=decide_eq_false hql
   have HE:Hid (alk ys p q=m):=HIS.out m hm HM.out.1 (fun h=>absurd h hlm)
   go_wp2
   go_quiet (fail)
   go_wp2
   go_ret
   exact ⟨by rw [HE.out];rfl,HBD.out _⟩
theorem zeros_list (m:Nat):Builtin.zeroCells (Value.int .i64 0).cells m=((List.replicate m (0:Int)).map (Value.int .i64)).toArray:=by
 apply Array.ext'
 simp only [Builtin.zeroCells,Value.cells,Array.toList_map,Array.toList_range,List.map_replicate]
 rw [List.eq_replicate_iff]
 refine ⟨by simp,fun b hb=>?_⟩
 simp only [List.mem_map] at hb
 obtain ⟨i,_,rfl⟩:=hb
 simp [Nat.mod_one]
theorem run_append_zer {P:Program} (w:World) (base:Nat) (t tn ty e:TypeId) (i:TypeInfo) (k kn:IntKind) (ht:P.underlying t=some (.slice e)) (htn:P.underlying tn=some (.int kn)) (hi:P.info? e=some i) (hz:i.zero=some (.int .i64 0))
  (hsize:i.size=1) (hby:i.bytes≤8) (v:Value) (n:Nat) (hn:0<n) (xs:List Value) (hown:w.ownsRow base e 1 v n xs) (m:Nat) (hnm:n+m≤1000000) (hbase:base≤w.heap.size) :
  ∃ v' w',(Builtin.append_ #[t,tn] ty #[v,.int k m]).run P w=.ok v' w'∧w'.ownsRow base e 1 v' (n+m) (xs++(List.replicate m (0:Int)).map (Value.int .i64))∧w.grownBy w' v.ownBlock:=by
 have hl:((List.replicate m (0:Int)).map (Value.int .i64)).length=m:=by simp
 have hZ:=zeros_list m
 have h1:∀ u ∈ (List.replicate m (0:Int)).map (Value.int .i64),u.oneCell'=true:=by
  intro u hu
  simp only [List.mem_map] at hu
  obtain ⟨z,_,rfl⟩:=hu
  rfl
 generalize (List.replicate m (0:Int)).map (Value.int .i64)=news at *
 have hlen:(xs++news).length=n+m:=by rw [List.length_append,hown.1,hl];omega
 have hw:IntKind.i64.wrap (m:Int)=m:=by rw [IntKind.wrap_i64];omega
 have hneg:¬((m:Int)<0):=by omega
 have hmb:m*i.bytes≤m*8:=Nat.mul_le_mul_left _ hby
 have h48i:¬(281474976710656<(m:Int)*(i.bytes:Int)):=by
  rw [←Int.natCast_mul]
  omega
 rcases hown.2 with ⟨rfl,rfl⟩ | ⟨g,cap,cur,rfl,hbg,hg,hnc,hcm,hcs,htake⟩
 ·omega
 ·by_cases hroom:n+m≤cap
  ·have hst:=run_storeCells_at P g n e news 0 cur w hg (by simp [hl];omega) h1
   simp only [Nat.add_zero] at hst
   have hr:(Builtin.append_ #[t,tn] ty #[.slice (some ⟨g,0,none⟩) n cap,.int k m]).run P w=.ok (.slice (some ⟨g,0,none⟩) (n+m) cap) (w.setRow g (cur.toList.take n++news++cur.toList.drop (n+news.length)).toArray):=by
    by_cases hm0:m=0
    ·subst hm0
     have hn0:news=[]:=List.eq_nil_of_length_eq_zero hl
     subst hn0
     have hw0:IntKind.i64.wrap 0=0:=by decide
     simp [Addr.add_lit] at hst
     simp [Builtin.append_,run_underlying ht,run_underlying htn,sizeOf,typeInfo,zeroValue,hi,hz,hsize,asInt,asIntOf,hw0,Addr.add_lit,hnc,hst]
    ·simp [Builtin.append_,run_underlying ht,run_underlying htn,sizeOf,typeInfo,zeroValue,hi,hz,hsize,asInt,asIntOf,hw,hneg,h48i,hroom,hm0,hZ,Addr.add_lit,hst]
   refine ⟨_,_,hr,⟨by rw [hlen,Nat.mul_one],.inr ⟨g,cap,_,rfl,hbg,setRow_heap w g cur _ e _ hg,hroom,hcm,?_,?_⟩⟩,⟨rfl,rfl,rfl,by simp,fun k _ hk=>setRow_other w g k _ (fun e=>hk (by simp [Value.ownBlock,e]))⟩⟩
   ·simp only [List.size_toArray,List.length_append,List.length_take,List.length_drop,Array.length_toList]
    omega
   ·rw [Nat.mul_one] at htake ⊢
    rw [htake,←hlen]
    exact List.take_left
  ·have holds:∀ j u,xs[j]?=some u→w.cell? ((⟨g,0,none⟩:Addr).add j)=some u:=hown.cells (g:=g) rfl
   have hm0:¬m=0:=by omega
   have h63':¬(9223372036854775807<((n:Int)+(m:Int))):=by omega
   have hfit:=growslice_fits (need:=n+m) (old:=cap) (bytes:=i.bytes) (by omega) (by have:=Nat.mul_le_mul_left (n+m) hby;omega)
   have h48':¬(281474976710656<Builtin.nextslicecap (n+m) cap*i.bytes):=by omega
   have hfo:=run_firstCells_some (P:=P) w.drew 1 n ⟨g,0,none⟩ n cap xs hown.1 (by simpa using holds)
   have hr:(Builtin.append_ #[t,tn] ty #[.slice (some ⟨g,0,none⟩) n cap,.int k m]).run P w=.ok (.slice (some ⟨w.heap.size,0,none⟩) (n+m) (grownCap w (n+m) cap e))
     (w.drew.alloc (.cells (xs.toArray++news.toArray++Builtin.zeroCells (Value.int .i64 0).cells (grownCap w (n+m) cap e-(n+m))) e)):=by
    simp [Builtin.append_,run_underlying ht,run_underlying htn,sizeOf,typeInfo,zeroValue,hi,hz,hsize,asInt,asIntOf,hw,hneg,h48i,hroom,hm0,hZ,h63',h48',Question.forced,hfo,newRow,grownCap]
    congr 2
    apply Array.ext'
    simp [List.append_assoc]
   have hge:=grownCap_ge w (n+m) cap e
   have hcm2:grownCap w (n+m) cap e≤maxLen:=grownCap_le_maxLen w (n+m) cap e (by unfold maxLen;omega)
   refine ⟨_,_,hr,⟨by rw [hlen,Nat.mul_one],.inr ⟨w.heap.size,_,_,rfl,hbase,heap_alloc_new w.drew _,hge,hcm2,?_,?_⟩⟩,⟨rfl,rfl,rfl,by simp,fun j hj _=>heap_alloc_old w.drew _ hj⟩⟩
   ·have hx:=hown.1
    simp only [Array.size_append,List.size_toArray,size_zeroCells,hl,Value.cells]
    simp
    omega
   ·rw [Nat.mul_one]
    simp only [Array.toList_append,List.append_assoc]
    rw [←List.append_assoc,←hlen]
    exact List.take_left
theorem OVI.appZ {w w':World} {B:Nat} {v v':Value} {zs:List Int} {n m:Nat} (h:OVI w B v zs) (hn:zs.length=n) (h2:w'.ownsRow B 3 1 v' (n+m) (zs.map (Value.int .i64)++(List.replicate m (0:Int)).map (Value.int .i64))):OVI w' B v' (zs++List.replicate m 0):=by
 refine ⟨?_,?_⟩
 ·rw [List.length_append,List.length_replicate,hn,List.map_append]
  exact h2
 ·intro z hz
  rcases List.mem_append.1 hz with hz | hz
  ·exact h.2 z hz
  ·have:=List.eq_of_mem_replicate hz
   omega
theorem wpList_append_zer {ops:Array Oper} {rest:List Oper} {o:Oper} {a:Act} {Q:Exit→Act→World→Prop} {w:World} (hgd:o.guard=none) (s x:Operand)
  (ho:o.op=.call { callee:=.builtin .append,args:=#[s,x],argTypes:=#[38,3] })
  (B:Nat) (v:Value) (zs:List Int) (hs:a.eval s=v) (hown:OVI w B v zs) (m:Nat) (hx:a.eval x=.int .i64 (m:Nat)) (hp:0<zs.length) (hb1:zs.length+m≤1000000) (hbase:B≤w.heap.size)
  (h:∀ v' w',OVI w' B v' (zs++List.replicate m 0)→w.grownBy w' v.ownBlock→wpList Tryz.prog ops Q rest (a.put o.dst v') w'):wpList Tryz.prog ops Q (o :: rest) a w:=by
 obtain ⟨i0,hi,hz0,hz1,hz2⟩:=info_parts Tryz.infoI64
 obtain ⟨v',w',hr,h2,h3⟩:=run_append_zer (P:=Tryz.prog) w B 38 3 o.type 3 i0 .i64 .i64 Tryz.underlying38 Tryz.underlying3 hi hz0 hz1 (by rw [hz2];omega) v zs.length hp _ hown.1 m hb1 hbase
 refine wpList_plain hgd fun K hK'=>?_
 unfold Oper.wp execOp
 simp only [ho,resolve,invoke,builtin,Sem.run_bind,Sem.run_pure,Result.andThen_ok,List.map_toArray,List.map_cons,List.map_nil,hs,hx,hr]
 exact hK' _ _ (h v' w' (hown.appZ rfl h2) h3)
theorem OVI.blk_ne {w:World} {B:Nat} {v:Value} {zs:List Int} (h:OVI w B v zs) {Q:Nat} {cur:Array Value} {T:TypeId} (hQ:w.heap[Q]?=some (.cells cur T (0,0))) (hT:T≠3):some Q≠v.ownBlock:=by
 rcases h.1.2 with ⟨rfl,h0⟩ | ⟨g,cap,cur',rfl,hg,hh,_⟩
 ·simp [Value.ownBlock]
 ·simp only [Value.ownBlock,ne_eq,Option.some.injEq]
  rintro rfl
  rw [hQ] at hh
  simp at hh
  exact hT hh.2
theorem grown_blkI {w w':World} {row:Option Nat} (hg:w.grownBy w' row) {Q:Nat} {o:Obj} (hQ:w.heap[Q]?=some o) (hne:some Q≠row):w'.heap[Q]?=some o:=(hg.block Q (Array.getElem?_eq_some_iff.1 hQ).1 hne).trans hQ
theorem OVI.ins {w:World} {B:Nat} {a:Option Addr} {n c:Nat} {zs:List Int} (h:OVI w B (.slice a n c) zs):Ins w a zs:=by
 obtain ⟨a',c',e,hm⟩:=h.mine
 obtain ⟨rfl,-,-⟩:a=a'∧n=zs.length∧c=c':=by simpa using e
 exact hm.byt
theorem OVI.below {w w':World} {B:Nat} {v:Value} {zs:List Int} (h:OVI w B v zs) (hb:Below w.heap.size w w'):OVI w' B v zs:=h.only (Only.ofBelow (S:=fun _=>False) hb nl) (by simp)
end Go.Proofs.YtfeokafkhnbdiaaGreatDoor
namespace Go.Proofs.YtfeokafkhnbdiaaGreatDoor
open Go.RowKit Go.Maps
set_option linter.unusedVariables false
set_option linter.unusedSimpArgs false
def tri (ys:List Int) (p:Nat):Int × Int × Int:=(ys.getD p 0,ys.getD (p+1) 0,ys.getD (p+2) 0)
def lpl (ys:List Int):Nat→Int × Int × Int→List Int
 | 0,_=>[]
 | k+1,q=>if k+3≤ys.length∧q=tri ys k then lpl ys k q++[(k:Int)] else lpl ys k q
theorem lpl_len (ys:List Int) (k:Nat) (q:Int × Int × Int):(lpl ys k q).length≤k:=by
 induction k with
 | zero=>simp [lpl]
 | succ k ih=>
  simp only [lpl]
  split
  ·simp;omega
  ·omega
theorem tri_R {ys:List Int} (hr:∀ z ∈ ys,0≤z∧z≤255) (p:Nat):lkR (tri ys p):=by
 have h:∀ i,0≤ys.getD i 0∧ys.getD i 0≤255:=fun i=>by
  rw [List.getD_eq_getElem?_getD]
  cases he:ys[i]? with
  | none=>simp
  | some z=>exact hr z (List.mem_of_getElem? he)
 exact ⟨h _,h _,h _⟩
theorem historyOf_any (a:Option Addr) (c:Nat) (ys:List Int) (w:World) (hb:Byt w a ys) (hn:ys.length≤64) (hcap:ys.length≤c) :
  Calls Tryz.prog 36 #[.slice a ys.length c] w fun e w'=>∃ R M,e=.returned (.pointer (some ⟨R,0,none⟩))∧w.heap.size≤M∧w.heap.size≤R∧Hst w' R M a ys.length c∧LivL w' M ys.length (lpl ys ys.length)∧Below w.heap.size w w':=by
 have HBY:Hid (Byt w a ys):=hb
 have HT:Hid (∀ p,lkR (tri ys p)):=tri_R hb.1
 have HP1:Hid (∀ k,k+3≤ys.length→∀ q,lpl ys (k+1) q=if q=tri ys k then lpl ys k q++[(k:Int)] else lpl ys k q):=fun k hk q=>by
  simp only [lpl]
  by_cases hq:q=tri ys k
  ·rw [if_pos ⟨hk,hq⟩,if_pos hq]
  ·rw [if_neg (fun h=>hq h.2),if_neg hq]
 have HP0:Hid (∀ k,¬k+3≤ys.length→∀ q,lpl ys k q=lpl ys (k+1) q):=fun k hk q=>by
  simp only [lpl]
  rw [if_neg (fun h=>hk h.1)]
 have HLN:Hid (∀ k q,(lpl ys k q).length≤k):=lpl_len ys
 have HLA:Hid (∀ (k:Nat) (W:World),k≤ys.length→Below w.heap.size w W→Calls Tryz.prog 60 #[.slice a ys.length c,.int .i64 k] W fun e w'=>(∃ x y z:Int,e=.returned (.tuple #[.agg #[.int .u8 x,.int .u8 y,.int .u8 z],.bool (decide (k+3≤ys.length))])∧LtA ys k x y z)∧Below W.heap.size W w'):=fun k W hk hW=>lettersAt_any a c ys k W (hb.below hW nl) hn hk hcap
 clear hb hcap
 generalize hL:ys.length=n at *
 have HL:Hid (ys.length=n∧True):=⟨hL,trivial⟩
 clear hL
 have hmm:=@run_makeMap Tryz.prog
 go_enter Tryz.func36,Tryz.ntmps36
 go_wp2
 clear hmm
 have HM0:Hid (LivL ((w.alloc (.map #[] 0)).alloc (Obj.cells #[.slice a n c,.map (some w.heap.size)] 95)) w.heap.size 0 (lpl ys 0)):=((LivL.made w).below ((Below.refl _ _).alloc nl _)).congr (fun q=>rfl)
 have HH0:Hid (Hst ((w.alloc (.map #[] 0)).alloc (Obj.cells #[.slice a n c,.map (some w.heap.size)] 95)) (w.heap.size+1) w.heap.size a n c):=⟨by
  have:=heap_alloc_new (w.alloc (.map #[] 0)) (Obj.cells #[.slice a n c,.map (some w.heap.size)] 95)
  rw [World.size_alloc] at this
  exact this⟩
 have HB0:Hid (Below w.heap.size w ((w.alloc (.map #[] 0)).alloc (Obj.cells #[.slice a n c,.map (some w.heap.size)] 95))):=((Below.refl _ _).alloc nl _).alloc (by simp) _
 go_loopw [13] (fun i W=>∃ k:Nat,k≤n∧i=.int .i64 k∧LivL W w.heap.size k (lpl ys k)∧Hst W (w.heap.size+1) w.heap.size a n c∧Below w.heap.size w W) (fun i _=>n-(intOf i).toNat)
 case atStart=>exact ⟨0,by omega,rfl,HM0.out,HH0.out,HB0.out⟩
 case round=>
  obtain ⟨k,hk,rfl,hm,hh,hbel⟩:=hrel
  clear HM0 HH0 HB0
  have HW:Hid (LivL wr w.heap.size k (lpl ys k)∧Hst wr (w.heap.size+1) w.heap.size a n c∧Below w.heap.size w wr):=⟨hm,hh,hbel⟩
  have hRl:=hh.lt
  have hsz:=hbel.size
  clear hm hh hbel
  by_cases hlt:k<n
  ·have hlt2:(k:Int)<(n:Int):=by omega
   have HLA1:=HLA.out k wr (by omega) HW.out.2.2
   by_cases h3:k+3≤n
   ·rw [decide_eq_true h3] at HLA1
    go_wp2_with fail
    refine HLA1.mono ?_
    clear HLA1
    rintro e w1 ⟨⟨x,y,z,rfl,hla⟩,hb1⟩
    go_wp2_with fail
    have hq:(x,y,z)=tri ys k:=by
     obtain ⟨e1,e2,e3⟩:=hla.1 (by rw [HL.out.1];exact h3)
     rw [e1,e2,e3]
     rfl
    have HQ:Hid ((x,y,z)=tri ys k∧lkR (x,y,z)):=⟨hq,by rw [hq];exact HT.out k⟩
    have HV:Hid (LivL (w1.alloc (Obj.cells #[.int .u8 x,.int .u8 y,.int .u8 z] 97)) w.heap.size k (lpl ys k)∧Hst (w1.alloc (Obj.cells #[.int .u8 x,.int .u8 y,.int .u8 z] 97)) (w.heap.size+1) w.heap.size a n c∧Below w.heap.size w (w1.alloc (Obj.cells #[.int .u8 x,.int .u8 y,.int .u8 z] 97))):=
     ⟨(HW.out.1.below hb1).below ((Below.refl _ _).alloc nl _),(HW.out.2.1.below hb1).below ((Below.refl _ _).alloc nl _),(HW.out.2.2.trans (hb1.mono hsz)).alloc (by have:=hb1.size;omega) _⟩
    have HBK:Hid ((w1.alloc (Obj.cells #[.int .u8 x,.int .u8 y,.int .u8 z] 97)).heap[w1.heap.size]?=some (.cells #[.int .u8 x,.int .u8 y,.int .u8 z] 97 (0,0))∧w1.heap.size<(w1.alloc (Obj.cells #[.int .u8 x,.int .u8 y,.int .u8 z] 97)).heap.size):=⟨heap_alloc_new w1 _,by simp⟩
    have hMB:w.heap.size<w1.heap.size:=by have:=HW.out.1.lt;have:=hb1.size;omega
    clear hb1 hla hq
    generalize w1.heap.size=B at *
    generalize w1.alloc (Obj.cells #[.int .u8 x,.int .u8 y,.int .u8 z] 97)=V at *
    have a1:=HV.out.2.1.c1
    have b0:V.cell? ⟨B,0,none⟩=some (.int .u8 x):=blk_cellI HBK.out.1 rfl
    have b1:V.cell? ⟨B,1,none⟩=some (.int .u8 y):=blk_cellI HBK.out.1 rfl
    have b2:V.cell? ⟨B,2,none⟩=some (.int .u8 z):=blk_cellI HBK.out.1 rfl
    have hVd:Below V.heap.size V V.drew:=⟨rfl,rfl,rfl,Nat.le_refl _,fun _ _=>rfl⟩
    have hlx:=HLN.out k (x,y,z)
    have hVl:=HV.out.1.lt
    have hRV:=HV.out.2.1.lt
    have hBV:=HBK.out.2
    refine wp_region_cut (S:=fun W=>W.cell? ⟨w.heap.size+1,1,none⟩=some (.map (some w.heap.size))∧W.cell? ⟨B,0,none⟩=some (.int .u8 x)∧W.cell? ⟨B,1,none⟩=some (.int .u8 y)∧W.cell? ⟨B,2,none⟩=some (.int .u8 z)) 11 (by kernel_rfl) (by kernel_rfl) (by exact ⟨a1,b0,b1,b2⟩) (fun hHeld=>?_)
    refine tk 0 (v:=?_) ?_ ?_
    rotate_left
    ·(intro w hSw;(try dsimp only at hSw);go_simp;try (with_reducible rfl))
    try simp only [tkS]
    refine tk 1 (v:=?_) ?_ ?_
    rotate_left
    ·(intro w hSw;(try dsimp only at hSw);go_simp;try (with_reducible rfl))
    try simp only [tkS]
    refine tk 2 (v:=?_) ?_ ?_
    rotate_left
    ·(intro w hSw;(try dsimp only at hSw);go_simp;try (with_reducible rfl))
    try simp only [tkS]
    refine tk 3 (v:=?_) ?_ ?_
    rotate_left
    ·(intro w hSw;(try dsimp only at hSw);go_simp;try (with_reducible rfl))
    try simp only [tkS]
    refine tk 4 (v:=?_) ?_ ?_
    rotate_left
    ·(intro w hSw;(try dsimp only at hSw);go_simp;try (with_reducible rfl))
    try simp only [tkS]
    refine tk 5 (v:=?_) ?_ ?_
    rotate_left
    ·(intro w hSw;(try dsimp only at hSw);go_simp;try (with_reducible rfl))
    try simp only [tkS]
    refine wpAnyH_ready (rs:=[6]) (by kernel_rfl) (by simp) ?_
    refine AllReadyH.cons rfl (fun K hK=>?_) AllReadyH.nil
    go_simp
    refine hK.out _ _ (by exact ⟨keepA _ hRV a1,keepA _ hBV b0,keepA _ hBV b1,keepA _ hBV b2⟩) (fun hHeld=>?_)
    clear hK K
    try simp only [tkS]
    refine wpAnyH_ready (rs:=[7]) (by kernel_rfl) (by simp) ?_
    refine AllReadyH.cons rfl (fun K hK=>?_) AllReadyH.nil
    have hVa:Below V.heap.size V (V.alloc (Obj.cells #[.int .i64 k] 3)).drew:=(((Below.refl _ _).alloc nl _)).drew
    obtain ⟨v,st,w0,hme,hg0,hs0,hov,hlen,hput⟩:=(HV.out.1.below hVa).entry (by omega) (x,y,z) HQ.out.2
    obtain ⟨va,vc,rfl⟩:=hov.form
    have hme2:Sem.run Tryz.prog (Instr.mapEntry 93 (.map (some w.heap.size)) (.agg #[.int .u8 x,.int .u8 y,.int .u8 z])) (V.alloc (Obj.cells #[.int .i64 k] 3)).drew=.ok (.tuple #[.slice va (lpl ys k (x,y,z)).length vc,.int .i64 st]) w0:=hme
    have hX0:(V.alloc (Obj.cells #[.int .i64 k] 3)).drew.heap[V.heap.size]?=some (.cells #[.int .i64 k] 3 (0,0)):=heap_alloc_new V _
    have hXM:some V.heap.size≠some w.heap.size:=by simp;omega
    have HX1:Hid (w0.heap[V.heap.size]?=some (.cells #[.int .i64 k] 3 (0,0))):=grown_blkI hg0 hX0 hXM
    have HR1:Hid (w0.heap[w.heap.size+1]?=some (.cells #[.slice a n c,.map (some w.heap.size)] 95 (0,0))):=grown_blkI hg0 ((hVa.block _ hRV).trans HV.out.2.1.blk) (by simp)
    have HB1:Hid (w0.heap[B]?=some (.cells #[.int .u8 x,.int .u8 y,.int .u8 z] 97 (0,0))):=grown_blkI hg0 ((hVa.block _ hBV).trans HBK.out.1) (by simp;omega)
    have HPUT:Hid _:=hput
    have HBW:Hid (Below w.heap.size w w0):=(HV.out.2.2.trans (hVa.mono HV.out.2.2.size)).grown hg0 (by have:=HV.out.2.2.size;simp;omega) (fun j hj=>by cases hj;exact Nat.le_refl _)
    have HOV:Hid (OVI w0 (w.heap.size+1) (.slice va (lpl ys k (x,y,z)).length vc) (lpl ys k (x,y,z))):=hov
    have HS0:Hid (w0.heap.size=(V.alloc (Obj.cells #[.int .i64 k] 3)).drew.heap.size):=hs0
    clear hme hput hov hX0 hXM hg0 hs0
    go_simp
    refine hK.out _ _ (by exact ⟨blk_cellI HR1.out rfl,blk_cellI HB1.out rfl,blk_cellI HB1.out rfl,blk_cellI HB1.out rfl⟩) (fun hHeld=>?_)
    clear hK K hme2
    try simp only [tkS]
    refine tk 8 (v:=?_) ?_ ?_
    rotate_left
    ·(intro w hSw;(try dsimp only at hSw);go_simp;try (with_reducible rfl))
    try simp only [tkS]
    refine tk 10 (v:=?_) ?_ ?_
    rotate_left
    ·(intro w hSw;(try dsimp only at hSw);go_simp;try (with_reducible rfl))
    try simp only [tkS]
    refine wpAnyH_ready (rs:=[9]) (by kernel_rfl) (by simp) ?_
    refine AllReadyH.cons rfl (fun K hK=>?_) AllReadyH.nil
    refine wanted_step8 rfl (wp_append_i1 (.tmp 28) (.tmp 30) rfl (w.heap.size+1) (.slice va (lpl ys k (x,y,z)).length vc) (lpl ys k (x,y,z)) (by simp [Act.eval]) HOV.out V.heap.size (k:Int) (by simp [Act.eval]) (blk_cellI HX1.out rfl) (by omega) (by omega) (by omega) (by rw [HS0.out];simp;omega) ?_)
    intro v1 w2 hov1 hg1 hat1
    obtain ⟨w3,hr3,hl3,hg3⟩:=HPUT.out w2 v1 k hg1 hov1 (hat1.imp id (fun h=>⟨_,h,by rw [HS0.out];exact Nat.le_refl _⟩))
    obtain ⟨va1,vc1,hv1⟩:=hov1.form
    have hln:(lpl ys k (x,y,z)++[(k:Int)]).length=(lpl ys k (x,y,z)).length+1:=by simp
    rw [hln] at hv1
    clear hln
    subst hv1
    have A1:=grown_blkI hg1 HR1.out (HOV.out.blk_ne HR1.out (by decide))
    have B1:=grown_blkI hg1 HB1.out (HOV.out.blk_ne HB1.out (by decide))
    have HEND:Hid (LivL w3 w.heap.size (k+1) (lpl ys (k+1))∧Hst w3 (w.heap.size+1) w.heap.size a n c∧Below w.heap.size w w3):=by
     refine ⟨hl3.congr fun q=>?_,⟨grown_blkI hg3 A1 (by simp)⟩,HBW.out.trans (set_below hg1 hg3 HBW.out.size HOV.out)⟩
     rw [HP1.out k h3 q]
     rw [←HQ.out.1]
     by_cases hq:q=(x,y,z)
     ·rw [if_pos hq,if_pos hq,hq]
     ·rw [if_neg hq,if_neg hq]
    have hr3':Sem.run Tryz.prog (Instr.entryStore 93 (.map (some w.heap.size)) (.int .i64 st) (.slice va1 ((lpl ys k (x,y,z)).length+1) vc1)) w2=.ok () w3:=hr3
    refine hK.out _ _ (by exact ⟨blk_cellI A1 rfl,blk_cellI B1 rfl,blk_cellI B1 rfl,blk_cellI B1 rfl⟩) (fun hHeld=>?_)
    clear hK K
    try simp only [tkS]
    refine wpAnyH_done (by kernel_rfl) ?_ _
    simp only [cutQ,List.drop_succ_cons,List.drop_zero]
    clear hHeld hl3 hg3 hg1 hov1 hat1 hr3 A1 B1
    go_wp2
    go_roundw
    case rel=>exact ⟨k+1,by omega,by go_num,HEND.out.1,HEND.out.2.1,HEND.out.2.2⟩
    case measure=>simp [intOf];omega
   ·rw [decide_eq_false h3] at HLA1
    go_wp2_with fail
    refine HLA1.mono ?_
    clear HLA1
    rintro e w1 ⟨⟨x,y,z,rfl,hla⟩,hb1⟩
    have HW1:Hid (LivL w1 w.heap.size (k+1) (lpl ys (k+1))∧Hst w1 (w.heap.size+1) w.heap.size a n c∧Below w.heap.size w w1):=⟨((HW.out.1.below hb1).congr (HP0.out k h3)).mono (by omega),HW.out.2.1.below hb1,HW.out.2.2.trans (hb1.mono hsz)⟩
    clear hb1
    go_wp2
    go_roundw
    case rel=>exact ⟨k+1,by omega,by go_num,HW1.out.1.below ((Below.refl _ _).alloc nl _),HW1.out.2.1.below ((Below.refl _ _).alloc nl _),HW1.out.2.2.alloc HW1.out.2.2.size _⟩
    case measure=>simp [intOf];omega
  ·have hkn:k=n:=by omega
   subst hkn
   have hlt2:¬(k:Int)<(k:Int):=by omega
   go_wp2
   go_ret
   exact ⟨_,rfl,_,Nat.le_refl _,Nat.le_succ _,HW.out.2.1,HW.out.1,HW.out.2.2⟩
end Go.Proofs.YtfeokafkhnbdiaaGreatDoor
