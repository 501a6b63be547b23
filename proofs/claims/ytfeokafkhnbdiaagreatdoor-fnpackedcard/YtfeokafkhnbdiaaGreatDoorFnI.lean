/- Lemmas on the way. -/
import Derived.Test.YtfeokafkhnbdiaaGreatDoorLzP
import Derived.Deep.RegionWith
import Derived.Test.YtfeokafkhnbdiaaGreatDoorSqEq
import Derived.Lib.SliceRun
import Derived.Test.YtfeokafkhnbdiaaGreatDoorLzL
import Derived.Test.YtfeokafkhnbdiaaGreatDoorPcN
import Derived.Deep.RegionHeld3
set_option maxRecDepth 20000
set_option maxHeartbeats 16000000
namespace Go.Proofs.YtfeokafkhnbdiaaGreatDoor
open Go.RowKit Go.Maps
set_option linter.unusedVariables false
set_option linter.unusedSimpArgs false
def ofr (ys:List Int) (at_ p:Nat) (b:Nat × Nat):Nat × Nat:=if b.1≤alk ys p at_ then (alk ys p at_,at_-p) else b
theorem offer_any (R M P Q T:Nat) (a:Option Addr) (c:Nat) (ys:List Int) (p q x y:Nat) (w:World) (hH:Hst w R M a ys.length c) (hb:Byt w a ys) (hn:ys.length≤64) (hp:p<q) (hq:q<ys.length)
  (hP:w.cell? ⟨P,0,none⟩=some (.pointer (some ⟨R,0,none⟩))) (hQ:w.cell? ⟨Q,0,none⟩=some (.int .i64 q)) (hT:w.heap[T]?=some (.cells #[.int .i64 x,.int .i64 y] 60 (0,0))) (hPl:P<w.heap.size) (hQl:Q<w.heap.size) (hQT:Q≠T) :
  Calls Tryz.prog 61 #[.int .i64 p,.pointer (some ⟨P,0,none⟩),.pointer (some ⟨Q,0,none⟩),.pointer (some ⟨T,0,none⟩)] w fun e w'=>
   e=.returned (.tuple #[])∧w'.heap[T]?=some (.cells #[.int .i64 (ofr ys q p (x,y)).1,.int .i64 (ofr ys q p (x,y)).2] 60 (0,0))∧Only (fun k=>k=T) w w':=by
 have HAF:Hid (∀ W,Below w.heap.size w W→Calls Tryz.prog 62 #[.pointer (some ⟨R,0,none⟩),.int .i64 p,.int .i64 q] W fun e w'=>e=.returned (.int .i64 (alk ys p q))∧Below W.heap.size W w'):=fun W hW=>alikeFrom_any R M a c ys p q W (hH.below hW) (hb.below hW nl) hn hp hq
 have hTl:T<w.heap.size:=(Array.getElem?_eq_some_iff.1 hT).1
 have HT:Hid (w.heap[T]?=some (.cells #[.int .i64 x,.int .i64 y] 60 (0,0))):=hT
 have HO:Hid (ofr ys q p (x,y)=if x≤alk ys p q then (alk ys p q,q-p) else (x,y)):=rfl
 have hal:=alk_le ys p q
 clear hH hb hT
 generalize alk ys p q=m at *
 have hm64:m≤64:=by omega
 clear hal
 have hAF:=HAF.out w (Below.refl _ _)
 go_enter Tryz.func61,Tryz.ntmps61
 go_wp2_with fail
 refine hAF.mono ?_
 clear hAF HAF
 rintro e w1 ⟨rfl,hb1⟩
 have HB1:Hid (Below w.heap.size w w1):=hb1
 have HT1:Hid (w1.heap[T]?=some (.cells #[.int .i64 x,.int .i64 y] 60 (0,0))):=(hb1.block T hTl).trans HT.out
 have t0:w1.cell? ⟨T,0,none⟩=some (.int .i64 x):=blk_cellI HT1.out rfl
 have t1:w1.cell? ⟨T,1,none⟩=some (.int .i64 y):=blk_cellI HT1.out rfl
 have q1:=keep hb1 hQl hQ
 have f0:=frozen_of_row w1 T 0 _ _ HT1.out
 have f1:=frozen_of_row w1 T 1 _ _ HT1.out
 clear hb1
 by_cases hc:x≤m
 ·have hc2:(x:Int)≤(m:Int):=by omega
  have HO1:Hid (ofr ys q p (x,y)=(m,q-p)):=by unfold Hid;rw [HO.out,if_pos hc]
  go_wp2
  go_end0
  refine ⟨rfl,?_,((Only.ofBelow (S:=fun k=>k=T) HB1.out nl).setCell (p:=⟨T,0,none⟩) (.inl rfl) _).setCell (p:=⟨T,1,none⟩) (.inl rfl) _⟩
  rw [HO1.out,heap_setCell_same _ T 1 _ _ _ (heap_setCell_same _ T 0 _ _ _ HT1.out)]
  simp
  omega
 ·have hc2:¬(x:Int)≤(m:Int):=by omega
  have HO1:Hid (ofr ys q p (x,y)=(x,y)):=by unfold Hid;rw [HO.out,if_neg hc]
  go_wp2
  go_end0
  rw [HO1.out]
  exact ⟨rfl,HT1.out,Only.ofBelow HB1.out nl⟩
end Go.Proofs.YtfeokafkhnbdiaaGreatDoor
namespace Go.Proofs.YtfeokafkhnbdiaaGreatDoor
open Go.RowKit
set_option linter.unusedVariables false
def ofrs (ys:List Int) (q:Nat) (l:List Int):Nat × Nat:=l.foldl (fun b p=>ofr ys q p.toNat b) (0,0)
theorem ofrs_snoc (ys:List Int) (q:Nat) (l:List Int) (p:Nat):ofrs ys q (l++[(p:Int)])=ofr ys q p (ofrs ys q l):=by
 simp [ofrs]
theorem lzP_short (ys:List Int) (q:Nat) (h:¬q+3≤ys.length):∀ k,lzP ys q k=(0,0)
 | 0=>rfl
 | k+1=>by
  have:=alk_le ys k q
  rw [lzP,if_neg (by omega)]
  exact lzP_short ys q h k
theorem ofrs_lzP (ys:List Int) (q:Nat) (h:q+3≤ys.length):∀ k,k≤q→ofrs ys q (lpl ys k (tri ys q))=lzP ys q k
 | 0,_=>rfl
 | k+1,hk=>by
  have ih:=ofrs_lzP ys q h k (by omega)
  have h3:=alk_three ys k q h
  have ht:tri ys q=tri ys k↔3≤alk ys k q:=by
   rw [h3]
   simp only [tri,Prod.mk.injEq]
   constructor
   ·rintro ⟨a,b,c⟩;exact ⟨a.symm,b.symm,c.symm⟩
   ·rintro ⟨a,b,c⟩;exact ⟨a.symm,b.symm,c.symm⟩
  simp only [lpl,lzP]
  by_cases hc:tri ys q=tri ys k
  ·rw [if_pos ⟨by omega,hc⟩,ofrs_snoc,ih]
   unfold ofr
   have h4:=ht.1 hc
   by_cases hd:(lzP ys q k).1≤alk ys k q
   ·rw [if_pos hd,if_pos ⟨h4,hd⟩]
   ·rw [if_neg hd,if_neg (fun h=>hd h.2)]
  ·rw [if_neg (fun h=>hc h.2),if_neg (fun h=>hc (ht.2 h.1)),ih]
theorem lpl_mem (ys:List Int) (k:Nat) (q:Int × Int × Int):∀ z ∈ lpl ys k q,0≤z∧z<k:=by
 induction k with
 | zero=>simp [lpl]
 | succ k ih=>
  intro z hz
  simp only [lpl] at hz
  split at hz
  ·rcases List.mem_append.1 hz with hz | hz
   ·have:=ih z hz;omega
   ·simp at hz;omega
  ·have:=ih z hz;omega
theorem lpl_app (ys:List Int) (q:Nat) (Q:Int × Int × Int):∀ d,∃ r,lpl ys (q+d) Q=lpl ys q Q++r∧∀ z ∈ r,(q:Int)≤z
 | 0=>⟨[],by simp,by simp⟩
 | d+1=>by
  obtain ⟨r,h1,h2⟩:=lpl_app ys q Q d
  rw [←Nat.add_assoc]
  simp only [lpl]
  split
  ·refine ⟨r++[((q+d:Nat):Int)],by rw [h1,List.append_assoc],fun z hz=>?_⟩
   rcases List.mem_append.1 hz with hz | hz
   ·exact h2 z hz
   ·simp at hz;omega
  ·exact ⟨r,h1,h2⟩
theorem lpl_parts (ys:List Int) (q:Nat) (hq:q+3≤ys.length):∃ l r:List Int,lpl ys ys.length (tri ys q)=l++r∧1≤r.length∧(∀ z ∈ l,0≤z∧z<q)∧(∀ z ∈ r,(q:Int)≤z)∧ofrs ys q l=lzP ys q q:=by
 obtain ⟨r,h1,h2⟩:=lpl_app ys (q+1) (tri ys q) (ys.length-(q+1))
 rw [show q+1+(ys.length-(q+1))=ys.length by omega] at h1
 have h3:lpl ys (q+1) (tri ys q)=lpl ys q (tri ys q)++[(q:Int)]:=by simp only [lpl];rw [if_pos ⟨hq,trivial⟩]
 refine ⟨lpl ys q (tri ys q),(q:Int) :: r,by rw [h1,h3,List.append_assoc];rfl,by simp,lpl_mem ys q _,fun z hz=>?_,ofrs_lzP ys q hq q nl⟩
 ·rcases List.mem_cons.1 hz with hz | hz
  ·omega
  ·have:=h2 z hz;omega
end Go.Proofs.YtfeokafkhnbdiaaGreatDoor
namespace Go.Proofs.YtfeokafkhnbdiaaGreatDoor
open Go.RowKit Go.Maps
set_option linter.unusedVariables false
set_option linter.unusedSimpArgs false
theorem alloc4 (w:World) (o0 o1 o2 o3:Obj):((((w.alloc o0).alloc o1).alloc o2).alloc o3).heap[w.heap.size]?=some o0∧((((w.alloc o0).alloc o1).alloc o2).alloc o3).heap[w.heap.size+1]?=some o1∧((((w.alloc o0).alloc o1).alloc o2).alloc o3).heap[w.heap.size+1+1]?=some o2∧((((w.alloc o0).alloc o1).alloc o2).alloc o3).heap[w.heap.size+1+1+1]?=some o3 ∧
  Below w.heap.size w ((((w.alloc o0).alloc o1).alloc o2).alloc o3)∧((((w.alloc o0).alloc o1).alloc o2).alloc o3).heap.size=w.heap.size+1+1+1+1:=by
 have h0:=heap_alloc_new w o0
 have h1:=heap_alloc_new (w.alloc o0) o1
 have h2:=heap_alloc_new ((w.alloc o0).alloc o1) o2
 have h3:=heap_alloc_new (((w.alloc o0).alloc o1).alloc o2) o3
 simp only [World.size_alloc] at h1 h2 h3
 refine ⟨?_,?_,?_,h3,(((((Below.refl _ _).alloc nl _).alloc (by simp) _).alloc (by simp;try omega) _).alloc (by simp;try omega) _),by simp⟩
 ·exact (Below.heap_alloc _ _ _ (by simp;try omega)).trans ((Below.heap_alloc _ _ _ (by simp;try omega)).trans ((Below.heap_alloc _ _ _ (by simp)).trans h0))
 ·exact (Below.heap_alloc _ _ _ (by simp;try omega)).trans ((Below.heap_alloc _ _ _ (by simp)).trans h1)
 ·exact (Below.heap_alloc _ _ _ (by simp)).trans h2
theorem OVI.off {w w':World} {B T:Nat} {v:Value} {zs:List Int} {cur:Array Value} {TT:TypeId} (h:OVI w B v zs) (ho:Only (fun b=>b=T) w w') (hT:w.heap[T]?=some (.cells cur TT (0,0))) (hne:TT≠3):OVI w' B v zs:=by
 have hg:w.grownBy w' (some T):=⟨ho.os,ho.tape,ho.output,ho.size,fun i hi hn=>ho.block i hi (fun e=>hn (by rw [e]))⟩
 exact ⟨h.1.kept hg (.inr fun e=>h.blk_ne hT hne e.symm),h.2⟩
theorem ofr_state {ys:List Int} {q:Nat} {l:List Int} {k p x y:Nat} (hk:k<l.length) (hp:l.getD k 0=(p:Int)) (hxy:ofrs ys q (l.take k)=(x,y)):ofrs ys q (l.take (k+1))=ofr ys q p (x,y):=by
 have h1:l.take (k+1)=l.take k++[(p:Int)]:=by
  rw [←hp,List.take_succ_eq_append_getElem hk]
  simp [List.getD_eq_getElem?_getD,hk]
 rw [h1,ofrs_snoc,hxy]
theorem longest_any (R M:Nat) (a:Option Addr) (c:Nat) (ys:List Int) (q:Nat) (w:World) (hH:Hst w R M a ys.length c) (hL:LivL w M ys.length (lpl ys ys.length)) (hb:Byt w a ys) (hn:ys.length≤64) (hq:q≤ys.length) (hcap:ys.length≤c) :
  Calls Tryz.prog 37 #[.pointer (some ⟨R,0,none⟩),.int .i64 q] w fun e w'=>e=.returned (.agg #[.int .i64 (lzP ys q q).1,.int .i64 (lzP ys q q).2])∧Below w.heap.size w w':=by
 have HH:Hid (Hst w R M a ys.length c∧LivL w M ys.length (lpl ys ys.length)∧Byt w a ys):=⟨hH,hL,hb⟩
 have HLA:Hid (∀ (W:World),Below w.heap.size w W→Calls Tryz.prog 60 #[.slice a ys.length c,.int .i64 q] W fun e w'=>(∃ x y z:Int,e=.returned (.tuple #[.agg #[.int .u8 x,.int .u8 y,.int .u8 z],.bool (decide (q+3≤ys.length))])∧LtA ys q x y z)∧Below W.heap.size W w'):=fun W hW=>lettersAt_any a c ys q W (hb.below hW nl) hn hq hcap
 have HSH:Hid (¬q+3≤ys.length→lzP ys q q=(0,0)):=fun h=>lzP_short ys q h q
 have HPA:Hid (q+3≤ys.length→∃ l r:List Int,lpl ys ys.length (tri ys q)=l++r∧1≤r.length∧(∀ z ∈ l,0≤z∧z<q)∧(∀ z ∈ r,(q:Int)≤z)∧ofrs ys q l=lzP ys q q):=lpl_parts ys q
 have HTR:Hid (lkR (tri ys q)):=tri_R hb.1 q
 have HOF:Hid (∀ (P Q T:Nat) (p x y:Nat) (W:World),Below w.heap.size w W→p<q→q<ys.length→W.cell? ⟨P,0,none⟩=some (.pointer (some ⟨R,0,none⟩))→W.cell? ⟨Q,0,none⟩=some (.int .i64 q)→W.heap[T]?=some (.cells #[.int .i64 x,.int .i64 y] 60 (0,0))→P<W.heap.size→Q<W.heap.size→Q≠T →
   Calls Tryz.prog 61 #[.int .i64 p,.pointer (some ⟨P,0,none⟩),.pointer (some ⟨Q,0,none⟩),.pointer (some ⟨T,0,none⟩)] W fun e w'=>
   e=.returned (.tuple #[])∧w'.heap[T]?=some (.cells #[.int .i64 (ofr ys q p (x,y)).1,.int .i64 (ofr ys q p (x,y)).2] 60 (0,0))∧Only (fun k=>k=T) W w'):=fun P Q T p x y W hW h1 h2 h3 h4 h5 h6 h7 h8=>offer_any R M P Q T a c ys p q x y W (hH.below hW) (hb.below hW nl) hn h1 h2 h3 h4 h5 h6 h7 h8
 have r0:=hH.c0
 have r1:=hH.c1
 have hRl:=hH.lt
 clear hb hH hL hcap
 generalize hLL:ys.length=n at *
 have HL:Hid (ys.length=n∧True):=⟨hLL,trivial⟩
 clear hLL
 go_enter Tryz.func37,Tryz.ntmps37
 go_wp2_with fail
 have HV:Hid _:=alloc4 w (Obj.cells #[.pointer (some { block:=R,off:=0 })] 57) (Obj.cells #[.int .i64 q] 3) (Obj.cells #[.int .i64 0,.int .i64 0] 60) (Obj.cells #[.int .i64 0,.int .i64 0] 60)
 generalize ((((w.alloc (Obj.cells #[.pointer (some { block:=R,off:=0 })] 57)).alloc (Obj.cells #[.int .i64 q] 3)).alloc (Obj.cells #[.int .i64 0,.int .i64 0] 60)).alloc (Obj.cells #[.int .i64 0,.int .i64 0] 60))=V at *
 obtain ⟨p0,hP⟩:∃ P,P=w.heap.size:=⟨_,rfl⟩
 obtain ⟨p1,hQ⟩:∃ P,P=w.heap.size+1:=⟨_,rfl⟩
 obtain ⟨p2,hA⟩:∃ P,P=w.heap.size+1+1:=⟨_,rfl⟩
 obtain ⟨p3,hT⟩:∃ P,P=w.heap.size+1+1+1:=⟨_,rfl⟩
 rw [←hT,←hA,←hQ] at HV ⊢
 have HPS:Hid (p0=w.heap.size∧p1=w.heap.size+1∧p2=w.heap.size+1+1∧p3=w.heap.size+1+1+1∧V.heap.size=w.heap.size+1+1+1+1):=⟨hP,hQ,hA,hT,by rw [HV.out.2.2.2.2.2,hT]⟩
 rw [←hP] at HV ⊢
 have v0:V.cell? ⟨p0,0,none⟩=some (.pointer (some ⟨R,0,none⟩)):=blk_cellI HV.out.1 rfl
 have v1:V.cell? ⟨p1,0,none⟩=some (.int .i64 q):=blk_cellI HV.out.2.1 rfl
 have hp0:p0<V.heap.size:=(Array.getElem?_eq_some_iff.1 HV.out.1).1
 have hp1:p1<V.heap.size:=(Array.getElem?_eq_some_iff.1 HV.out.2.1).1
 have hRV:R<V.heap.size:=by omega
 have HBV:Hid (Below w.heap.size w V):=by have:=HV.out.2.2.2.2.1;rw [hP] at this;exact this
 have rv:=keep HBV.out hRl r0
 have hVd:Below V.heap.size V V.drew:=⟨rfl,rfl,rfl,Nat.le_refl _,fun _ _=>rfl⟩
 clear hP hQ hA hT r0 r1
 refine wp_region_cut (S:=fun W=>W.cell? ⟨p0,0,none⟩=some (.pointer (some ⟨R,0,none⟩))∧W.cell? ⟨R,0,none⟩=some (.slice a n c)∧W.cell? ⟨p1,0,none⟩=some (.int .i64 q)) 12 (by kernel_rfl) (by kernel_rfl) (by exact ⟨v0,rv,v1⟩) (fun hHeld=>?_)
 refine tk 0 (v:=?_) ?_ ?_
 rotate_left
 ·(intro w hSw;(try dsimp only at hSw);go_simp;try (with_reducible rfl))
 try simp only [tkS]
 refine tk 1 (v:=?_) ?_ ?_
 rotate_left
 ·(intro w hSw;(try dsimp only at hSw);go_simp;try (with_reducible rfl))
 try simp only [tkS]
 refine tk 2 (v:=?_) ?_ ?_
 rotate_left
 ·(intro w hSw;(try dsimp only at hSw);go_simp;try (with_reducible rfl))
 try simp only [tkS]
 refine tk 3 (v:=?_) ?_ ?_
 rotate_left
 ·(intro w hSw;(try dsimp only at hSw);go_simp;try (with_reducible rfl))
 try simp only [tkS]
 refine tk 4 (v:=?_) ?_ ?_
 rotate_left
 ·(intro w hSw;(try dsimp only at hSw);go_simp;try (with_reducible rfl))
 try simp only [tkS]
 refine wpAnyH_ready (rs:=[5,9]) (by kernel_rfl) (by simp) ?_
 refine AllReadyH.cons rfl (fun K hK=>?_) (AllReadyH.cons rfl (fun K hK=>?_) AllReadyH.nil)
 focus
  have HC:=HLA.out V.drew (HBV.out.trans (hVd.mono HBV.out.size))
  go_simp
  refine HC.mono ?_
  clear HC
  rintro e w1 ⟨⟨x,y,z,rfl,hla⟩,hb1⟩
  have hB1:Below V.heap.size V w1:=hVd.trans (hb1.mono hVd.size)
  dsimp only
  refine hK.out _ _ (by exact ⟨keep hB1 hp0 v0,keep hB1 hRV rv,keep hB1 hp1 v1⟩) (fun hHeld=>?_)
  clear hK K
  try simp only [tkS]
  refine tk 6 (v:=?_) ?_ ?_
  rotate_left
  ·(intro w hSw;(try dsimp only at hSw);go_simp;try (with_reducible rfl))
  try simp only [tkS]
  refine tk 7 (v:=?_) ?_ ?_
  rotate_left
  ·(intro w hSw;(try dsimp only at hSw);go_simp;try (with_reducible rfl))
  try simp only [tkS]
  refine tk 8 (v:=?_) ?_ ?_
  rotate_left
  ·(intro w hSw;(try dsimp only at hSw);go_simp;try (with_reducible rfl))
  try simp only [tkS]
  refine wpAnyH_ready (rs:=[9]) (by kernel_rfl) (by simp) ?_
  refine AllReadyH.cons rfl (fun K hK=>?_) AllReadyH.nil
  have hA1:Below V.heap.size V (w1.alloc (Obj.cells #[.int .u8 0,.int .u8 0,.int .u8 0] 97)):=hB1.alloc hB1.size _
  have hn1:=heap_alloc_new w1 (Obj.cells #[.int .u8 0,.int .u8 0,.int .u8 0] 97)
  go_simp
  refine hK.out _ _ (by exact ⟨keep hA1 hp0 v0,keep hA1 hRV rv,keep hA1 hp1 v1⟩) (fun hHeld=>?_)
  clear hK K
  have e0:=blk_cellI (j:=0) hn1 rfl
  have e1:=blk_cellI (j:=1) hn1 rfl
  have e2:=blk_cellI (j:=2) hn1 rfl
  have f0:=frozen_of_row _ _ 0 _ _ hn1
  have f1:=frozen_of_row _ _ 1 _ _ hn1
  have f2:=frozen_of_row _ _ 2 _ _ hn1
  have hA2:Below V.heap.size V (w1.alloc (Obj.cells #[.int .u8 x,.int .u8 y,.int .u8 z] 97)):=hB1.alloc hB1.size _
  have HW2:Hid (Below (w.heap.size+1+1+1+1) V (w1.alloc (Obj.cells #[.int .u8 x,.int .u8 y,.int .u8 z] 97))∧(w1.alloc (Obj.cells #[.int .u8 x,.int .u8 y,.int .u8 z] 97)).heap[w1.heap.size]?=some (.cells #[.int .u8 x,.int .u8 y,.int .u8 z] 97 (0,0))):=⟨by rw [←HPS.out.2.2.2.2];exact hA2,heap_alloc_new w1 _⟩
  try simp only [tkS]
  refine wpAnyH_ready (rs:=[10]) (by kernel_rfl) (by simp) ?_
  refine AllReadyH.cons rfl (fun K hK=>?_) AllReadyH.nil
  go_simp
  clear hn1 hA1 e0 e1 e2 f0 f1 f2
  refine hK.out _ _ (by exact ⟨keep hA2 hp0 v0,keep hA2 hRV rv,keep hA2 hp1 v1⟩) (fun hHeld=>?_)
  clear hK K
  try simp only [tkS]
  refine wpAnyH_ready (rs:=[11]) (by kernel_rfl) (by simp) ?_
  refine AllReadyH.cons rfl (fun K hK=>?_) AllReadyH.nil
  go_simp
  refine hK.out _ _ (by exact hHeld) (fun hHeld=>?_)
  clear hK K
  try simp only [tkS]
  refine wpAnyH_done (by kernel_rfl) ?_ _
  simp only [cutQ,List.drop_succ_cons,List.drop_zero]
  clear hHeld hA2 hB1 hb1
  generalize w1.alloc (Obj.cells #[.int .u8 x,.int .u8 y,.int .u8 z] 97)=W2 at *
  generalize w1.heap.size=Lb at *
 rotate_left
 focus
  have hA0:Below V.heap.size V (V.alloc (Obj.cells #[.int .u8 0,.int .u8 0,.int .u8 0] 97)).drew:=((Below.refl _ _).alloc nl _).drew
  have hn0:(V.alloc (Obj.cells #[.int .u8 0,.int .u8 0,.int .u8 0] 97)).drew.heap[V.heap.size]?=_:=heap_alloc_new V (Obj.cells #[.int .u8 0,.int .u8 0,.int .u8 0] 97)
  have HC:=HLA.out (V.alloc (Obj.cells #[.int .u8 0,.int .u8 0,.int .u8 0] 97)).drew (HBV.out.trans (hA0.mono HBV.out.size))
  go_simp
  refine hK.out _ _ (by exact ⟨keep hA0 hp0 v0,keep hA0 hRV rv,keep hA0 hp1 v1⟩) (fun hHeld=>?_)
  clear hK K
  try simp only [tkS]
  refine wpAnyH_ready (rs:=[5]) (by kernel_rfl) (by simp) ?_
  refine AllReadyH.cons rfl (fun K hK=>?_) AllReadyH.nil
  go_simp
  refine HC.mono ?_
  clear HC
  rintro e w1 ⟨⟨x,y,z,rfl,hla⟩,hb1⟩
  have hB1:Below V.heap.size V w1:=hA0.trans (hb1.mono hA0.size)
  have hn1:=(hb1.block V.heap.size (by simp)).trans hn0
  dsimp only
  refine hK.out _ _ (by exact ⟨keep hB1 hp0 v0,keep hB1 hRV rv,keep hB1 hp1 v1⟩) (fun hHeld=>?_)
  clear hK K
  try simp only [tkS]
  refine tk 6 (v:=?_) ?_ ?_
  rotate_left
  ·(intro w hSw;(try dsimp only at hSw);go_simp;try (with_reducible rfl))
  try simp only [tkS]
  refine tk 7 (v:=?_) ?_ ?_
  rotate_left
  ·(intro w hSw;(try dsimp only at hSw);go_simp;try (with_reducible rfl))
  try simp only [tkS]
  refine tk 8 (v:=?_) ?_ ?_
  rotate_left
  ·(intro w hSw;(try dsimp only at hSw);go_simp;try (with_reducible rfl))
  try simp only [tkS]
  have e0:=blk_cellI (j:=0) hn1 rfl
  have e1:=blk_cellI (j:=1) hn1 rfl
  have e2:=blk_cellI (j:=2) hn1 rfl
  have f0:=frozen_of_row _ _ 0 _ _ hn1
  have f1:=frozen_of_row _ _ 1 _ _ hn1
  have f2:=frozen_of_row _ _ 2 _ _ hn1
  have hA2:Below V.heap.size V (((w1.setCell ⟨V.heap.size,0,none⟩ (.int .u8 x)).setCell ⟨V.heap.size,1,none⟩ (.int .u8 y)).setCell ⟨V.heap.size,2,none⟩ (.int .u8 z)):=((hB1.setCell nl _).setCell nl _).setCell nl _
  have HW2:Hid (Below (w.heap.size+1+1+1+1) V (((w1.setCell ⟨V.heap.size,0,none⟩ (.int .u8 x)).setCell ⟨V.heap.size,1,none⟩ (.int .u8 y)).setCell ⟨V.heap.size,2,none⟩ (.int .u8 z))∧((((w1.setCell ⟨V.heap.size,0,none⟩ (.int .u8 x)).setCell ⟨V.heap.size,1,none⟩ (.int .u8 y)).setCell ⟨V.heap.size,2,none⟩ (.int .u8 z))).heap[V.heap.size]?=some (.cells #[.int .u8 x,.int .u8 y,.int .u8 z] 97 (0,0))):=⟨by rw [←HPS.out.2.2.2.2];exact hA2,by rw [heap_setCell_same _ _ 2 _ _ _ (heap_setCell_same _ _ 1 _ _ _ (heap_setCell_same _ _ 0 _ _ _ hn1))];rfl⟩
  try simp only [tkS]
  refine wpAnyH_ready (rs:=[10]) (by kernel_rfl) (by simp) ?_
  refine AllReadyH.cons rfl (fun K hK=>?_) AllReadyH.nil
  go_simp
  clear hn1 hn0 hA0 e0 e1 e2 f0 f1 f2
  refine hK.out _ _ (by exact ⟨keep hA2 hp0 v0,keep hA2 hRV rv,keep hA2 hp1 v1⟩) (fun hHeld=>?_)
  clear hK K
  try simp only [tkS]
  refine wpAnyH_ready (rs:=[11]) (by kernel_rfl) (by simp) ?_
  refine AllReadyH.cons rfl (fun K hK=>?_) AllReadyH.nil
  go_simp
  refine hK.out _ _ (by exact hHeld) (fun hHeld=>?_)
  clear hK K
  try simp only [tkS]
  refine wpAnyH_done (by kernel_rfl) ?_ _
  simp only [cutQ,List.drop_succ_cons,List.drop_zero]
  clear hHeld hA2 hB1 hb1
  generalize (((w1.setCell ⟨V.heap.size,0,none⟩ (.int .u8 x)).setCell ⟨V.heap.size,1,none⟩ (.int .u8 y)).setCell ⟨V.heap.size,2,none⟩ (.int .u8 z))=W2 at *
  generalize V.heap.size=Lb at HW2 ⊢
 all_goals
  clear hVd v0 v1 rv hp0 hp1 hRV HLA
  obtain ⟨hs0,hs1,hs2,hs3,hs4⟩:=HPS.out
  have HB2:Hid (Below w.heap.size w W2):=HBV.out.trans (HW2.out.1.mono (by omega))
  have HC2:Hid (W2.heap[p0]?=some (.cells #[.pointer (some ⟨R,0,none⟩)] 57 (0,0))∧W2.heap[p1]?=some (.cells #[.int .i64 q] 3 (0,0))∧W2.heap[p2]?=some (.cells #[.int .i64 0,.int .i64 0] 60 (0,0))∧W2.heap[p3]?=some (.cells #[.int .i64 0,.int .i64 0] 60 (0,0))):=
   ⟨(HW2.out.1.block p0 (by omega)).trans HV.out.1,(HW2.out.1.block p1 (by omega)).trans HV.out.2.1,(HW2.out.1.block p2 (by omega)).trans HV.out.2.2.1,(HW2.out.1.block p3 (by omega)).trans HV.out.2.2.2.1⟩
  have HNE:Hid (p0≠p3∧p1≠p3∧p2≠p3∧Lb≠p3∧w.heap.size≤p2∧w.heap.size≤p3):=by
   refine ⟨by omega,by omega,by omega,fun e=>?_,by omega,by omega⟩
   have h1:=HW2.out.2
   rw [e,HC2.out.2.2.2] at h1
   simp at h1
  clear HV hs0 hs1 hs2 hs3 hs4 HPS
  have ha0:=frozen_of_row _ _ 0 _ _ HC2.out.2.2.1
  by_cases h3:q+3≤n
  ·rw [decide_eq_true h3]
   have hq3:(x,y,z)=tri ys q:=by
    obtain ⟨e1,e2,e3⟩:=hla.1 (by rw [HL.out.1];exact h3)
    rw [e1,e2,e3]
    rfl
   obtain ⟨l,r,hlr,hr1,hl2,hr2,hof⟩:=HPA.out h3
   have hW3:Below W2.heap.size W2 W2.drew:=⟨rfl,rfl,rfl,Nat.le_refl _,fun _ _=>rfl⟩
   obtain ⟨v,hlk,hov,hlen⟩:=(HH.out.2.1.below (HB2.out.trans (hW3.mono HB2.out.size))).look (by omega) (x,y,z) (by rw [hq3];exact HTR.out)
   rw [hq3,hlr] at hov
   rw [hq3,hlr] at hlen
   obtain ⟨va,vc,rfl⟩:=hov.form
   have hlk2:Sem.run Tryz.prog (Instr.lookup 93 (.map (some M)) (.agg #[.int .u8 x,.int .u8 y,.int .u8 z]) false) W2.drew=.ok (.slice va (l++r).length vc) W2.drew:=hlk
   have HOV:Hid (OVI W2 (M+1) (.slice va (l++r).length vc) (l++r)):=hov
   have c0:=blk_cellI (j:=0) HC2.out.1 rfl
   have c1:=HB2.out
   have rv:=keep c1 hRl HH.out.1.c1
   have l0:=blk_cellI (j:=0) HW2.out.2 rfl
   have l1:=blk_cellI (j:=1) HW2.out.2 rfl
   have l2:=blk_cellI (j:=2) HW2.out.2 rfl
   have HLL:Hid ((l++r).length=l.length+r.length∧1≤r.length∧(l++r).length≤64):=⟨List.length_append,hr1,by omega⟩
   have HLR:Hid ((∀ z ∈ l,0≤z∧z<(q:Int))∧(∀ z ∈ r,(q:Int)≤z)∧ofrs ys q l=lzP ys q q):=⟨hl2,hr2,hof⟩
   have HWD:Hid (Only (fun b=>b=p3) W2 W2.drew):=⟨rfl,rfl,rfl,Nat.le_refl _,fun _ _ _=>rfl⟩
   clear hq3 hlr hr1 hl2 hr2 hof hW3 hlk hov hlen c1 ha0 hla
   go_wp2_with fail
   refine wp_region_cut (S:=fun W=>W.cell? ⟨p0,0,none⟩=some (.pointer (some ⟨R,0,none⟩))∧W.cell? ⟨R,1,none⟩=some (.map (some M))∧W.cell? ⟨Lb,0,none⟩=some (.int .u8 x)∧W.cell? ⟨Lb,1,none⟩=some (.int .u8 y)∧W.cell? ⟨Lb,2,none⟩=some (.int .u8 z)∧Sem.run Tryz.prog (Instr.lookup 93 (.map (some M)) (.agg #[.int .u8 x,.int .u8 y,.int .u8 z]) false) W=.ok (.slice va (l++r).length vc) W) 8 (by kernel_rfl) (by kernel_rfl) (by exact ⟨c0,rv,l0,l1,l2,hlk2⟩) (fun hHeld=>?_)
   refine tk 0 (v:=?_) ?_ ?_
   rotate_left
   ·(intro w hSw;(try dsimp only at hSw);go_simp;try (with_reducible rfl))
   try simp only [tkS]
   refine tk 1 (v:=?_) ?_ ?_
   rotate_left
   ·(intro w hSw;(try dsimp only at hSw);go_simp;try (with_reducible rfl))
   try simp only [tkS]
   refine tk 2 (v:=?_) ?_ ?_
   rotate_left
   ·(intro w hSw;(try dsimp only at hSw);go_simp;try (with_reducible rfl))
   try simp only [tkS]
   refine tk 3 (v:=?_) ?_ ?_
   rotate_left
   ·(intro w hSw;(try dsimp only at hSw);go_simp;try (with_reducible rfl))
   try simp only [tkS]
   refine tk 4 (v:=?_) ?_ ?_
   rotate_left
   ·(intro w hSw;(try dsimp only at hSw);go_simp;try (with_reducible rfl))
   try simp only [tkS]
   refine tk 5 (v:=?_) ?_ ?_
   rotate_left
   ·(intro w hSw;(try dsimp only at hSw);go_simp;try (with_reducible rfl))
   try simp only [tkS]
   refine tk 6 (v:=?_) ?_ ?_
   rotate_left
   ·(intro w hSw;(try dsimp only at hSw);go_simp;try (with_reducible rfl))
   try simp only [tkS]
   refine tk 7 (v:=?_) ?_ ?_
   rotate_left
   ·(intro w hSw;(try dsimp only at hSw);go_simp;try (with_reducible rfl))
   try simp only [tkS]
   refine wpAnyH_done (by kernel_rfl) ?_ _
   simp only [cutQ,List.drop_succ_cons,List.drop_zero]
   clear hHeld hlk2 c0 rv l0 l1 l2
   generalize hLE:(l++r).length=L at *
   have HLE:Hid ((l++r).length=L∧True):=⟨hLE,trivial⟩
   clear hLE
   go_wp2
   go_loopw [31] (fun i W=>∃ k:Nat,k≤l.length∧i=.int .i64 k∧Only (fun b=>b=p3) W2 W∧∃ bx by_:Nat,ofrs ys q (l.take k)=(bx,by_)∧W.heap[p3]?=some (.cells #[.int .i64 bx,.int .i64 by_] 60 (0,0))) (fun i _=>l.length+1-(intOf i).toNat)
   case atStart=>exact ⟨0,Nat.zero_le _,rfl,HWD.out,0,0,rfl,HC2.out.2.2.2⟩
   case round=>
    obtain ⟨k,hk,rfl,hon,bx,by_,hst,hbk⟩:=hrel
    have HR:Hid (Only (fun b=>b=p3) W2 wr∧ofrs ys q (l.take k)=(bx,by_)∧wr.heap[p3]?=some (.cells #[.int .i64 bx,.int .i64 by_] 60 (0,0))):=⟨hon,hst,hbk⟩
    obtain ⟨hl1,hl2,hl3⟩:=HLL.out
    have hkL:(k:Int)<(L:Int):=by omega
    have hins:=(HOV.out.off hon HC2.out.2.2.2 (by decide)).ins
    obtain ⟨b5,o5,rfl,hb5,hc5⟩:=hins.2 (by rw [HLE.out.1];omega)
    have z5:=hc5 k (by rw [HLE.out.1];omega)
    have hlt0:p0<W2.heap.size:=(Array.getElem?_eq_some_iff.1 HC2.out.1).1
    have hlt1:p1<W2.heap.size:=(Array.getElem?_eq_some_iff.1 HC2.out.2.1).1
    have q1:=hon.cell hlt1 (fun e=>HNE.out.2.1 e) (blk_cellI (j:=0) HC2.out.2.1 rfl)
    have q0:=hon.cell hlt0 (fun e=>HNE.out.1 e) (blk_cellI (j:=0) HC2.out.1 rfl)
    have HB6:Hid (Below w.heap.size w wr):=HB2.out.trans (hon.below HB2.out.size (fun j hj=>by rw [hj];exact HNE.out.2.2.2.2.2))
    have hs6:=hon.size
    clear hon hst hbk hins hc5
    by_cases hkl:k<l.length
    ·have hze:(l++r).getD k 0=l.getD k 0:=by simp [List.getD_eq_getElem?_getD,List.getElem?_append_left hkl]
     have hzr:=HLR.out.1 _ (show l.getD k 0 ∈ l by rw [List.getD_eq_getElem?_getD,List.getElem?_eq_getElem hkl];exact List.getElem_mem hkl)
     obtain ⟨p,hp⟩:∃ p:Nat,l.getD k 0=(p:Int):=⟨(l.getD k 0).toNat,by omega⟩
     have HST:Hid (ofrs ys q (l.take (k+1))=ofr ys q p (bx,by_)):=ofr_state hkl hp HR.out.2.1
     rw [hze,hp] at z5
     have hpq:p<q:=by omega
     have hpq2:¬(q:Int)≤(p:Int):=by omega
     have HOFF:=HOF.out p0 p1 p3 p bx by_ wr HB6.out hpq (by omega) q0 q1 HR.out.2.2 (by omega) (by omega) HNE.out.2.1
     rw [←HST.out] at HOFF
     clear hze hzr hp
     go_wp2_with fail
     refine HOFF.mono ?_
     clear HOFF
     rintro e w7 ⟨rfl,hbk7,hon7⟩
     have HR7:Hid (Only (fun b=>b=p3) W2 w7∧w7.heap[p3]?=some (.cells #[.int .i64 (ofrs ys q (l.take (k+1))).1,.int .i64 (ofrs ys q (l.take (k+1))).2] 60 (0,0))):=⟨HR.out.1.trans hon7,hbk7⟩
     clear hbk7 hon7
     go_wp2
     go_roundw
     case rel=>exact ⟨k+1,by omega,by go_num,HR7.out.1,_,_,rfl,HR7.out.2⟩
     case measure=>simp [intOf];omega
    ·have hkk:k=l.length:=by omega
     have hze:(l++r).getD k 0=r.getD 0 0:=by rw [hkk];simp [List.getD_eq_getElem?_getD,List.getElem?_append_right]
     have hzr:=HLR.out.2.1 _ (show r.getD 0 0 ∈ r by rw [List.getD_eq_getElem?_getD,List.getElem?_eq_getElem (by omega)];exact List.getElem_mem (by omega))
     obtain ⟨p,hp⟩:∃ p:Int,r.getD 0 0=p:=⟨_,rfl⟩
     rw [hze,hp] at z5
     rw [hp] at hzr
     have HST:Hid (lzP ys q q=(bx,by_)):=by
      have:=HR.out.2.1
      rw [hkk,List.take_length,HLR.out.2.2] at this
      exact this
     have c0:=blk_cellI (j:=0) HR.out.2.2 rfl
     have c1:=blk_cellI (j:=1) HR.out.2.2 rfl
     have hb2r:=(HR.out.1.block p2 (Array.getElem?_eq_some_iff.1 HC2.out.2.2.1).1 (fun e=>HNE.out.2.2.1 e)).trans HC2.out.2.2.1
     have d0:=blk_cellI (j:=0) hb2r rfl
     have d1:=blk_cellI (j:=1) hb2r rfl
     have f0:=frozen_of_row _ _ 0 _ _ hb2r
     have f1:=frozen_of_row _ _ 1 _ _ hb2r
     clear hze hp hb2r hkk
     go_wp2
     refine bodyPost_ret (v:=.agg #[.int .i64 bx,.int .i64 by_]) (by simp [results,Tryz.results37,go_sem,d0,d1]) rfl ⟨by rw [HST.out],(HB6.out.setCell HNE.out.2.2.2.2.1 _).setCell HNE.out.2.2.2.2.1 _⟩
  ·rw [decide_eq_false h3]
   have c0:=blk_cellI (j:=0) HC2.out.2.2.2 rfl
   have c1:=blk_cellI (j:=1) HC2.out.2.2.2 rfl
   have d0:=blk_cellI (j:=0) HC2.out.2.2.1 rfl
   have d1:=blk_cellI (j:=1) HC2.out.2.2.1 rfl
   have f0:=frozen_of_row _ _ 0 _ _ HC2.out.2.2.1
   have f1:=frozen_of_row _ _ 1 _ _ HC2.out.2.2.1
   go_wp2
   refine bodyPost_ret (v:=.agg #[.int .i64 0,.int .i64 0]) (by simp [results,Tryz.results37,go_sem,d0,d1]) rfl ⟨by rw [HSH.out h3];rfl,(HB2.out.setCell HNE.out.2.2.2.2.1 _).setCell HNE.out.2.2.2.2.1 _⟩
end Go.Proofs.YtfeokafkhnbdiaaGreatDoor
namespace Go.Proofs.YtfeokafkhnbdiaaGreatDoor
open Go.RowKit
set_option linter.unusedVariables false
theorem bytesClone_any (a:Option Addr) (cap:Nat) (zs:List Int) (w:World) (hb:Byt w a zs) (hn:zs.length≤1000000) :
  Calls Tryz.prog 38 #[.slice a zs.length cap] w fun e w'=>(∃ v,e=.returned v∧OVB w' w.heap.size v zs)∧Below w.heap.size w w':=by
 cases a with
 | none=>
  have hz:zs=[]:=by
   rcases Nat.eq_zero_or_pos zs.length with h0 | h0
   ·exact List.eq_nil_of_length_eq_zero h0
   ·obtain ⟨b,off,e,_⟩:=hb.2 h0
    cases e
  subst hz
  have heq:(binOp .eql 22 (.slice none 0 cap) (.slice none 0 0)).run Tryz.prog w=.ok (.bool true) w:=Lib.run_eql_slice_nil w _ _ none 0 cap 0 0 Tryz.underlying22
  go_enter Tryz.func38,Tryz.ntmps38
  go_wp2
  go_ret
  exact ⟨⟨_,rfl,OVB.nil _ _⟩,Below.refl _ _⟩
 | some ad=>
  have HO:Hid (OVB (w.alloc (Obj.cells #[] 5)) w.heap.size (.slice (some ⟨w.heap.size,0,none⟩) 0 0) []):=OVB.empty w _ nl
  have HY:Hid (Byt (w.alloc (Obj.cells #[] 5)) (some ad) zs):=hb.alloc _
  have HB:Hid (Below w.heap.size w (w.alloc (Obj.cells #[] 5))):=bAw
  clear hb
  have heq:(binOp .eql 22 (.slice (some ad) zs.length cap) (.slice none 0 0)).run Tryz.prog w=.ok (.bool false) w:=Lib.run_eql_slice_nil w _ _ (some ad) zs.length cap 0 0 Tryz.underlying22
  go_enter Tryz.func38,Tryz.ntmps38
  go_wp2_with (at_builtin;(refine wpList_append_byt rfl (.tmp 5) (.tmp 6) rfl w.heap.size (.slice (some ⟨w.heap.size,0,none⟩) 0 0) [] rfl HO.out (some ad) cap zs rfl HY.out (by simp;omega) (by simp) ?_;intro v1 w1 hov1 hgr1;have HB1:Hid (Below w.heap.size w w1):=appB_below HB.out (by simp) HO.out hgr1;have HV1:Hid (OVB w1 w.heap.size v1 zs):=(by simpa [Hid] using hov1);clear hov1 hgr1))
  go_ret
  exact ⟨⟨_,rfl,HV1.out⟩,HB1.out⟩
set_option linter.unusedSimpArgs false
theorem Tryz.fldP (x y:Value) (W:World):Sem.run Tryz.prog (Instr.field 60 (.agg #[x,y]) 0) W=.ok x W:=by kernel_rfl
theorem below_dN3 (w:World) (n:Nat):Below w.heap.size w (w.drewN n):=⟨rfl,rfl,rfl,Nat.le_refl _,fun _ _=>rfl⟩
theorem lz_P {ys:List Int} {q:Nat} (h:q≤ys.length):lz ys q=lzP ys q q:=by
 by_cases hq:q<ys.length
 ·rw [lz_at hq,lzP_lzA]
 ·rw [lz_end hq,lzP_short ys q (by omega)]
theorem Byt.cut {w:World} {b off:Nat} {ys:List Int} (h:Byt w (some ⟨b,off,none⟩) ys) (f q:Nat) (hf:f≤q) (hq:q≤ys.length):Byt w (some ⟨b,off+f,none⟩) (cutL ys f q):=by
 refine ⟨fun z hz=>h.1 z (cutL_mem hz),fun hp=>?_⟩
 rw [cutL_len ys f q hf hq] at hp
 obtain ⟨b',o',he,hlt,hc⟩:=h.2 (by omega)
 obtain ⟨rfl,rfl⟩:b=b'∧off=o':=by simpa using he
 refine ⟨b,off+f,rfl,hlt,fun j hj=>?_⟩
 rw [cutL_len ys f q hf hq] at hj
 have e:(cutL ys f q).getD j 0=ys.getD (f+j) 0:=by
  unfold cutL
  rw [List.getD_eq_getElem?_getD,List.getElem?_take,if_pos hj,List.getElem?_drop,←List.getD_eq_getElem?_getD]
 rw [e,Nat.add_assoc]
 exact hc (f+j) (by omega)
def BxP (w:World) (X x y:Nat):Prop:=w.heap[X]?=some (.cells #[.int .i64 x,.int .i64 y] 60 (0,0))
theorem BxP.c0 {w:World} {X x y:Nat} (h:BxP w X x y):w.cell? ⟨X,0,none⟩=some (.int .i64 x):=by rw [cell_of_row w X 0 _ _ (0,0) h];rfl
theorem BxP.c1 {w:World} {X x y:Nat} (h:BxP w X x y):w.cell? ⟨X,1,none⟩=some (.int .i64 y):=by rw [cell_of_row w X 1 _ _ (0,0) h];rfl
theorem BxP.lt {w:World} {X x y:Nat} (h:BxP w X x y):X<w.heap.size:=(Array.getElem?_eq_some_iff.1 h).1
theorem BxP.below {w w':World} {X x y:Nat} (h:BxP w X x y) (hb:Below w.heap.size w w'):BxP w' X x y:=(hb.block X h.lt).trans h
theorem implFind_yes (a:Option Addr) (c:Nat) (ys:List Int) (w:World) (hb:Byt w a ys) (hn:ys.length≤64) (hcap:ys.length≤c) :
  Calls Tryz.prog 10 #[.slice a ys.length c] w fun e w'=>(∃ v,e=.returned (.tuple #[v,.bool true])∧FnA w' w.heap.size v (found ys))∧Below w.heap.size w w':=by
 have HBY:Hid (Byt w a ys∧True):=⟨hb,trivial⟩
 have HLE:Hid (∀ q,q+(lz ys q).1≤max q ys.length∧(lz ys q).2≤q):=lz_le ys
 have HCL:Hid (∀ f q,f≤q→q≤ys.length→(cutL ys f q).length=q-f):=cutL_len ys
 have HTW:Hid (∀ f q cs,St ys f q cs→q<ys.length→¬takes ys q→St ys f (q+1) cs):=fun f q cs h1 h2 h3=>h1.wait h2 h3
 have HTT:Hid (∀ f q cs,St ys f q cs→q<ys.length→takes ys q→St ys (q+(lz ys q).1) (q+(lz ys q).1) (cs++[(cutL ys f q,((lz ys q).1:Int),((lz ys q).2:Int))])):=fun f q cs h1 h2 h3=>h1.take h2 h3
 have HDN:Hid (∀ f q cs,St ys f q cs→¬q<ys.length→found ys=fin ys f cs):=fun f q cs h1 h2=>h1.done h2
 have HSR:Hid (∀ f q cs,St ys f q cs→f≤q∧q≤ys.length∧cs.length≤q):=fun f q cs h=>⟨h.fq,h.ql,h.cl⟩
 have HFW:Hid (∀ f q ss,St ys f q (ss.map Sq.ct)→Few4 ss∧∀ s:Sq,s.ls.length≤64→(0≤s.n∧s.n≤64)→(0≤s.d∧s.d≤64)→Few4 (ss++[s])):=fun f q ss h=>⟨h.few hn,fun s h1 h2 h3=>Few4.snoc h hn h1 h2 h3⟩
 have HST:Hid (St ys 0 0 []):=St.start ys
 have HLG:Hid (∀ (R M:Nat) (W:World),Hst W R M a ys.length c→LivL W M ys.length (lpl ys ys.length)→Below w.heap.size w W→∀ q,q≤ys.length→Calls Tryz.prog 37 #[.pointer (some ⟨R,0,none⟩),.int .i64 q] W fun e w'=>e=.returned (.agg #[.int .i64 (lz ys q).1,.int .i64 (lz ys q).2])∧Below W.heap.size W w'):=fun R M W h1 h2 h3 q hq=>by
  rw [lz_P hq]
  exact longest_any R M a c ys q W h1 h2 (hb.below h3 nl) hn hq hcap
 have HCB:Hid (∀ (W:World),Below w.heap.size w W→∀ b o,a=some ⟨b,o,none⟩→∀ f q,f≤q→q≤ys.length→Calls Tryz.prog 38 #[.slice (some ⟨b,o+f,none⟩) (q-f) (c-f)] W fun e w'=>(∃ v,e=.returned v∧OVB w' W.heap.size v (cutL ys f q))∧Below W.heap.size W w'):=fun W hW b o ha f q h1 h2=>by
  subst ha
  have h:=bytesClone_any (some ⟨b,o+f,none⟩) (c-f) (cutL ys f q) W ((hb.below hW nl).cut f q h1 h2) (by rw [cutL_len ys f q h1 h2];omega)
  rw [cutL_len ys f q h1 h2] at h
  exact h
 have HHO:=historyOf_any a c ys w hb hn hcap
 clear hb
 generalize hL:ys.length=n at *
 have HL:Hid (ys.length=n∧True):=⟨hL,trivial⟩
 clear hL
 go_enter Tryz.func10,Tryz.ntmps10
 go_wp2_with fail
 refine HHO.mono ?_
 clear HHO
 rintro e w1 ⟨R,M,rfl,-,-,hH1,hV1,hb1⟩
 have H1:Hid (Hst w1 R M a n c∧LivL w1 M n (lpl ys n)∧Below w.heap.size w w1):=⟨hH1,hV1,hb1⟩
 have hsz1:=hb1.size
 clear hH1 hV1 hb1
 go_wp2
 go_loopw [5,6,7] (fun ov fv iv wr=>∃ (f q:Nat) (ss:List Sq),iv=.int .i64 q∧fv=.int .i64 f∧St ys f q (ss.map Sq.ct)∧OVq wr w1.heap.size ov ss∧DeepQ wr w1.heap.size ss∧Below w1.heap.size w1 wr) (fun _ _ iv _=>n-(intOf iv).toNat)
 case atStart=>exact ⟨0,0,[],rfl,rfl,HST.out,OVq.nil _ _,DeepQ.nil _ _,Below.refl _ _⟩
 case round=>
  obtain ⟨f,q,ss,rfl,rfl,hst,hoq,hdq,hbel⟩:=hrel
  obtain ⟨oa,oc,rfl⟩:=hoq.form
  obtain ⟨hfq,hqn,hcl⟩:=HSR.out _ _ _ hst
  rw [List.length_map] at hcl
  have HS:Hid (St ys f q (ss.map Sq.ct)∧True):=⟨hst,trivial⟩
  have HO:Hid (OVq wr w1.heap.size (.slice oa ss.length oc) ss∧DeepQ wr w1.heap.size ss):=⟨hoq,hdq⟩
  have HB:Hid (Below w1.heap.size w1 wr∧Below w.heap.size w wr):=⟨hbel,H1.out.2.2.trans (hbel.mono hsz1)⟩
  have hsz:=hbel.size
  have hsq:ss.length≤q:=hcl
  clear hst hoq hdq hbel hcl
  by_cases hlt:q<n
  ·have h1:=HLG.out R M wr (H1.out.1.below HB.out.1) (H1.out.2.1.below HB.out.1) HB.out.2 q hqn
   have hle:=(HLE.out q).1
   have hld:=(HLE.out q).2
   have HTQ:Hid (takes ys q↔0<(lz ys q).1∧(lz ys (q+1)).1≤(lz ys q).1):=Iff.rfl
   have HT2:Hid (takes ys q→St ys (q+(lz ys q).1) (q+(lz ys q).1) (ss.map Sq.ct++[(cutL ys f q,((lz ys q).1:Int),((lz ys q).2:Int))])):=fun h=>HTT.out f q _ HS.out.1 hlt h
   have HT3:Hid (¬takes ys q→St ys f (q+1) (ss.map Sq.ct)):=fun h=>HTW.out f q _ HS.out.1 hlt h
   generalize (lz ys q).1=x at *
   generalize (lz ys q).2=y at *
   have hxn:q+x≤n:=by omega
   have hnq:¬(n:Int)≤(q:Int):=by omega
   clear hle
   go_wp2_with fail
   refine h1.mono ?_
   clear h1
   rintro e w2 ⟨rfl,hb2⟩
   have HB2:Hid (Below w1.heap.size w1 (w2.alloc (Obj.cells #[.int .i64 x,.int .i64 y] 60))∧Below w.heap.size w (w2.alloc (Obj.cells #[.int .i64 x,.int .i64 y] 60))∧w1.heap.size≤w2.heap.size∧BxP (w2.alloc (Obj.cells #[.int .i64 x,.int .i64 y] 60)) w2.heap.size x y):=by
    have h3:Below w1.heap.size w1 w2:=HB.out.1.trans (hb2.mono hsz)
    have h4:Below w1.heap.size w1 (w2.alloc (Obj.cells #[.int .i64 x,.int .i64 y] 60)):=h3.alloc h3.size _
    exact ⟨h4,H1.out.2.2.trans (h4.mono hsz1),h3.size,heap_alloc_new w2 _⟩
   have HO2:Hid (OVq (w2.alloc (Obj.cells #[.int .i64 x,.int .i64 y] 60)) w1.heap.size (.slice oa ss.length oc) ss∧DeepQ (w2.alloc (Obj.cells #[.int .i64 x,.int .i64 y] 60)) w1.heap.size ss):=⟨(HO.out.1.below hb2).below ((Below.refl _ _).alloc nl _),(HO.out.2.below hb2).below ((Below.refl _ _).alloc nl _)⟩
   clear hb2 HO HB hsz
   go_wp2
   generalize w2.alloc (Obj.cells #[.int .i64 x,.int .i64 y] 60)=w3 at *
   generalize w2.heap.size=X at *
   have c0:=HB2.out.2.2.2.c0
   have c1:=HB2.out.2.2.2.c1
   have hXl:=HB2.out.2.2.2.lt
   by_cases hx0:x=0
   ·subst hx0
    have HW3:Hid (St ys f (q+1) (ss.map Sq.ct)):=HT3.out (fun h=>by have:=(HTQ.out.1 h).1;omega)
    have hz0:(((0:Nat):Int) == 0)=true:=rfl
    go_quiet (fail)
    go_wp2
    go_roundw
    case rel=>exact ⟨f,q+1,ss,by go_num,rfl,HW3.out,HO2.out.1.below (below_dN3 _ _),HO2.out.2.below (below_dN3 _ _),HB2.out.1.trans ((below_dN3 _ _).mono HB2.out.1.size)⟩
    case measure=>simp [intOf];omega
   ·have hx1:¬(x:Int)=0:=by omega
    have hz0:((x:Int) == 0)=false:=by simp [hx0]
    have h2:=fun (W:World) (hW:Below w1.heap.size w1 W)=>HLG.out R M W (H1.out.1.below hW) (H1.out.2.1.below hW) (H1.out.2.2.trans (hW.mono hsz1)) (q+1) (by omega)
    obtain ⟨m,hm⟩:∃ m,m=(lz ys (q+1)).1:=⟨_,rfl⟩
    rw [←hm] at h2
    have HM:Hid (m=(lz ys (q+1)).1∧True):=⟨hm,trivial⟩
    have HL2:Hid (∀ (W:World),Below w1.heap.size w1 W→Calls Tryz.prog 37 #[.pointer (some ⟨R,0,none⟩),.int .i64 ((q:Int)+1)] W fun e w'=>e=.returned (.agg #[.int .i64 m,.int .i64 (lz ys (q+1)).2])∧Below W.heap.size W w'):=fun W hW=>by
     have h:=h2 W hW
     rw [show ((q+1:Nat):Int)=(q:Int)+1 by omega] at h
     exact h
    clear h2 hm
    generalize (lz ys (q+1)).2=md at *
    have hfd:=fun W=>Tryz.fldP (.int .i64 m) (.int .i64 md) W
    have hqw:IntKind.i64.wrap ((q:Int)+1)=(q:Int)+1:=IntWalk.i64_in _ (by omega)
    go_region_held3 (fun W=>W.cell? ⟨X,0,none⟩=some (.int .i64 x)) (first | exact c0 | exact c4)
     (first | (go_at_call 37;(try rw [hqw]);refine (HL2.out _ (by exact HB2.out.1.drew)).mono ?_;rintro e w4 ⟨rfl,hb4'⟩;have hb4:Below w3.heap.size w3 w4:=Below.drewS hb4';have c4:=keep hb4 hXl c0))
    have HB4:Hid (Below w1.heap.size w1 w4∧Below w.heap.size w w4∧BxP w4 X x y):=⟨HB2.out.1.trans (hb4.mono HB2.out.1.size),HB2.out.2.1.trans (hb4.mono HB2.out.2.1.size),HB2.out.2.2.2.below hb4⟩
    have HO4:Hid (OVq w4 w1.heap.size (.slice oa ss.length oc) ss∧DeepQ w4 w1.heap.size ss):=⟨HO2.out.1.below hb4,HO2.out.2.below hb4⟩
    have hXw:w1.heap.size≤X:=HB2.out.2.2.1
    clear hb4 hb4' c0 c1 c4 HB2 HO2 HL2 hXl
    by_cases hmx:x<m
    ·have hmxI:(x:Int)<(m:Int):=by omega
     have HW3:Hid (St ys f (q+1) (ss.map Sq.ct)):=HT3.out (fun h=>by have h3:=(HTQ.out.1 h).2;rw [←HM.out.1] at h3;omega)
     go_wp2
     go_roundw
     case rel=>exact ⟨f,q+1,ss,by go_num,rfl,HW3.out,HO4.out.1,HO4.out.2,HB4.out.1⟩
     case measure=>simp [intOf];omega
    ·have hmxI:¬(x:Int)<(m:Int):=by omega
     have HW3:Hid (St ys (q+x) (q+x) (ss.map Sq.ct++[(cutL ys f q,(x:Int),(y:Int))])):=HT2.out (HTQ.out.2 ⟨by omega,by rw [←HM.out.1];omega⟩)
     obtain ⟨b1,o1,ha,hbl,hbc⟩:=HBY.out.1.2 (by rw [HL.out.1];omega)
     have HC4:=HCB.out w4.drew HB4.out.2.1.drew b1 o1 ha f q hfq hqn
     subst ha
     have hcf:¬c=f:=by omega
     have hcq:q≤c:=by omega
     have c0:=HB4.out.2.2.c0
     have c1:=HB4.out.2.2.c1
     have hXl:=HB4.out.2.2.lt
     have HX:Hid (∀ W,Below w4.heap.size w4 W→W.cell? ⟨X,0,none⟩=some (.int .i64 x)∧W.cell? ⟨X,1,none⟩=some (.int .i64 y)):=fun W hW=>⟨keep hW hXl c0,keep hW hXl c1⟩
     clear hbl hbc
     go_wp2
     refine wp_region_cut (S:=fun W=>W.cell? ⟨X,0,none⟩=some (.int .i64 x)∧W.cell? ⟨X,1,none⟩=some (.int .i64 y)) 13 (by kernel_rfl) (by kernel_rfl) (by exact ⟨c0,c1⟩) (fun hHeld=>?_)
     refine tk 0 (v:=?_) ?_ ?_
     rotate_left
     ·(intro w hSw;(try dsimp only at hSw);go_simp;try (with_reducible rfl))
     try simp only [tkS]
     refine tk 1 (v:=?_) ?_ ?_
     rotate_left
     ·(intro w hSw;(try dsimp only at hSw);go_simp;try (with_reducible rfl))
     try simp only [tkS]
     refine tk 2 (v:=?_) ?_ ?_
     rotate_left
     ·(intro w hSw;(try dsimp only at hSw);go_simp;try (with_reducible rfl))
     try simp only [tkS]
     refine tk 3 (v:=?_) ?_ ?_
     rotate_left
     ·(intro w hSw;(try dsimp only at hSw);go_simp;try (with_reducible rfl))
     try simp only [tkS]
     refine tk 4 (v:=?_) ?_ ?_
     rotate_left
     ·(intro w hSw;(try dsimp only at hSw);go_simp;try (with_reducible rfl))
     try simp only [tkS]
     refine tk 6 (v:=?_) ?_ ?_
     rotate_left
     ·(intro w hSw;(try dsimp only at hSw);go_simp;try (with_reducible rfl))
     try simp only [tkS]
     refine tk 7 (v:=?_) ?_ ?_
     rotate_left
     ·(intro w hSw;(try dsimp only at hSw);go_simp;try (with_reducible rfl))
     try simp only [tkS]
     refine tk 8 (v:=?_) ?_ ?_
     rotate_left
     ·(intro w hSw;(try dsimp only at hSw);go_simp;try (with_reducible rfl))
     try simp only [tkS]
     refine tk 9 (v:=?_) ?_ ?_
     rotate_left
     ·(intro w hSw;(try dsimp only at hSw);go_simp;try (with_reducible rfl))
     try simp only [tkS]
     refine wpAnyH_ready (rs:=[5]) (by kernel_rfl) (by simp) ?_
     refine AllReadyH.cons rfl (fun K hK=>?_) AllReadyH.nil
     go_simp
     refine HC4.mono ?_
     clear HC4
     rintro e w5 ⟨⟨v5,rfl,hov5⟩,hb5'⟩
     have hb5:Below w4.heap.size w4 w5:=Below.drewS hb5'
     obtain ⟨ua,uc,rfl,hm5⟩:=hov5.mine
     have HM5:Hid (Mine w5 w4.heap.size w5.heap.size ua uc (cutL ys f q)∧Below w4.heap.size w4 w5):=⟨hm5,hb5⟩
     refine hK.out _ _ (by exact HX.out _ hb5) (fun hHeld=>?_)
     clear hK K hov5 hm5 hb5'
     try simp only [tkS]
     refine tk 10 (v:=?_) ?_ ?_
     rotate_left
     ·(intro w hSw;(try dsimp only at hSw);go_simp;try (with_reducible rfl))
     try simp only [tkS]
     refine wpAnyH_ready (rs:=[11]) (by kernel_rfl) (by simp) ?_
     refine AllReadyH.cons rfl (fun K hK=>?_) AllReadyH.nil
     go_simp
     have hA5:Below w5.heap.size w5 (w5.alloc (Obj.cells #[.slice ua (cutL ys f q).length uc,.int .i64 x,.int .i64 y] 37)):=bAw
     refine hK.out _ _ (by exact HX.out _ (hb5.trans (hA5.mono hb5.size))) (fun hHeld=>?_)
     clear hK K
     try simp only [tkS]
     refine wpAnyH_ready (rs:=[12]) (by kernel_rfl) (by simp) ?_
     refine AllReadyH.cons rfl (fun K hK=>?_) AllReadyH.nil
     have HO5:Hid (OVq (w5.alloc (Obj.cells #[.slice ua (cutL ys f q).length uc,.int .i64 x,.int .i64 y] 37)) w1.heap.size (.slice oa ss.length oc) ss):=(HO4.out.1.below hb5).below hA5
     have hz4:w1.heap.size≤w4.heap.size:=HB4.out.1.size
     have hz5:w4.heap.size≤w5.heap.size:=hb5.size
     refine wanted_step rfl (wp_append_sq (.tmp 36) (.tmp 47) rfl w1.heap.size (.slice oa ss.length oc) ss (by simp [Act.eval]) HO5.out w5.heap.size 1 ⟨ua,uc,cutL ys f q,x,y⟩ (by simp [Act.eval]) (newsQ w5 ua (cutL ys f q).length uc x y 37 ⟨ua,uc,cutL ys f q,x,y⟩ rfl rfl rfl rfl rfl) (by omega) (by simp;omega) ?_)
     intro v6 w6 hov6 hg6
     have hd6:DeepQ w5 w1.heap.size (ss++[⟨ua,uc,cutL ys f q,x,y⟩]):=(HO4.out.2.below hb5).snoc (HM5.out.1.mono hz4 nl) (fun z hz k hk hk2=>by
      have h1:=((HO4.out.2.mine z hz).rowB hk).2
      have h2:=(HM5.out.1.rowB hk2).1
      omega)
     have HM6:Hid (OVq w6 w1.heap.size v6 (ss++[⟨ua,uc,cutL ys f q,x,y⟩])∧DeepQ w6 w1.heap.size (ss++[⟨ua,uc,cutL ys f q,x,y⟩])∧Below w1.heap.size w1 w6):=⟨hov6,(hd6.below hA5).grown HO5.out hg6,appQ_below ((HB4.out.1.trans (hb5.mono hz4)).trans (hA5.mono (by omega))) (by simp;omega) HO5.out hg6⟩
     have hne:¬(Value.slice oa ss.length oc).ownBlock=some X:=fun he=>HO4.out.1.ne HB4.out.2.2 (by decide) he
     have e0:=(Only.ofGrownQ hg6).cell (b:=X) (o:=0) (by simp;omega) hne (HX.out _ (hb5.trans (hA5.mono hb5.size))).1
     have e1:=(Only.ofGrownQ hg6).cell (b:=X) (o:=1) (by simp;omega) hne (HX.out _ (hb5.trans (hA5.mono hb5.size))).2
     have HMP:Hid ((ss++[(⟨ua,uc,cutL ys f q,x,y⟩:Sq)]).map Sq.ct=ss.map Sq.ct++[(cutL ys f q,(x:Int),(y:Int))]∧True):=⟨by rw [List.map_append];rfl,trivial⟩
     clear hov6 hg6 hd6 hA5
     refine hK.out _ _ (by exact ⟨e0,e1⟩) (fun hHeld=>?_)
     clear hK K
     try simp only [tkS]
     refine wpAnyH_done (by kernel_rfl) ?_ _
     simp only [cutQ,List.drop_succ_cons,List.drop_zero]
     clear HM5 hb5 c0 c1 HO4 HO5 HB4 HX hne
     go_wp2
     go_roundw
     case rel=>exact ⟨q+x,q+x,_,by congr 1,by congr 1,by rw [HMP.out.1];exact HW3.out,HM6.out.1,HM6.out.2.1,HM6.out.2.2⟩
     case measure=>simp [intOf];omega
  ·have HF:Hid (found ys=fin ys f (ss.map Sq.ct)∧q=n):=⟨HDN.out f q _ HS.out.1 hlt,by omega⟩
   have HFQ:=HFW.out f q ss HS.out.1
   have hnq:(n:Int)≤(q:Int):=by omega
   by_cases hfn:f<n
   ·have hfnI:(f:Int)<(n:Int):=by omega
    obtain ⟨b1,o1,ha,hbl,hbc⟩:=HBY.out.1.2 (by rw [HL.out.1];omega)
    have HC4:=HCB.out wr HB.out.2 b1 o1 ha f n (by omega) nl
    subst ha
    have hcf:¬c=f:=by omega
    clear hbl hbc
    go_wp2_with fail
    refine HC4.mono ?_
    clear HC4
    rintro e w5 ⟨⟨v5,rfl,hov5⟩,hb5⟩
    obtain ⟨ua,uc,rfl,hm5⟩:=hov5.mine
    have hz4:=hsz
    have hz5:=hb5.size
    have hA5:Below w5.heap.size w5 (w5.alloc (Obj.cells #[.slice ua (cutL ys f n).length uc,.int .i64 0,.int .i64 0] 37)):=bAw
    have HO5:Hid (OVq (w5.alloc (Obj.cells #[.slice ua (cutL ys f n).length uc,.int .i64 0,.int .i64 0] 37)) w1.heap.size (.slice oa ss.length oc) ss):=(HO.out.1.below hb5).below hA5
    have hd6:DeepQ w5 w1.heap.size (ss++[⟨ua,uc,cutL ys f n,0,0⟩]):=(HO.out.2.below hb5).snoc (hm5.mono hz4 nl) (fun z hz k hk hk2=>by
     have h1:=((HO.out.2.mine z hz).rowB hk).2
     have h2:=(hm5.rowB hk2).1
     omega)
    have HD6:Hid (DeepQ (w5.alloc (Obj.cells #[.slice ua (cutL ys f n).length uc,.int .i64 0,.int .i64 0] 37)) w1.heap.size (ss++[⟨ua,uc,cutL ys f n,0,0⟩])∧Below w1.heap.size w1 (w5.alloc (Obj.cells #[.slice ua (cutL ys f n).length uc,.int .i64 0,.int .i64 0] 37))):=⟨hd6.below hA5,(HB.out.1.trans (hb5.mono hz4)).trans (hA5.mono (by omega))⟩
    have HFN:Hid (found ys=ss.map Sq.ct++[(cutL ys f n,0,0)]∧Few4 (ss++[⟨ua,uc,cutL ys f n,0,0⟩])):=by
     refine ⟨?_,HFQ.2 _ (by show (cutL ys f n).length≤64;rw [HCL.out f n (by omega) nl];omega) ⟨by simp,by simp⟩ ⟨by simp,by simp⟩⟩
     rw [HF.out.1]
     unfold fin
     rw [HL.out.1,if_pos hfn]
    clear hov5 hm5 hd6 hA5 HFQ
    go_wp2_with (at_builtin;(refine wpList_append_sq rfl (.tmp 58) (.tmp 64) rfl w1.heap.size (.slice oa ss.length oc) ss rfl HO5.out w5.heap.size 1 ⟨ua,uc,cutL ys f n,0,0⟩ rfl (newsQ w5 ua (cutL ys f n).length uc 0 0 _ _ rfl rfl rfl rfl rfl) (by omega) (by simp;omega) ?_);intro v6 w6 hown hgrow)
    exact bodyPost_ret (v:=.tuple #[v6,.bool true]) (by simp [results,Tryz.results10,go_sem]) rfl ⟨⟨v6,rfl,ss++[⟨ua,uc,cutL ys f n,0,0⟩],by rw [HFN.out.1,List.map_append];rfl,hown.weak hsz1,(HD6.out.1.grown HO5.out hgrow).weak hsz1,HFN.out.2⟩,H1.out.2.2.trans ((appQ_below HD6.out.2 HD6.out.2.size HO5.out hgrow).mono hsz1)⟩
   ·have hfnI:¬(f:Int)<(n:Int):=by omega
    have HFN:Hid (found ys=ss.map Sq.ct∧Few4 ss):=by
     refine ⟨?_,HFQ.1⟩
     rw [HF.out.1]
     unfold fin
     rw [HL.out.1,if_neg hfn]
    clear HFQ
    go_wp2
    exact bodyPost_ret (v:=.tuple #[.slice oa ss.length oc,.bool true]) (by simp [results,Tryz.results10,go_sem]) rfl ⟨⟨_,rfl,ss,HFN.out.1.symm,HO.out.1.weak hsz1,HO.out.2.weak hsz1,HFN.out.2⟩,HB.out.2⟩
end Go.Proofs.YtfeokafkhnbdiaaGreatDoor
