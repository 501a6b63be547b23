/- Lemmas on the way. -/
import Derived.WalkKit
import Derived.ProofKit
import Derived.Below
import Derived.Deep.Draws
import Derived.Test.YtfeokafkhnbdiaaGreatDoorProg
import Derived.WalkLawsBesides
import Derived.Outline
import Derived.BigQuiet
import Derived.Deep.QuietTactic
import Derived.Deep.RegionHeld3
set_option maxRecDepth 20000
set_option maxHeartbeats 16000000
namespace Go.Proofs.YtfeokafkhnbdiaaGreatDoor
open Go.RowKit
def Byt (w:World) (a:Option Addr) (zs:List Int):Prop:=
 (∀ z ∈ zs,0≤z∧z≤255)∧(0<zs.length→∃ b off,a=some ⟨b,off,none⟩∧b<w.heap.size∧∀ i,i<zs.length→w.cell? ⟨b,off+i,none⟩=some (.int .u8 (zs.getD i 0)))
def Own (w:World) (B g cap:Nat) (zs:List Int):Prop:=
 w.ownsRow B 5 1 (.slice (some ⟨g,0,none⟩) zs.length cap) zs.length (zs.map (Value.int .u8))∧∀ z ∈ zs,0≤z∧z≤255
theorem nl {n:Nat} :n≤n:=Nat.le_refl n
theorem Own.lt {w:World} {B g cap:Nat} {zs:List Int} (h:Own w B g cap zs):B≤g∧g<w.heap.size:=h.1.lt g rfl
theorem Own.cell {w:World} {B g cap:Nat} {zs:List Int} (h:Own w B g cap zs) (i:Nat) (hi:i<zs.length):w.cell? ⟨g,i,none⟩=some (.int .u8 (zs.getD i 0)):=by
 rw [h.1.cellAt i (by omega)]
 simp [List.getElem?_eq_getElem hi]
theorem Own.byt {w:World} {B g cap:Nat} {zs:List Int} (h:Own w B g cap zs):Byt w (some ⟨g,0,none⟩) zs:=
 ⟨h.2,fun _=>⟨g,0,rfl,h.lt.2,fun i hi=>by rw [Nat.zero_add];exact h.cell i hi⟩⟩
theorem Byt.below {w w':World} {a:Option Addr} {zs:List Int} {B:Nat} (h:Byt w a zs) (hb:Below B w w') (hB:w.heap.size≤B):Byt w' a zs:=by
 refine ⟨h.1,fun hz=>?_⟩
 obtain ⟨b,off,rfl,hlt,hc⟩:=h.2 hz
 refine ⟨b,off,rfl,Nat.lt_of_lt_of_le hlt hb.size,fun i hi=>?_⟩
 rw [hb.cell (p:=⟨b,off+i,none⟩) (Nat.lt_of_lt_of_le hlt hB)]
 exact hc i hi
theorem Own.below {w w':World} {B B' g cap:Nat} {zs:List Int} (h:Own w B g cap zs) (hb:Below B' w w') (hB:w.heap.size≤B'):Own w' B g cap zs:=by
 refine ⟨⟨h.1.1,?_⟩,h.2⟩
 rcases h.1.2 with ⟨h',_⟩ | ⟨g',cap',cur,h',hg,hh,r⟩
 ·simp at h'
 ·refine .inr ⟨g',cap',cur,h',hg,?_,r⟩
  rw [hb.block g' (by have:=(Array.getElem?_eq_some_iff.1 hh).1;omega)]
  exact hh
theorem Own.mono {w:World} {B B' g cap:Nat} {zs:List Int} (h:Own w B g cap zs) (hB:B'≤B):Own w B' g cap zs:=by
 refine ⟨⟨h.1.1,?_⟩,h.2⟩
 rcases h.1.2 with ⟨h',_⟩ | ⟨g',cap',cur,h',hg,r⟩
 ·simp at h'
 ·exact .inr ⟨g',cap',cur,h',by omega,r⟩
theorem Byt.len_pos {w:World} {a:Option Addr} {zs:List Int} (h:Byt w a zs) (i:Nat) (hi:i<zs.length):∃ b off,a=some ⟨b,off,none⟩∧b<w.heap.size∧∀ i,i<zs.length→w.cell? ⟨b,off+i,none⟩=some (.int .u8 (zs.getD i 0)):=h.2 (by omega)
theorem ret_int {k:IntKind} {a b:Int} (h:a=b):Ending.returned (.int k a)=.returned (.int k b):=by rw [h]
def part (zs:List Int) (k:Nat):List Int:=zs.take k++List.replicate (zs.length-k) 0
theorem part_len (zs:List Int) (k:Nat) (h:k≤zs.length):(part zs k).length=zs.length:=by simp [part];omega
theorem part_all (zs:List Int):part zs zs.length=zs:=by simp [part]
theorem part_zero (zs:List Int):part zs 0=List.replicate zs.length 0:=by simp [part]
theorem part_get (zs:List Int) (k i:Nat) (h:k≤zs.length):(part zs k)[i]?=if i<k then zs[i]? else if i<zs.length then some 0 else none:=by
 unfold part
 rw [List.getElem?_append,List.length_take,Nat.min_eq_left h]
 by_cases h1:i<k
 ·rw [if_pos h1,if_pos h1,List.getElem?_take,if_pos h1]
 ·rw [if_neg h1,if_neg h1,List.getElem?_replicate]
  by_cases h2:i<zs.length
  ·rw [if_pos (by omega),if_pos h2]
  ·rw [if_neg (by omega),if_neg h2]
theorem part_set (zs:List Int) (k:Nat) (h:k<zs.length):(part zs k).set k (zs.getD k 0)=part zs (k+1):=by
 apply List.ext_getElem?
 intro i
 rw [List.getElem?_set,part_get _ _ _ (by omega),part_get _ _ _ (by omega),part_len _ _ (by omega)]
 by_cases e:k=i
 ·subst e
  rw [if_pos rfl,if_pos h,if_pos (by omega)]
  simp [h]
 ·rw [if_neg e]
  by_cases h1:i<k
  ·rw [if_pos h1,if_pos (by omega)]
  ·have h3:¬i<k+1:=by omega
   rw [if_neg h1,if_neg h3]
theorem getD_rng {zs:List Int} (h:∀ z ∈ zs,0≤z∧z≤255) (i:Nat):0≤zs.getD i 0∧zs.getD i 0≤255:=by
 rw [List.getD_eq_getElem?_getD]
 by_cases hi:i<zs.length
 ·rw [List.getElem?_eq_getElem hi];exact h _ (List.getElem_mem hi)
 ·rw [List.getElem?_eq_none (by omega)];simp
theorem Own.store {w:World} {B g cap:Nat} {zs:List Int} (h:Own w B g cap zs) (i:Nat) (z:Int) (hz:0≤z∧z≤255):Own (w.setCell ⟨g,i,none⟩ (.int .u8 z)) B g cap (zs.set i z):=by
 have:=(h.1.stored i (.int .u8 z)).1
 refine ⟨?_,?_⟩
 ·simpa [List.map_set] using this
 ·intro y hy
  rcases List.mem_or_eq_of_mem_set hy with hy | rfl
  ·exact h.2 y hy
  ·exact hz
theorem Own.frozen {w:World} {B g cap:Nat} {zs:List Int} (h:Own w B g cap zs) (i:Nat):w.frozen? ⟨g,i,none⟩=false:=h.1.frozenAt i
theorem Own.setCell_other {w:World} {B g cap:Nat} {zs:List Int} (h:Own w B g cap zs) {p:Addr} (hp:p.block≠g) (u:Value):Own (w.setCell p u) B g cap zs:=by
 refine ⟨⟨h.1.1,?_⟩,h.2⟩
 rcases h.1.2 with ⟨h',_⟩ | ⟨g',cap',cur,h',hg,hh,r⟩
 ·simp at h'
 ·have e:g'=g:=by simp at h';exact h'.1.symm
  subst e
  exact .inr ⟨g',cap',cur,h',hg,by rw [Below.heap_setCell _ _ _ _ (by omega)];exact hh,r⟩
theorem Byt.drewN {w:World} {a:Option Addr} {zs:List Int} (h:Byt w a zs) (n:Nat):Byt (w.drewN n) a zs:=h
theorem keep {B:Nat} {w w':World} (h:Below B w w') {b o:Nat} {v:Value} (hb:b<B) (hc:w.cell? ⟨b,o,none⟩=some v):w'.cell? ⟨b,o,none⟩=some v:=(h.cell (p:=⟨b,o,none⟩) hb).trans hc
theorem kp {B:Nat} {w w':World} (h:Below B w w') {b o:Nat} {v:Value} (hb:b<B) (hc:w.cell? ⟨b,o,none⟩=some v):w'.cell? ⟨b,o,none⟩=some v:=(h.cell (p:=⟨b,o,none⟩) hb).trans hc
theorem bAw {w:World} {o:Obj} :Below w.heap.size w (w.alloc o):=((Below.refl _ _).alloc nl _)
theorem keepA {w:World} (ob:Obj) {b o:Nat} {v:Value} (hb:b<w.heap.size) (hc:w.cell? ⟨b,o,none⟩=some v):(w.alloc ob).cell? ⟨b,o,none⟩=some v:=keep ((Below.refl w.heap.size w).alloc nl ob) hb hc
theorem Own.alloc {w:World} {B g cap:Nat} {zs:List Int} (h:Own w B g cap zs) (ob:Obj):Own (w.alloc ob) B g cap zs:=h.below ((Below.refl w.heap.size w).alloc nl ob) nl
theorem Byt.alloc {w:World} {a:Option Addr} {zs:List Int} (h:Byt w a zs) (ob:Obj):Byt (w.alloc ob) a zs:=h.below ((Below.refl w.heap.size w).alloc nl ob) nl
theorem Below.drewS {B:Nat} {w w':World} (h:Below B w.drew w'):Below B w w':=⟨h.os,h.tape,h.output,h.size,h.block⟩
def Ins (w:World) (a:Option Addr) (zs:List Int):Prop:=
 (∀ z ∈ zs,-9223372036854775808≤z∧z≤9223372036854775807)∧(0<zs.length→∃ b off,a=some ⟨b,off,none⟩∧b<w.heap.size∧∀ i,i<zs.length→w.cell? ⟨b,off+i,none⟩=some (.int .i64 (zs.getD i 0)))
def OwI (w:World) (B g cap:Nat) (zs:List Int):Prop:=
 w.ownsRow B 3 1 (.slice (some ⟨g,0,none⟩) zs.length cap) zs.length (zs.map (Value.int .i64))∧∀ z ∈ zs,-9223372036854775808≤z∧z≤9223372036854775807
theorem OwI.lt {w:World} {B g cap:Nat} {zs:List Int} (h:OwI w B g cap zs):B≤g∧g<w.heap.size:=h.1.lt g rfl
theorem OwI.cell {w:World} {B g cap:Nat} {zs:List Int} (h:OwI w B g cap zs) (i:Nat) (hi:i<zs.length):w.cell? ⟨g,i,none⟩=some (.int .i64 (zs.getD i 0)):=by
 rw [h.1.cellAt i (by omega)]
 simp [List.getElem?_eq_getElem hi]
theorem OwI.byt {w:World} {B g cap:Nat} {zs:List Int} (h:OwI w B g cap zs):Ins w (some ⟨g,0,none⟩) zs:=
 ⟨h.2,fun _=>⟨g,0,rfl,h.lt.2,fun i hi=>by rw [Nat.zero_add];exact h.cell i hi⟩⟩
theorem Ins.below {w w':World} {a:Option Addr} {zs:List Int} {B:Nat} (h:Ins w a zs) (hb:Below B w w') (hB:w.heap.size≤B):Ins w' a zs:=by
 refine ⟨h.1,fun hz=>?_⟩
 obtain ⟨b,off,rfl,hlt,hc⟩:=h.2 hz
 refine ⟨b,off,rfl,Nat.lt_of_lt_of_le hlt hb.size,fun i hi=>?_⟩
 rw [hb.cell (p:=⟨b,off+i,none⟩) (Nat.lt_of_lt_of_le hlt hB)]
 exact hc i hi
theorem OwI.below {w w':World} {B B' g cap:Nat} {zs:List Int} (h:OwI w B g cap zs) (hb:Below B' w w') (hB:w.heap.size≤B'):OwI w' B g cap zs:=by
 refine ⟨⟨h.1.1,?_⟩,h.2⟩
 rcases h.1.2 with ⟨h',_⟩ | ⟨g',cap',cur,h',hg,hh,r⟩
 ·simp at h'
 ·refine .inr ⟨g',cap',cur,h',hg,?_,r⟩
  rw [hb.block g' (by have:=(Array.getElem?_eq_some_iff.1 hh).1;omega)]
  exact hh
theorem OwI.mono {w:World} {B B' g cap:Nat} {zs:List Int} (h:OwI w B g cap zs) (hB:B'≤B):OwI w B' g cap zs:=by
 refine ⟨⟨h.1.1,?_⟩,h.2⟩
 rcases h.1.2 with ⟨h',_⟩ | ⟨g',cap',cur,h',hg,r⟩
 ·simp at h'
 ·exact .inr ⟨g',cap',cur,h',by omega,r⟩
theorem Ins.len_pos {w:World} {a:Option Addr} {zs:List Int} (h:Ins w a zs) (i:Nat) (hi:i<zs.length):∃ b off,a=some ⟨b,off,none⟩∧b<w.heap.size∧∀ i,i<zs.length→w.cell? ⟨b,off+i,none⟩=some (.int .i64 (zs.getD i 0)):=h.2 (by omega)
theorem getD_rngI {zs:List Int} (h:∀ z ∈ zs,-9223372036854775808≤z∧z≤9223372036854775807) (i:Nat):-9223372036854775808≤zs.getD i 0∧zs.getD i 0≤9223372036854775807:=by
 rw [List.getD_eq_getElem?_getD]
 by_cases hi:i<zs.length
 ·rw [List.getElem?_eq_getElem hi];exact h _ (List.getElem_mem hi)
 ·rw [List.getElem?_eq_none (by omega)];simp
theorem OwI.store {w:World} {B g cap:Nat} {zs:List Int} (h:OwI w B g cap zs) (i:Nat) (z:Int) (hz:-9223372036854775808≤z∧z≤9223372036854775807):OwI (w.setCell ⟨g,i,none⟩ (.int .i64 z)) B g cap (zs.set i z):=by
 have:=(h.1.stored i (.int .i64 z)).1
 refine ⟨?_,?_⟩
 ·simpa [List.map_set] using this
 ·intro y hy
  rcases List.mem_or_eq_of_mem_set hy with hy | rfl
  ·exact h.2 y hy
  ·exact hz
theorem OwI.frozen {w:World} {B g cap:Nat} {zs:List Int} (h:OwI w B g cap zs) (i:Nat):w.frozen? ⟨g,i,none⟩=false:=h.1.frozenAt i
theorem OwI.drewN {w:World} {B g cap:Nat} {zs:List Int} (h:OwI w B g cap zs) (n:Nat):OwI (w.drewN n) B g cap zs:=h
theorem OwI.alloc {w:World} {B g cap:Nat} {zs:List Int} (h:OwI w B g cap zs) (ob:Obj):OwI (w.alloc ob) B g cap zs:=h.below ((Below.refl w.heap.size w).alloc nl ob) nl
set_option linter.unusedVariables false
theorem Tryz.infoU8 :(Tryz.prog.info? 5).map (fun i=>(i.zero,i.size,i.bytes))=some (some (.int .u8 0),1,1):=by kernel_rfl
theorem made_zero (n:Nat):(madeCells (Value.int .u8 0).cells (n*1)).toList=(List.replicate n (0:Int)).map (Value.int .u8):=by
 simp only [madeCells,Value.cells,Nat.mul_one,Array.toList_map,Array.toList_range,List.map_replicate]
 rw [List.eq_replicate_iff]
 refine ⟨by simp,fun b hb=>?_⟩
 simp only [List.mem_map] at hb
 obtain ⟨x,_,rfl⟩:=hb
 simp [Nat.mod_one]
structure Only (S:Nat→Prop) (w w':World):Prop where
 os:w'.os=w.os
 tape:w'.tape=w.tape
 output:w'.output=w.output
 size:w.heap.size≤w'.heap.size
 block:∀ k,k<w.heap.size→¬S k→w'.heap[k]?=w.heap[k]?
theorem Only.refl (S:Nat→Prop) (w:World):Only S w w:=⟨rfl,rfl,rfl,Nat.le_refl _,fun _ _ _=>rfl⟩
theorem Only.trans {S:Nat→Prop} {a b c:World} (h:Only S a b) (k:Only S b c):Only S a c:=
 ⟨k.os.trans h.os,k.tape.trans h.tape,k.output.trans h.output,Nat.le_trans h.size k.size,fun i hi hs=>(k.block i (Nat.lt_of_lt_of_le hi h.size) hs).trans (h.block i hi hs)⟩
theorem Only.mono {S T:Nat→Prop} {a b:World} (h:Only S a b) (hs:∀ k,k<a.heap.size→S k→T k):Only T a b:=
 ⟨h.os,h.tape,h.output,h.size,fun i hi ht=>h.block i hi (fun hh=>ht (hs i hi hh))⟩
theorem Only.ofBelow {S:Nat→Prop} {B:Nat} {a b:World} (h:Below B a b) (hB:a.heap.size≤B):Only S a b:=⟨h.os,h.tape,h.output,h.size,fun i hi _=>h.block i (by omega)⟩
theorem Only.below {S:Nat→Prop} {B:Nat} {a b:World} (h:Only S a b) (hB:B≤a.heap.size) (hs:∀ k,S k→B≤k):Below B a b:=
 ⟨h.os,h.tape,h.output,h.size,fun k hk=>h.block k (by omega) (fun hh=>by have:=hs k hh;omega)⟩
theorem Only.alloc {S:Nat→Prop} {a b:World} (h:Only S a b) (o:Obj):Only S a (b.alloc o):=
 ⟨h.os,h.tape,h.output,by have:=h.size;simp;omega,fun i hi hs=>(Below.heap_alloc _ _ _ (by have:=h.size;omega)).trans (h.block i hi hs)⟩
theorem Only.drewN {S:Nat→Prop} {a b:World} (h:Only S a b) (n:Nat):Only S a (b.drewN n):=⟨h.os,h.tape,h.output,h.size,h.block⟩
theorem Only.drew {S:Nat→Prop} {a b:World} (h:Only S a b):Only S a b.drew:=⟨h.os,h.tape,h.output,h.size,h.block⟩
theorem Only.setCell {S:Nat→Prop} {a b:World} (h:Only S a b) {p:Addr} (hp:S p.block∨a.heap.size≤p.block) (u:Value):Only S a (b.setCell p u):=by
 refine ⟨h.os,h.tape,h.output,by have:=h.size;simp [World.setCell];omega,fun i hi hs=>?_⟩
 have hne:i≠p.block:=by
  rintro rfl
  rcases hp with hp | hp
  ·exact hs hp
  ·omega
 exact (Below.heap_setCell _ _ _ _ hne).trans (h.block i hi hs)
theorem Only.grown {S:Nat→Prop} {a b c:World} {row:Option Nat} (h:Only S a b) (hg:b.grownBy c row) (hr:∀ k,row=some k→S k∨a.heap.size≤k):Only S a c:=
 ⟨hg.os.trans h.os,hg.tape.trans h.tape,hg.output.trans h.output,Nat.le_trans h.size hg.size,fun i hi hs=>(hg.block i (Nat.lt_of_lt_of_le hi h.size) (fun e=>by
  rcases hr i e.symm with hh | hh
  ·exact hs hh
  ·omega)).trans (h.block i hi hs)⟩
theorem Only.cell {S:Nat→Prop} {w w':World} (h:Only S w w') {b o:Nat} {v:Value} (hb:b<w.heap.size) (hs:¬S b) (hc:w.cell? ⟨b,o,none⟩=some v):w'.cell? ⟨b,o,none⟩=some v:=
 (World.cell?_of_block (w:=w) (a:=⟨b,o,none⟩) (h.block b hb hs)).trans hc
theorem Own.only {S:Nat→Prop} {w w':World} {B g cap:Nat} {zs:List Int} (h:Own w B g cap zs) (ho:Only S w w') (hs:¬S g):Own w' B g cap zs:=by
 refine ⟨⟨h.1.1,?_⟩,h.2⟩
 have hlt:=h.lt.2
 rcases h.1.2 with ⟨h',_⟩ | ⟨g',cap',cur,h',hg,hh,r⟩
 ·simp at h'
 ·have e:g'=g:=by simp at h';exact h'.1.symm
  subst e
  exact .inr ⟨g',cap',cur,h',hg,by rw [ho.block g' hlt hs];exact hh,r⟩
def Mine (w:World) (B U:Nat) (a:Option Addr) (cap:Nat) (zs:List Int):Prop:=
 (a=none∧zs=[]∧cap=0)∨∃ g,a=some ⟨g,0,none⟩∧B≤g∧g<U∧Own w B g cap zs
theorem Mine.byt {w:World} {B U:Nat} {a:Option Addr} {cap:Nat} {zs:List Int} (h:Mine w B U a cap zs):Byt w a zs:=by
 rcases h with ⟨rfl,rfl,rfl⟩ | ⟨g,rfl,_,_,h⟩
 ·exact ⟨by simp,by simp⟩
 ·exact h.byt
theorem Mine.only {S:Nat→Prop} {w w':World} {B U:Nat} {a:Option Addr} {cap:Nat} {zs:List Int} (h:Mine w B U a cap zs) (ho:Only S w w') (hs:∀ k,B≤k→k<U→¬S k):Mine w' B U a cap zs:=by
 rcases h with h | ⟨g,rfl,h1,h2,h⟩
 ·exact .inl h
 ·exact .inr ⟨g,rfl,h1,h2,h.only ho (hs g h1 h2)⟩
theorem Mine.below {w w':World} {B U:Nat} {a:Option Addr} {cap:Nat} {zs:List Int} (h:Mine w B U a cap zs) (ho:Below w.heap.size w w'):Mine w' B U a cap zs:=h.only (Only.ofBelow (S:=fun _=>False) ho nl) (by simp)
theorem Mine.mono {w:World} {B U B' U':Nat} {a:Option Addr} {cap:Nat} {zs:List Int} (h:Mine w B U a cap zs) (h1:B'≤B) (h2:U≤U'):Mine w B' U' a cap zs:=by
 rcases h with h | ⟨g,rfl,g1,g2,h⟩
 ·exact .inl h
 ·exact .inr ⟨g,rfl,by omega,by omega,h.mono h1⟩
theorem Own.mine {w:World} {B g cap:Nat} {zs:List Int} (h:Own w B g cap zs):Mine w B w.heap.size (some ⟨g,0,none⟩) cap zs:=.inr ⟨g,rfl,h.lt.1,h.lt.2,h⟩
def rowOf (a:Option Addr) (k:Nat):Prop:=∃ x:Addr,a=some x∧x.block=k
theorem Tryz.infoI64 :(Tryz.prog.info? 3).map (fun i=>(i.zero,i.size,i.bytes))=some (some (.int .i64 0),1,8):=by kernel_rfl
theorem made_zeroI (n:Nat):(madeCells (Value.int .i64 0).cells (n*1)).toList=(List.replicate n (0:Int)).map (Value.int .i64):=by
 simp only [madeCells,Value.cells,Nat.mul_one,Array.toList_map,Array.toList_range,List.map_replicate]
 rw [List.eq_replicate_iff]
 refine ⟨by simp,fun b hb=>?_⟩
 simp only [List.mem_map] at hb
 obtain ⟨x,_,rfl⟩:=hb
 simp [Nat.mod_one]
theorem OwI.only {S:Nat→Prop} {w w':World} {B g cap:Nat} {zs:List Int} (h:OwI w B g cap zs) (ho:Only S w w') (hs:¬S g):OwI w' B g cap zs:=by
 refine ⟨⟨h.1.1,?_⟩,h.2⟩
 have hlt:=h.lt.2
 rcases h.1.2 with ⟨h',_⟩ | ⟨g',cap',cur,h',hg,hh,r⟩
 ·simp at h'
 ·have e:g'=g:=by simp at h';exact h'.1.symm
  subst e
  exact .inr ⟨g',cap',cur,h',hg,by rw [ho.block g' hlt hs];exact hh,r⟩
def MinI (w:World) (B U:Nat) (a:Option Addr) (cap:Nat) (zs:List Int):Prop:=
 (a=none∧zs=[]∧cap=0)∨∃ g,a=some ⟨g,0,none⟩∧B≤g∧g<U∧OwI w B g cap zs
theorem MinI.byt {w:World} {B U:Nat} {a:Option Addr} {cap:Nat} {zs:List Int} (h:MinI w B U a cap zs):Ins w a zs:=by
 rcases h with ⟨rfl,rfl,rfl⟩ | ⟨g,rfl,_,_,h⟩
 ·exact ⟨by simp,by simp⟩
 ·exact h.byt
theorem MinI.only {S:Nat→Prop} {w w':World} {B U:Nat} {a:Option Addr} {cap:Nat} {zs:List Int} (h:MinI w B U a cap zs) (ho:Only S w w') (hs:∀ k,B≤k→k<U→¬S k):MinI w' B U a cap zs:=by
 rcases h with h | ⟨g,rfl,h1,h2,h⟩
 ·exact .inl h
 ·exact .inr ⟨g,rfl,h1,h2,h.only ho (hs g h1 h2)⟩
theorem MinI.below {w w':World} {B U:Nat} {a:Option Addr} {cap:Nat} {zs:List Int} (h:MinI w B U a cap zs) (ho:Below w.heap.size w w'):MinI w' B U a cap zs:=h.only (Only.ofBelow (S:=fun _=>False) ho nl) (by simp)
theorem MinI.mono {w:World} {B U B' U':Nat} {a:Option Addr} {cap:Nat} {zs:List Int} (h:MinI w B U a cap zs) (h1:B'≤B) (h2:U≤U'):MinI w B' U' a cap zs:=by
 rcases h with h | ⟨g,rfl,g1,g2,h⟩
 ·exact .inl h
 ·exact .inr ⟨g,rfl,by omega,by omega,h.mono h1⟩
theorem OwI.mine {w:World} {B g cap:Nat} {zs:List Int} (h:OwI w B g cap zs):MinI w B w.heap.size (some ⟨g,0,none⟩) cap zs:=.inr ⟨g,rfl,h.lt.1,h.lt.2,h⟩
theorem all_take_succ {p:Int→Prop} {zs:List Int} {k:Nat} (h:∀ z ∈ zs.take k,p z) (hk:k<zs.length) (hp:p (zs.getD k 0)):∀ z ∈ zs.take (k+1),p z:=by
 intro z hz
 rw [List.take_succ_eq_append_getElem hk] at hz
 rcases List.mem_append.1 hz with hz | hz
 ·exact h z hz
 ·simp at hz
  subst hz
  simpa [List.getD_eq_getElem?_getD,List.getElem?_eq_getElem hk] using hp
theorem getD_mem {zs:List Int} {k:Nat} (hk:k<zs.length):zs.getD k 0 ∈ zs:=by
 rw [List.getD_eq_getElem?_getD,List.getElem?_eq_getElem hk];exact List.getElem_mem hk
def bump (cs:List Int) (z:Int):List Int:=cs.set z.toNat (cs.getD z.toNat 0+1)
theorem bump_len (cs:List Int) (z:Int):(bump cs z).length=cs.length:=by simp [bump]
theorem bump_rng {cs:List Int} {z:Int} {m:Int} (h:∀ c ∈ cs,0≤c∧c≤m) (hm:0≤m):∀ c ∈ bump cs z,0≤c∧c≤m+1:=by
 intro c hc
 have hg:0≤cs.getD z.toNat 0∧cs.getD z.toNat 0≤m:=by
  rw [List.getD_eq_getElem?_getD]
  by_cases hi:z.toNat<cs.length
  ·rw [List.getElem?_eq_getElem hi];exact h _ (List.getElem_mem hi)
  ·rw [List.getElem?_eq_none (by omega)];simp;omega
 rcases List.mem_or_eq_of_mem_set hc with hc | rfl
 ·have:=h c hc;omega
 ·omega
def txtB (zs:List Int) (n:Int):Bool:=decide (1≤n∧n≤80∧zs.length≤300∧∀ z ∈ zs,0≤z∧z<n)
theorem txtB_bad {zs:List Int} {n:Int} {k:Nat} (hk:k<zs.length) (h:¬(0≤zs.getD k 0∧zs.getD k 0<n)):txtB zs n=false:=by
 simp only [txtB,decide_eq_false_iff_not]
 exact fun h'=>h (h'.2.2.2 _ (getD_mem hk))
theorem txtB_all {zs:List Int} {n:Int} (h1:1≤n) (h2:n≤80) (h3:zs.length≤300) (h:∀ z ∈ zs.take zs.length,0≤z∧z<n):txtB zs n=true:=by
 rw [List.take_length] at h
 simp only [txtB,decide_eq_true_eq]
 exact ⟨h1,h2,h3,h⟩
theorem txtB_len {zs:List Int} {n:Int} (h:¬(1≤n∧n≤80∧zs.length≤300)):txtB zs n=false:=by
 simp only [txtB,decide_eq_false_iff_not]
 exact fun h'=>h ⟨h'.1,h'.2.1,h'.2.2.1⟩
theorem implTxt_any (a:Option Addr) (cap:Nat) (zs:List Int) (s:Int) (w:World) (hb:Ins w a zs) (hn:zs.length≤281474976710656) :
  Calls Tryz.prog 44 #[.slice a zs.length cap,.int .i64 s] w fun e w'=>e=.returned (.bool (txtB zs s))∧w'=w:=by
 by_cases h:1≤s∧s≤80∧zs.length≤300
 ·obtain ⟨h1,h2,h5⟩:=h
  generalize hlen:zs.length=n at *
  have HL:Hid (zs.length=n):=hlen
  clear hlen
  go_enter Tryz.func44,Tryz.ntmps44
  go_wp2
  go_loop [20] (fun i=>∃ k:Nat,k≤n∧i=.int .i64 k∧∀ z ∈ zs.take k,0≤z∧z<s) (fun i=>n-(intOf i).toNat)
  case atStart=>exact ⟨0,Nat.zero_le _,rfl,by simp⟩
  case round=>
   obtain ⟨k,hk,rfl,htk⟩:=hrel
   have HT:Hid (∀ z ∈ zs.take k,0≤z∧z<s):=htk
   clear htk
   by_cases hlt:k<n
   ·obtain ⟨b1,o1,rfl,hb1,hc1⟩:=hb.len_pos k (by rw [HL.out];exact hlt)
    have hs1:=hc1 k (by rw [HL.out];exact hlt)
    have g1:=getD_rngI hb.1 k
    clear hc1 hb
    generalize hx:zs.getD k 0=x at *
    have HX:Hid (zs.getD k 0=x):=hx
    clear hx
    by_cases h3:0≤x
    ·by_cases h4:x<s
     ·have HT':Hid (∀ z ∈ zs.take (k+1),0≤z∧z<s):=all_take_succ HT.out (by rw [HL.out];exact hlt) (by rw [HX.out];exact ⟨h3,h4⟩)
      go_wp2
      go_round
      case rel=>exact ⟨k+1,by omega,by go_num,HT'.out⟩
      case measure=>simp [intOf];omega
     ·have HN:Hid (txtB zs s=false):=txtB_bad (by rw [HL.out];exact hlt) (by rw [HX.out];omega)
      go_wp2
      go_ret
      exact ⟨by simp [HN.out],rfl⟩
    ·have HN:Hid (txtB zs s=false):=txtB_bad (by rw [HL.out];exact hlt) (by rw [HX.out];omega)
     go_wp2
     go_ret
     exact ⟨by simp [HN.out],rfl⟩
   ·have hkn:k=n:=by omega
    subst hkn
    have HE:Hid (txtB zs s=true):=txtB_all h1 h2 (by rw [HL.out];exact h5) (by rw [HL.out];exact HT.out)
    go_wp2
    go_ret
    exact ⟨by simp [HE.out],rfl⟩
 ·rw [txtB_len h]
  go_enter Tryz.func44,Tryz.ntmps44
  by_cases c1:s<1
  ·go_wp2
   go_ret
   exact ⟨rfl,rfl⟩
  ·by_cases c2:80<s
   ·go_wp2
    go_ret
    exact ⟨rfl,rfl⟩
   ·have c3:300<zs.length:=by omega
    go_wp2
    go_ret
    exact ⟨rfl,rfl⟩
def cnts (zs:List Int) (n:Nat):List Int:=zs.foldl bump (List.replicate n 0)
theorem cnts_len (zs:List Int) (n:Nat):(cnts zs n).length=n:=by
 unfold cnts
 have:∀ (zs cs:List Int),(zs.foldl bump cs).length=cs.length:=by
  intro zs
  induction zs with
  | nil=>intro cs;rfl
  | cons z zs ih=>intro cs;rw [List.foldl_cons,ih,bump_len]
 rw [this]
 simp
theorem cnts_rng (zs:List Int) (n:Nat):∀ c ∈ cnts zs n,0≤c∧c≤zs.length:=by
 have:∀ (zs cs:List Int) (m:Int),0≤m→(∀ c ∈ cs,0≤c∧c≤m)→∀ c ∈ zs.foldl bump cs,0≤c∧c≤m+zs.length:=by
  intro zs
  induction zs with
  | nil=>intro cs m _ h;simpa using h
  | cons z zs ih=>
   intro cs m hm h c hc
   have:=ih (bump cs z) (m+1) (by omega) (bump_rng h hm) c (by simpa using hc)
   simp only [List.length_cons]
   omega
 intro c hc
 have:=this zs (List.replicate n 0) 0 (by omega) (by simp) c hc
 omega
theorem cnts_take_succ (zs:List Int) (n k:Nat) (h:k<zs.length):bump (cnts (zs.take k) n) (zs.getD k 0)=cnts (zs.take (k+1)) n:=by
 unfold cnts
 rw [List.take_succ_eq_append_getElem h,List.foldl_append]
 simp [List.getD_eq_getElem?_getD,List.getElem?_eq_getElem h]
theorem txtB_get {zs:List Int} {n:Int} (h:txtB zs n=true) (k:Nat) (hk:k<zs.length):0≤zs.getD k 0∧zs.getD k 0<n:=by
 simp only [txtB,decide_eq_true_eq] at h
 exact h.2.2.2 _ (getD_mem hk)
theorem txtB_bnd {zs:List Int} {n:Int} (h:txtB zs n=true):1≤n∧n≤80∧zs.length≤300:=by
 simp only [txtB,decide_eq_true_eq] at h
 exact ⟨h.1,h.2.1,h.2.2.1⟩
def cntB (zs:List Int):Bool:=decide (1≤zs.length∧zs.length≤80∧∀ z ∈ zs,0≤z∧z≤1000000)
theorem cntB_bad {zs:List Int} {k:Nat} (hk:k<zs.length) (h:¬(0≤zs.getD k 0∧zs.getD k 0≤1000000)):cntB zs=false:=by
 simp only [cntB,decide_eq_false_iff_not]
 exact fun h'=>h (h'.2.2 _ (getD_mem hk))
theorem cntB_all {zs:List Int} (h1:1≤zs.length) (h2:zs.length≤80) (h:∀ z ∈ zs.take zs.length,0≤z∧z≤1000000):cntB zs=true:=by
 rw [List.take_length] at h
 simp only [cntB,decide_eq_true_eq]
 exact ⟨h1,h2,h⟩
theorem cntB_len {zs:List Int} (h:¬(1≤zs.length∧zs.length≤80)):cntB zs=false:=by
 simp only [cntB,decide_eq_false_iff_not]
 exact fun h'=>h ⟨h'.1,h'.2.1⟩
theorem implCnt_any (a:Option Addr) (cap:Nat) (zs:List Int) (w:World) (hb:Ins w a zs) (hn:zs.length≤281474976710656) :
  Calls Tryz.prog 119 #[.slice a zs.length cap] w fun e w'=>e=.returned (.bool (cntB zs))∧w'=w:=by
 by_cases h1:1≤zs.length
 ·by_cases h2:zs.length≤80
  ·generalize hlen:zs.length=n at *
   have HL:Hid (zs.length=n):=hlen
   clear hlen
   go_enter Tryz.func119,Tryz.ntmps119
   go_wp2
   go_loop [15] (fun i=>∃ k:Nat,k≤n∧i=.int .i64 k∧∀ z ∈ zs.take k,0≤z∧z≤1000000) (fun i=>n-(intOf i).toNat)
   case atStart=>exact ⟨0,Nat.zero_le _,rfl,by simp⟩
   case round=>
    obtain ⟨k,hk,rfl,htk⟩:=hrel
    have HT:Hid (∀ z ∈ zs.take k,0≤z∧z≤1000000):=htk
    clear htk
    by_cases hlt:k<n
    ·obtain ⟨b1,o1,rfl,hb1,hc1⟩:=hb.len_pos k (by rw [HL.out];exact hlt)
     have hs1:=hc1 k (by rw [HL.out];exact hlt)
     have g1:=getD_rngI hb.1 k
     clear hc1 hb
     generalize hx:zs.getD k 0=x at *
     have HX:Hid (zs.getD k 0=x):=hx
     clear hx
     by_cases h3:0≤x
     ·by_cases h4:x≤1000000
      ·have HT':Hid (∀ z ∈ zs.take (k+1),0≤z∧z≤1000000):=all_take_succ HT.out (by rw [HL.out];exact hlt) (by rw [HX.out];exact ⟨h3,h4⟩)
       go_wp2
       go_round
       case rel=>exact ⟨k+1,by omega,by go_num,HT'.out⟩
       case measure=>simp [intOf];omega
      ·have HN:Hid (cntB zs=false):=cntB_bad (by rw [HL.out];exact hlt) (by rw [HX.out];omega)
       go_wp2
       go_ret
       exact ⟨by simp [HN.out],rfl⟩
     ·have HN:Hid (cntB zs=false):=cntB_bad (by rw [HL.out];exact hlt) (by rw [HX.out];omega)
      go_wp2
      go_ret
      exact ⟨by simp [HN.out],rfl⟩
    ·have hkn:k=n:=by omega
     subst hkn
     have HE:Hid (cntB zs=true):=cntB_all (by rw [HL.out];exact h1) (by rw [HL.out];exact h2) (by rw [HL.out];exact HT.out)
     go_wp2
     go_ret
     exact ⟨by simp [HE.out],rfl⟩
  ·rw [cntB_len (by omega)]
   go_enter Tryz.func119,Tryz.ntmps119
   go_wp2
   go_ret
   exact ⟨rfl,rfl⟩
 ·rw [cntB_len (by omega)]
  go_enter Tryz.func119,Tryz.ntmps119
  go_wp2
  go_ret
  exact ⟨rfl,rfl⟩
set_option linter.unusedSimpArgs false
inductive Pc where
 | coin (s c:Nat)
 | pack (a b:Pc) (n:Nat)
def Pc.wt :Pc→Nat
 | .coin s c=>c
 | .pack a b n=>a.wt+b.wt
def Pc.plc :Pc→Nat
 | .coin s c=>s
 | .pack a b n=>80+n
def Pc.bd :Pc→Value
 | .coin s c=>.agg #[.int .i64 s,.int .i64 c]
 | .pack a b n=>.agg #[match a with | .coin _ _=>.iface 198 a.bd | .pack _ _ _=>.iface 205 a.bd,match b with | .coin _ _=>.iface 198 b.bd | .pack _ _ _=>.iface 205 b.bd,.int .i64 ((a.wt+b.wt:Nat):Int),.int .i64 n]
def Pc.vl :Pc→Value
 | .coin s c=>.iface 198 (Pc.coin s c).bd
 | .pack a b n=>.iface 205 (Pc.pack a b n).bd
theorem Pc.bd_pack (a b:Pc) (n:Nat):(Pc.pack a b n).bd=.agg #[a.vl,b.vl,.int .i64 ((a.wt+b.wt:Nat):Int),.int .i64 n]:=by
 cases a <;> cases b <;> rfl
def Pc.fine (p:Pc):Prop:=p.wt≤1000000000000∧p.plc≤1000
theorem Pc.one (p:Pc):p.vl.oneCell'=true:=by cases p <;> rfl
theorem Pc.form (p:Pc):∃ t x,p.vl=.iface t x:=by cases p <;> exact ⟨_,_,rfl⟩
def Pc.key (p:Pc):Nat:=p.wt*1024+p.plc
theorem Tryz.meth_coin_weight (v : Value) (w : World) : Sem.run Tryz.prog (method 383 198 v "loop.example/g00528/impl.weight") w = .ok (184, v) w := by kernel_rfl
theorem Tryz.meth_coin_place (v : Value) (w : World) : Sem.run Tryz.prog (method 383 198 v "loop.example/g00528/impl.place") w = .ok (183, v) w := by kernel_rfl
theorem Tryz.meth_coin_countInto (v : Value) (w : World) : Sem.run Tryz.prog (method 383 198 v "loop.example/g00528/impl.countInto") w = .ok (182, v) w := by kernel_rfl
theorem Tryz.meth_coinPack_weight (v : Value) (w : World) : Sem.run Tryz.prog (method 383 205 v "loop.example/g00528/impl.weight") w = .ok (193, v) w := by kernel_rfl
theorem Tryz.meth_coinPack_place (v : Value) (w : World) : Sem.run Tryz.prog (method 383 205 v "loop.example/g00528/impl.place") w = .ok (192, v) w := by kernel_rfl
theorem Tryz.meth_coinPack_countInto (v : Value) (w : World) : Sem.run Tryz.prog (method 383 205 v "loop.example/g00528/impl.countInto") w = .ok (191, v) w := by kernel_rfl
theorem coinWeight_any (s c:Nat) (w:World):Calls Tryz.prog 184 #[.agg #[.int .i64 s,.int .i64 c]] w fun e w'=>e=.returned (.int .i64 c)∧Below w.heap.size w w':=by
 go_enter Tryz.func184,Tryz.ntmps184
 go_wp2
 go_ret
 exact ⟨rfl,(Below.refl _ _).alloc nl _⟩
theorem coinPlace_any (s c:Nat) (w:World):Calls Tryz.prog 183 #[.agg #[.int .i64 s,.int .i64 c]] w fun e w'=>e=.returned (.int .i64 s)∧Below w.heap.size w w':=by
 go_enter Tryz.func183,Tryz.ntmps183
 go_wp2
 go_ret
 exact ⟨rfl,(Below.refl _ _).alloc nl _⟩
theorem packWeight_any (a b:Pc) (n:Nat) (w:World):Calls Tryz.prog 193 #[(Pc.pack a b n).bd] w fun e w'=>e=.returned (.int .i64 ((Pc.pack a b n).wt:Nat))∧Below w.heap.size w w':=by
 rw [Pc.bd_pack]
 show Calls _ _ _ _ fun e w'=>e=.returned (.int .i64 ((a.wt+b.wt:Nat):Int))∧_
 generalize a.wt+b.wt=m
 generalize a.vl=va
 generalize b.vl=vb
 go_enter Tryz.func193,Tryz.ntmps193
 go_wp2
 go_ret
 exact ⟨rfl,(Below.refl _ _).alloc nl _⟩
theorem packPlace_any (a b:Pc) (n:Nat) (w:World) (hn:n≤1000):Calls Tryz.prog 192 #[(Pc.pack a b n).bd] w fun e w'=>e=.returned (.int .i64 ((80+n:Nat):Int))∧Below w.heap.size w w':=by
 rw [Pc.bd_pack]
 generalize a.wt+b.wt=m
 generalize a.vl=va
 generalize b.vl=vb
 have h1:((80+n:Nat):Int)=80+(n:Int):=by omega
 rw [h1]
 go_enter Tryz.func192,Tryz.ntmps192
 go_wp2
 go_ret
 exact ⟨by go_num,(Below.refl _ _).alloc nl _⟩
theorem nan_any (x:Int) (w:World):Calls Tryz.prog 189 #[.int .i64 x] w fun e w'=>e=.returned (.bool false)∧w'=w:=by
 have hx:(x != x)=false:=by simp
 go_enter Tryz.func189,Tryz.ntmps189
 go_wp2
 go_ret
 exact ⟨by simp,rfl⟩
def cmp3 (x y:Nat):Int:=if x<y then -1 else if y<x then 1 else 0
theorem compare_any (x y:Nat) (w:World):Calls Tryz.prog 187 #[.int .i64 x,.int .i64 y] w fun e w'=>e=.returned (.int .i64 (cmp3 x y))∧Below w.heap.size w w':=by
 have HX:=nan_any x w
 have HY:=nan_any y w
 unfold cmp3
 by_cases h1:x<y
 ·rw [if_pos h1]
  have h2:(x:Int)<(y:Int):=by omega
  go_enter Tryz.func187,Tryz.ntmps187
  go_wp2_with fail
  refine HX.mono ?_
  rintro e w1 ⟨rfl,rfl⟩
  go_wp2_with fail
  refine HY.mono ?_
  rintro e w1 ⟨rfl,rfl⟩
  go_wp2
  go_ret
  exact ⟨rfl,Below.refl _ _⟩
 ·rw [if_neg h1]
  have h2:¬(x:Int)<(y:Int):=by omega
  by_cases h3:y<x
  ·rw [if_pos h3]
   have h4:(y:Int)<(x:Int):=by omega
   go_enter Tryz.func187,Tryz.ntmps187
   go_wp2_with fail
   refine HX.mono ?_
   rintro e w1 ⟨rfl,rfl⟩
   go_wp2_with fail
   refine HY.mono ?_
   rintro e w1 ⟨rfl,rfl⟩
   go_wp2
   go_ret
   exact ⟨rfl,Below.refl _ _⟩
  ·rw [if_neg h3]
   have h4:¬(y:Int)<(x:Int):=by omega
   go_enter Tryz.func187,Tryz.ntmps187
   go_wp2_with fail
   refine HX.mono ?_
   rintro e w1 ⟨rfl,rfl⟩
   go_wp2_with fail
   refine HY.mono ?_
   rintro e w1 ⟨rfl,rfl⟩
   go_wp2
   go_ret
   exact ⟨rfl,Below.refl _ _⟩
def dpc :Pc:=.coin 0 0
def Pcs (w:World) (a:Option Addr) (ps:List Pc):Prop:=
 0<ps.length→∃ b off,a=some ⟨b,off,none⟩∧b<w.heap.size∧∀ i,i<ps.length→w.cell? ⟨b,off+i,none⟩=some (ps.getD i dpc).vl
theorem Pcs.below {w w':World} {a:Option Addr} {ps:List Pc} (h:Pcs w a ps) (hb:Below w.heap.size w w'):Pcs w' a ps:=fun h0=>by
 obtain ⟨b,o,e,hl,hc⟩:=h h0
 exact ⟨b,o,e,Nat.lt_of_lt_of_le hl hb.size,fun i hi=>keep hb hl (hc i hi)⟩
def orZ (x y:Int):Int:=if x=0 then y else x
theorem or_any (g:Nat) (x y:Int) (w:World) (hx:w.cell? ⟨g,0,none⟩=some (.int .i64 x)) (hy:w.cell? ⟨g,1,none⟩=some (.int .i64 y)) :
  Calls Tryz.prog 188 #[.slice (some ⟨g,0,none⟩) 2 2] w fun e w'=>e=.returned (.int .i64 (orZ x y))∧w'=w:=by
 unfold orZ
 by_cases h0:x=0
 ·rw [if_pos h0]
  have d0:(x != 0)=false:=by simp [h0]
  by_cases h1:y=0
  ·have d1:(y != 0)=false:=by simp [h1]
   go_enter Tryz.func188,Tryz.ntmps188
   go_wp2
   refine wp_loop_rounds 3 ?_
   rw [rounds_succ]
   go_wp2
   rw [rounds_succ]
   go_wp2
   rw [rounds_succ]
   go_wp2
   go_ret
   exact ⟨by rw [h1];rfl,rfl⟩
  ·have d1:(y != 0)=true:=by simp [h1]
   go_enter Tryz.func188,Tryz.ntmps188
   go_wp2
   refine wp_loop_rounds 2 ?_
   rw [rounds_succ]
   go_wp2
   rw [rounds_succ]
   go_wp2
   go_ret
   exact ⟨rfl,rfl⟩
 ·rw [if_neg h0]
  have d0:(x != 0)=true:=by simp [h0]
  go_enter Tryz.func188,Tryz.ntmps188
  go_wp2
  refine wp_loop_rounds 1 ?_
  rw [rounds_succ]
  go_wp2
  go_ret
  exact ⟨rfl,rfl⟩
theorem key_lt (p q:Pc) (hp:p.fine) (hq:q.fine):decide (orZ (cmp3 p.wt q.wt) (cmp3 p.plc q.plc)<0)=decide (p.key<q.key):=by
 obtain ⟨h1,h2⟩:=hp
 obtain ⟨h3,h4⟩:=hq
 unfold Pc.key orZ cmp3
 congr 1
 apply propext
 repeat' split
 all_goals omega
end Go.Proofs.YtfeokafkhnbdiaaGreatDoor
