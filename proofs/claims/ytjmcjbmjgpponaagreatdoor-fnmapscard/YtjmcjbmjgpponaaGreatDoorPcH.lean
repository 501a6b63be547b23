import Derived.WalkKit
import Derived.ProofKit
import Derived.Below
import Derived.Deep.Draws
import Derived.Test.YtjmcjbmjgpponaaGreatDoorProg
import Derived.WalkLawsBesides
import Derived.Outline
import Derived.BigQuiet
import Derived.Deep.QuietTactic
import Derived.Deep.RegionHeld3
import Derived.BigRegion
namespace Go.Proofs.YtjmcjbmjgpponaaGreatDoor
open Go.RowKit
def Byt (w:World) (a:Option Addr) (zs:List Int):Prop:=
 (∀ z ∈ zs,0<=z/\z<=255)/\(0<zs.length->∃ b off,a=some ⟨b,off,none⟩/\b<w.heap.size/\∀ i,i<zs.length->w.cell? ⟨b,off+i,none⟩=some (.int .u8 (zs.getD i 0)))
def Own (w:World) (B g cap:Nat) (zs:List Int):Prop:=
 w.ownsRow B 5 1 (.slice (some ⟨g,0,none⟩) zs.length cap) zs.length (zs.map (Value.int .u8))/\∀ z ∈ zs,0<=z/\z<=255
theorem nl {n:Nat} :n<=n:=Nat.le_refl n
theorem Own.lt {w:World} {B g cap:Nat} {zs:List Int} (h:Own w B g cap zs):B<=g/\g<w.heap.size:=h.1.lt g rfl
theorem Own.cell {w:World} {B g cap:Nat} {zs:List Int} (h:Own w B g cap zs) (i:Nat) (hi:i<zs.length):w.cell? ⟨g,i,none⟩=some (.int .u8 (zs.getD i 0)):=by
 rw [h.1.cellAt i (by omega)]
 simp [List.getElem?_eq_getElem hi]
theorem Own.byt {w:World} {B g cap:Nat} {zs:List Int} (h:Own w B g cap zs):Byt w (some ⟨g,0,none⟩) zs:=
 ⟨h.2,fun _=>⟨g,0,rfl,h.lt.2,fun i hi=>by rw [Nat.zero_add];exact h.cell i hi⟩⟩
theorem Byt.below {w w':World} {a:Option Addr} {zs:List Int} {B:Nat} (h:Byt w a zs) (hb:Below B w w') (hB:w.heap.size<=B):Byt w' a zs:=by
 refine ⟨h.1,fun hz=>?_⟩
 obtain ⟨b,off,rfl,hlt,hc⟩:=h.2 hz;refine ⟨b,off,rfl,Nat.lt_of_lt_of_le hlt hb.size,fun i hi=>?_⟩
 rw [hb.cell (p:=⟨b,off+i,none⟩) (Nat.lt_of_lt_of_le hlt hB)];exact hc i hi
theorem Own.below {w w':World} {B B' g cap:Nat} {zs:List Int} (h:Own w B g cap zs) (hb:Below B' w w') (hB:w.heap.size<=B'):Own w' B g cap zs:=by
 refine ⟨⟨h.1.1,?_⟩,h.2⟩;rcases h.1.2 with ⟨h',_⟩ | ⟨g',cap',cur,h',hg,hh,r⟩
 ·simp at h'
 ·refine .inr ⟨g',cap',cur,h',hg,?_,r⟩
  rw [hb.block g' (by have:=(Array.getElem?_eq_some_iff.1 hh).1;omega)]
  exact hh
theorem Own.mono {w:World} {B B' g cap:Nat} {zs:List Int} (h:Own w B g cap zs) (hB:B'<=B):Own w B' g cap zs:=by
 refine ⟨⟨h.1.1,?_⟩,h.2⟩;rcases h.1.2 with ⟨h',_⟩ | ⟨g',cap',cur,h',hg,r⟩
 ·simp at h'
 ·exact .inr ⟨g',cap',cur,h',by omega,r⟩
theorem Byt.len_pos {w:World} {a:Option Addr} {zs:List Int} (h:Byt w a zs) (i:Nat) (hi:i<zs.length):∃ b off,a=some ⟨b,off,none⟩/\b<w.heap.size/\∀ i,i<zs.length->w.cell? ⟨b,off+i,none⟩=some (.int .u8 (zs.getD i 0)):=h.2 (by omega)
theorem z70 {k:IntKind} {a b:Int} (h:a=b):Ending.returned (.int k a)=.returned (.int k b):=by rw [h]
def part (zs:List Int) (k:Nat):List Int:=zs.take k++List.replicate (zs.length-k) 0
theorem z2m (zs:List Int) (k:Nat) (h:k<=zs.length):(part zs k).length=zs.length:=by simp [part];omega
theorem z7x (zs:List Int):part zs zs.length=zs:=by simp [part]
theorem z3r (zs:List Int):part zs 0=List.replicate zs.length 0:=by simp [part]
theorem z5i (zs:List Int) (k i:Nat) (h:k<=zs.length):(part zs k)[i]?=if i<k then zs[i]? else if i<zs.length then some 0 else none:=by
 unfold part;rw [List.getElem?_append,List.length_take,Nat.min_eq_left h]
 by_cases h1:i<k
 ·rw [if_pos h1,if_pos h1,List.getElem?_take,if_pos h1]
 ·rw [if_neg h1,if_neg h1,List.getElem?_replicate]
  by_cases h2:i<zs.length
  ·rw [if_pos (by omega),if_pos h2]
  ·rw [if_neg (by omega),if_neg h2]
theorem z3d (zs:List Int) (k:Nat) (h:k<zs.length):(part zs k).set k (zs.getD k 0)=part zs (k+1):=by
 apply List.ext_getElem?
 intro i
 rw [List.getElem?_set,z5i _ _ _ (by omega),z5i _ _ _ (by omega),z2m _ _ (by omega)]
 by_cases e:k=i
 ·subst e
  rw [if_pos rfl,if_pos h,if_pos (by omega)]
  simp [h]
 ·rw [if_neg e]
  by_cases h1:i<k
  ·rw [if_pos h1,if_pos (by omega)]
  ·have h3:¬i<k+1:=by omega
   rw [if_neg h1,if_neg h3]
theorem z0s {zs:List Int} (h:∀ z ∈ zs,0<=z/\z<=255) (i:Nat):0<=zs.getD i 0/\zs.getD i 0<=255:=by
 rw [List.getD_eq_getElem?_getD]
 by_cases hi:i<zs.length
 ·rw [List.getElem?_eq_getElem hi];exact h _ (List.getElem_mem hi)
 ·rw [List.getElem?_eq_none (by omega)];simp
theorem Own.store {w:World} {B g cap:Nat} {zs:List Int} (h:Own w B g cap zs) (i:Nat) (z:Int) (hz:0<=z/\z<=255):Own (w.setCell ⟨g,i,none⟩ (.int .u8 z)) B g cap (zs.set i z):=by
 have:=(h.1.stored i (.int .u8 z)).1;refine ⟨?_,?_⟩
 ·simpa [List.map_set] using this
 ·intro y hy
  rcases List.mem_or_eq_of_mem_set hy with hy | rfl
  ·exact h.2 y hy
  ·exact hz
theorem Own.frozen {w:World} {B g cap:Nat} {zs:List Int} (h:Own w B g cap zs) (i:Nat):w.frozen? ⟨g,i,none⟩=false:=h.1.frozenAt i
theorem Own.setCell_other {w:World} {B g cap:Nat} {zs:List Int} (h:Own w B g cap zs) {p:Addr} (hp:p.block≠g) (u:Value):Own (w.setCell p u) B g cap zs:=by
 refine ⟨⟨h.1.1,?_⟩,h.2⟩;rcases h.1.2 with ⟨h',_⟩ | ⟨g',cap',cur,h',hg,hh,r⟩
 ·simp at h'
 ·have e:g'=g:=by simp at h';exact h'.1.symm
  subst e;exact .inr ⟨g',cap',cur,h',hg,by rw [Below.heap_setCell _ _ _ _ (by omega)];exact hh,r⟩
theorem Byt.drewN {w:World} {a:Option Addr} {zs:List Int} (h:Byt w a zs) (n:Nat):Byt (w.drewN n) a zs:=h
theorem Own.drewN {w:World} {B g cap:Nat} {zs:List Int} (h:Own w B g cap zs) (n:Nat):Own (w.drewN n) B g cap zs:=h
abbrev Bw (a b:World):Prop:=Below a.heap.size a b
theorem keep {B:Nat} {w w':World} (h:Below B w w') {b o:Nat} {v:Value} (hb:b<B) (hc:w.cell? ⟨b,o,none⟩=some v):w'.cell? ⟨b,o,none⟩=some v:=(h.cell (p:=⟨b,o,none⟩) hb).trans hc
theorem kp {B:Nat} {w w':World} (h:Below B w w') {b o:Nat} {v:Value} (hb:b<B) (hc:w.cell? ⟨b,o,none⟩=some v):w'.cell? ⟨b,o,none⟩=some v:=(h.cell (p:=⟨b,o,none⟩) hb).trans hc
theorem bAw {w:World} {o:Obj} :Below w.heap.size w (w.alloc o):=((Below.refl _ _).alloc nl _)
theorem zb {w:World} (ob:Obj) {b o:Nat} {v:Value} (hb:b<w.heap.size) (hc:w.cell? ⟨b,o,none⟩=some v):(w.alloc ob).cell? ⟨b,o,none⟩=some v:=keep ((Below.refl w.heap.size w).alloc nl ob) hb hc
theorem Own.alloc {w:World} {B g cap:Nat} {zs:List Int} (h:Own w B g cap zs) (ob:Obj):Own (w.alloc ob) B g cap zs:=h.below ((Below.refl w.heap.size w).alloc nl ob) nl
theorem Byt.alloc {w:World} {a:Option Addr} {zs:List Int} (h:Byt w a zs) (ob:Obj):Byt (w.alloc ob) a zs:=h.below ((Below.refl w.heap.size w).alloc nl ob) nl
theorem Below.drewS {B:Nat} {w w':World} (h:Below B w.drew w'):Below B w w':=⟨h.os,h.tape,h.output,h.size,h.block⟩
def Ins (w:World) (a:Option Addr) (zs:List Int):Prop:=
 (∀ z ∈ zs,-9223372036854775808<=z/\z<=9223372036854775807)/\(0<zs.length->∃ b off,a=some ⟨b,off,none⟩/\b<w.heap.size/\∀ i,i<zs.length->w.cell? ⟨b,off+i,none⟩=some (.int .i64 (zs.getD i 0)))
def OwI (w:World) (B g cap:Nat) (zs:List Int):Prop:=
 w.ownsRow B 3 1 (.slice (some ⟨g,0,none⟩) zs.length cap) zs.length (zs.map (Value.int .i64))/\∀ z ∈ zs,-9223372036854775808<=z/\z<=9223372036854775807
theorem OwI.lt {w:World} {B g cap:Nat} {zs:List Int} (h:OwI w B g cap zs):B<=g/\g<w.heap.size:=h.1.lt g rfl
theorem OwI.cell {w:World} {B g cap:Nat} {zs:List Int} (h:OwI w B g cap zs) (i:Nat) (hi:i<zs.length):w.cell? ⟨g,i,none⟩=some (.int .i64 (zs.getD i 0)):=by
 rw [h.1.cellAt i (by omega)]
 simp [List.getElem?_eq_getElem hi]
theorem OwI.byt {w:World} {B g cap:Nat} {zs:List Int} (h:OwI w B g cap zs):Ins w (some ⟨g,0,none⟩) zs:=
 ⟨h.2,fun _=>⟨g,0,rfl,h.lt.2,fun i hi=>by rw [Nat.zero_add];exact h.cell i hi⟩⟩
theorem Ins.below {w w':World} {a:Option Addr} {zs:List Int} {B:Nat} (h:Ins w a zs) (hb:Below B w w') (hB:w.heap.size<=B):Ins w' a zs:=by
 refine ⟨h.1,fun hz=>?_⟩
 obtain ⟨b,off,rfl,hlt,hc⟩:=h.2 hz;refine ⟨b,off,rfl,Nat.lt_of_lt_of_le hlt hb.size,fun i hi=>?_⟩
 rw [hb.cell (p:=⟨b,off+i,none⟩) (Nat.lt_of_lt_of_le hlt hB)];exact hc i hi
theorem OwI.below {w w':World} {B B' g cap:Nat} {zs:List Int} (h:OwI w B g cap zs) (hb:Below B' w w') (hB:w.heap.size<=B'):OwI w' B g cap zs:=by
 refine ⟨⟨h.1.1,?_⟩,h.2⟩;rcases h.1.2 with ⟨h',_⟩ | ⟨g',cap',cur,h',hg,hh,r⟩
 ·simp at h'
 ·refine .inr ⟨g',cap',cur,h',hg,?_,r⟩
  rw [hb.block g' (by have:=(Array.getElem?_eq_some_iff.1 hh).1;omega)]
  exact hh
theorem OwI.mono {w:World} {B B' g cap:Nat} {zs:List Int} (h:OwI w B g cap zs) (hB:B'<=B):OwI w B' g cap zs:=by
 refine ⟨⟨h.1.1,?_⟩,h.2⟩;rcases h.1.2 with ⟨h',_⟩ | ⟨g',cap',cur,h',hg,r⟩
 ·simp at h'
 ·exact .inr ⟨g',cap',cur,h',by omega,r⟩
theorem Ins.len_pos {w:World} {a:Option Addr} {zs:List Int} (h:Ins w a zs) (i:Nat) (hi:i<zs.length):∃ b off,a=some ⟨b,off,none⟩/\b<w.heap.size/\∀ i,i<zs.length->w.cell? ⟨b,off+i,none⟩=some (.int .i64 (zs.getD i 0)):=h.2 (by omega)
theorem z3q {zs:List Int} (h:∀ z ∈ zs,-9223372036854775808<=z/\z<=9223372036854775807) (i:Nat):-9223372036854775808<=zs.getD i 0/\zs.getD i 0<=9223372036854775807:=by
 rw [List.getD_eq_getElem?_getD]
 by_cases hi:i<zs.length
 ·rw [List.getElem?_eq_getElem hi];exact h _ (List.getElem_mem hi)
 ·rw [List.getElem?_eq_none (by omega)];simp
theorem OwI.store {w:World} {B g cap:Nat} {zs:List Int} (h:OwI w B g cap zs) (i:Nat) (z:Int) (hz:-9223372036854775808<=z/\z<=9223372036854775807):OwI (w.setCell ⟨g,i,none⟩ (.int .i64 z)) B g cap (zs.set i z):=by
 have:=(h.1.stored i (.int .i64 z)).1;refine ⟨?_,?_⟩
 ·simpa [List.map_set] using this
 ·intro y hy
  rcases List.mem_or_eq_of_mem_set hy with hy | rfl
  ·exact h.2 y hy
  ·exact hz
theorem OwI.frozen {w:World} {B g cap:Nat} {zs:List Int} (h:OwI w B g cap zs) (i:Nat):w.frozen? ⟨g,i,none⟩=false:=h.1.frozenAt i
theorem OwI.drewN {w:World} {B g cap:Nat} {zs:List Int} (h:OwI w B g cap zs) (n:Nat):OwI (w.drewN n) B g cap zs:=h
theorem OwI.alloc {w:World} {B g cap:Nat} {zs:List Int} (h:OwI w B g cap zs) (ob:Obj):OwI (w.alloc ob) B g cap zs:=h.below ((Below.refl w.heap.size w).alloc nl ob) nl
theorem Ins.alloc {w:World} {a:Option Addr} {zs:List Int} (h:Ins w a zs) (ob:Obj):Ins (w.alloc ob) a zs:=h.below ((Below.refl w.heap.size w).alloc nl ob) nl
set_option linter.unusedVariables false
theorem Tryz.infoU8 :(Tryz.prog.info? 5).map (fun i=>(i.zero,i.size,i.bytes))=some (some (.int .u8 0),1,1):=by kernel_rfl
theorem z6j (n:Nat):(madeCells (Value.int .u8 0).cells (n*1)).toList=(List.replicate n (0:Int)).map (Value.int .u8):=by
 simp only [madeCells,Value.cells,Nat.mul_one,Array.toList_map,Array.toList_range,List.map_replicate]
 rw [List.eq_replicate_iff];refine ⟨by simp,fun b hb=>?_⟩
 simp only [List.mem_map] at hb
 obtain ⟨x,_,rfl⟩:=hb
 simp [Nat.mod_one]
structure Only (S:Nat->Prop) (w w':World):Prop where
 os:w'.os=w.os
 tape:w'.tape=w.tape
 output:w'.output=w.output
 size:w.heap.size<=w'.heap.size
 block:∀ k,k<w.heap.size->¬S k->w'.heap[k]?=w.heap[k]?
theorem Only.refl (S:Nat->Prop) (w:World):Only S w w:=⟨rfl,rfl,rfl,Nat.le_refl _,fun _ _ _=>rfl⟩
theorem Only.trans {S:Nat->Prop} {a b c:World} (h:Only S a b) (k:Only S b c):Only S a c:=
 ⟨k.os.trans h.os,k.tape.trans h.tape,k.output.trans h.output,Nat.le_trans h.size k.size,fun i hi hs=>(k.block i (Nat.lt_of_lt_of_le hi h.size) hs).trans (h.block i hi hs)⟩
theorem Only.mono {S T:Nat->Prop} {a b:World} (h:Only S a b) (hs:∀ k,k<a.heap.size->S k->T k):Only T a b:=
 ⟨h.os,h.tape,h.output,h.size,fun i hi ht=>h.block i hi (fun hh=>ht (hs i hi hh))⟩
theorem Only.ofBelow {S:Nat->Prop} {B:Nat} {a b:World} (h:Below B a b) (hB:a.heap.size<=B):Only S a b:=⟨h.os,h.tape,h.output,h.size,fun i hi _=>h.block i (by omega)⟩
theorem Only.below {S:Nat->Prop} {B:Nat} {a b:World} (h:Only S a b) (hB:B<=a.heap.size) (hs:∀ k,S k->B<=k):Below B a b:=
 ⟨h.os,h.tape,h.output,h.size,fun k hk=>h.block k (by omega) (fun hh=>by have:=hs k hh;omega)⟩
theorem Only.alloc {S:Nat->Prop} {a b:World} (h:Only S a b) (o:Obj):Only S a (b.alloc o):=
 ⟨h.os,h.tape,h.output,by have:=h.size;simp;omega,fun i hi hs=>(Below.heap_alloc _ _ _ (by have:=h.size;omega)).trans (h.block i hi hs)⟩
theorem Only.drewN {S:Nat->Prop} {a b:World} (h:Only S a b) (n:Nat):Only S a (b.drewN n):=⟨h.os,h.tape,h.output,h.size,h.block⟩
theorem Only.drew {S:Nat->Prop} {a b:World} (h:Only S a b):Only S a b.drew:=⟨h.os,h.tape,h.output,h.size,h.block⟩
theorem Only.setCell {S:Nat->Prop} {a b:World} (h:Only S a b) {p:Addr} (hp:S p.block\/a.heap.size<=p.block) (u:Value):Only S a (b.setCell p u):=by
 refine ⟨h.os,h.tape,h.output,by have:=h.size;simp [World.setCell];omega,fun i hi hs=>?_⟩
 have hne:i≠p.block:=by
  rintro rfl;rcases hp with hp | hp
  ·exact hs hp
  ·omega
 exact (Below.heap_setCell _ _ _ _ hne).trans (h.block i hi hs)
theorem Only.grown {S:Nat->Prop} {a b c:World} {row:Option Nat} (h:Only S a b) (hg:b.grownBy c row) (hr:∀ k,row=some k->S k\/a.heap.size<=k):Only S a c:=
 ⟨hg.os.trans h.os,hg.tape.trans h.tape,hg.output.trans h.output,Nat.le_trans h.size hg.size,fun i hi hs=>(hg.block i (Nat.lt_of_lt_of_le hi h.size) (fun e=>by
  rcases hr i e.symm with hh | hh
  ·exact hs hh
  ·omega)).trans (h.block i hi hs)⟩
theorem Only.cell {S:Nat->Prop} {w w':World} (h:Only S w w') {b o:Nat} {v:Value} (hb:b<w.heap.size) (hs:¬S b) (hc:w.cell? ⟨b,o,none⟩=some v):w'.cell? ⟨b,o,none⟩=some v:=
 (World.cell?_of_block (w:=w) (a:=⟨b,o,none⟩) (h.block b hb hs)).trans hc
theorem Own.only {S:Nat->Prop} {w w':World} {B g cap:Nat} {zs:List Int} (h:Own w B g cap zs) (ho:Only S w w') (hs:¬S g):Own w' B g cap zs:=by
 refine ⟨⟨h.1.1,?_⟩,h.2⟩;have hlt:=h.lt.2;rcases h.1.2 with ⟨h',_⟩ | ⟨g',cap',cur,h',hg,hh,r⟩
 ·simp at h'
 ·have e:g'=g:=by simp at h';exact h'.1.symm
  subst e;exact .inr ⟨g',cap',cur,h',hg,by rw [ho.block g' hlt hs];exact hh,r⟩
def Mine (w:World) (B U:Nat) (a:Option Addr) (cap:Nat) (zs:List Int):Prop:=
 (a=none/\zs=[]/\cap=0)\/∃ g,a=some ⟨g,0,none⟩/\B<=g/\g<U/\Own w B g cap zs
theorem Mine.byt {w:World} {B U:Nat} {a:Option Addr} {cap:Nat} {zs:List Int} (h:Mine w B U a cap zs):Byt w a zs:=by
 rcases h with ⟨rfl,rfl,rfl⟩ | ⟨g,rfl,_,_,h⟩
 ·exact ⟨by simp,by simp⟩
 ·exact h.byt
theorem Mine.only {S:Nat->Prop} {w w':World} {B U:Nat} {a:Option Addr} {cap:Nat} {zs:List Int} (h:Mine w B U a cap zs) (ho:Only S w w') (hs:∀ k,B<=k->k<U->¬S k):Mine w' B U a cap zs:=by
 rcases h with h | ⟨g,rfl,h1,h2,h⟩
 ·exact .inl h
 ·exact .inr ⟨g,rfl,h1,h2,h.only ho (hs g h1 h2)⟩
theorem Mine.below {w w':World} {B U:Nat} {a:Option Addr} {cap:Nat} {zs:List Int} (h:Mine w B U a cap zs) (ho:Below w.heap.size w w'):Mine w' B U a cap zs:=h.only (Only.ofBelow (S:=fun _=>False) ho nl) (by simp)
theorem Mine.mono {w:World} {B U B' U':Nat} {a:Option Addr} {cap:Nat} {zs:List Int} (h:Mine w B U a cap zs) (h1:B'<=B) (h2:U<=U'):Mine w B' U' a cap zs:=by
 rcases h with h | ⟨g,rfl,g1,g2,h⟩
 ·exact .inl h
 ·exact .inr ⟨g,rfl,by omega,by omega,h.mono h1⟩
theorem Own.mine {w:World} {B g cap:Nat} {zs:List Int} (h:Own w B g cap zs):Mine w B w.heap.size (some ⟨g,0,none⟩) cap zs:=.inr ⟨g,rfl,h.lt.1,h.lt.2,h⟩
def z06 (a:Option Addr) (k:Nat):Prop:=∃ x:Addr,a=some x/\x.block=k
theorem Tryz.infoI64 :(Tryz.prog.info? 3).map (fun i=>(i.zero,i.size,i.bytes))=some (some (.int .i64 0),1,8):=by kernel_rfl
theorem z0n (n:Nat):(madeCells (Value.int .i64 0).cells (n*1)).toList=(List.replicate n (0:Int)).map (Value.int .i64):=by
 simp only [madeCells,Value.cells,Nat.mul_one,Array.toList_map,Array.toList_range,List.map_replicate]
 rw [List.eq_replicate_iff];refine ⟨by simp,fun b hb=>?_⟩
 simp only [List.mem_map] at hb
 obtain ⟨x,_,rfl⟩:=hb
 simp [Nat.mod_one]
theorem OwI.only {S:Nat->Prop} {w w':World} {B g cap:Nat} {zs:List Int} (h:OwI w B g cap zs) (ho:Only S w w') (hs:¬S g):OwI w' B g cap zs:=by
 refine ⟨⟨h.1.1,?_⟩,h.2⟩;have hlt:=h.lt.2;rcases h.1.2 with ⟨h',_⟩ | ⟨g',cap',cur,h',hg,hh,r⟩
 ·simp at h'
 ·have e:g'=g:=by simp at h';exact h'.1.symm
  subst e;exact .inr ⟨g',cap',cur,h',hg,by rw [ho.block g' hlt hs];exact hh,r⟩
def MinI (w:World) (B U:Nat) (a:Option Addr) (cap:Nat) (zs:List Int):Prop:=
 (a=none/\zs=[]/\cap=0)\/∃ g,a=some ⟨g,0,none⟩/\B<=g/\g<U/\OwI w B g cap zs
theorem MinI.byt {w:World} {B U:Nat} {a:Option Addr} {cap:Nat} {zs:List Int} (h:MinI w B U a cap zs):Ins w a zs:=by
 rcases h with ⟨rfl,rfl,rfl⟩ | ⟨g,rfl,_,_,h⟩
 ·exact ⟨by simp,by simp⟩
 ·exact h.byt
theorem MinI.only {S:Nat->Prop} {w w':World} {B U:Nat} {a:Option Addr} {cap:Nat} {zs:List Int} (h:MinI w B U a cap zs) (ho:Only S w w') (hs:∀ k,B<=k->k<U->¬S k):MinI w' B U a cap zs:=by
 rcases h with h | ⟨g,rfl,h1,h2,h⟩
 ·exact .inl h
 ·exact .inr ⟨g,rfl,h1,h2,h.only ho (hs g h1 h2)⟩
theorem MinI.below {w w':World} {B U:Nat} {a:Option Addr} {cap:Nat} {zs:List Int} (h:MinI w B U a cap zs) (ho:Below w.heap.size w w'):MinI w' B U a cap zs:=h.only (Only.ofBelow (S:=fun _=>False) ho nl) (by simp)
theorem MinI.mono {w:World} {B U B' U':Nat} {a:Option Addr} {cap:Nat} {zs:List Int} (h:MinI w B U a cap zs) (h1:B'<=B) (h2:U<=U'):MinI w B' U' a cap zs:=by
 rcases h with h | ⟨g,rfl,g1,g2,h⟩
 ·exact .inl h
 ·exact .inr ⟨g,rfl,by omega,by omega,h.mono h1⟩
theorem OwI.mine {w:World} {B g cap:Nat} {zs:List Int} (h:OwI w B g cap zs):MinI w B w.heap.size (some ⟨g,0,none⟩) cap zs:=.inr ⟨g,rfl,h.lt.1,h.lt.2,h⟩
theorem z5o {p:Int->Prop} {zs:List Int} {k:Nat} (h:∀ z ∈ zs.take k,p z) (hk:k<zs.length) (hp:p (zs.getD k 0)):∀ z ∈ zs.take (k+1),p z:=by
 intro z hz
 rw [List.take_succ_eq_append_getElem hk] at hz;rcases List.mem_append.1 hz with hz | hz
 ·exact h z hz
 ·simp at hz
  subst hz
  simpa [List.getD_eq_getElem?_getD,List.getElem?_eq_getElem hk] using hp
theorem zp {zs:List Int} {k:Nat} (hk:k<zs.length):zs.getD k 0 ∈ zs:=by
 rw [List.getD_eq_getElem?_getD,List.getElem?_eq_getElem hk];exact List.getElem_mem hk
def zz (cs:List Int) (z:Int):List Int:=cs.set z.toNat (cs.getD z.toNat 0+1)
theorem z4y (cs:List Int) (z:Int):(zz cs z).length=cs.length:=by simp [zz]
theorem z88 {cs:List Int} {z:Int} {m:Int} (h:∀ c ∈ cs,0<=c/\c<=m) (hm:0<=m):∀ c ∈ zz cs z,0<=c/\c<=m+1:=by
 intro c hc
 have hg:0<=cs.getD z.toNat 0/\cs.getD z.toNat 0<=m:=by
  rw [List.getD_eq_getElem?_getD]
  by_cases hi:z.toNat<cs.length
  ·rw [List.getElem?_eq_getElem hi];exact h _ (List.getElem_mem hi)
  ·rw [List.getElem?_eq_none (by omega)];simp;omega
 rcases List.mem_or_eq_of_mem_set hc with hc | rfl
 ·have:=h c hc;omega
 ·omega
def z0e (zs:List Int) (n:Int):Bool:=decide (1<=n/\n<=80/\zs.length<=300/\∀ z ∈ zs,0<=z/\z<n)
def zx (zs:List Int) (n:Nat):List Int:=zs.foldl zz (List.replicate n 0)
theorem z0r (zs:List Int) (n:Nat):(zx zs n).length=n:=by
 unfold zx;have:∀ (zs cs:List Int),(zs.foldl zz cs).length=cs.length:=by
  intro zs
  induction zs with
  | nil=>intro cs;rfl
  | cons z zs ih=>intro cs;rw [List.foldl_cons,ih,z4y]
 rw [this]
 simp
theorem zd2 (zs:List Int) (n:Nat):∀ c ∈ zx zs n,0<=c/\c<=zs.length:=by
 have:∀ (zs cs:List Int) (m:Int),0<=m->(∀ c ∈ cs,0<=c/\c<=m)->∀ c ∈ zs.foldl zz cs,0<=c/\c<=m+zs.length:=by
  intro zs
  induction zs with
  | nil=>intro cs m _ h;simpa using h
  | cons z zs ih=>
   intro cs m hm h c hc
   have:=ih (zz cs z) (m+1) (by omega) (z88 h hm) c (by simpa using hc)
   simp only [List.length_cons]
   omega
 intro c hc
 have:=this zs (List.replicate n 0) 0 (by omega) (by simp) c hc
 omega
theorem zag (zs:List Int) (n k:Nat) (h:k<zs.length):zz (zx (zs.take k) n) (zs.getD k 0)=zx (zs.take (k+1)) n:=by
 unfold zx;rw [List.take_succ_eq_append_getElem h,List.foldl_append]
 simp [List.getD_eq_getElem?_getD,List.getElem?_eq_getElem h]
theorem z18 {zs:List Int} {n:Int} (h:z0e zs n=true) (k:Nat) (hk:k<zs.length):0<=zs.getD k 0/\zs.getD k 0<n:=by
 simp only [z0e,decide_eq_true_eq] at h
 exact h.2.2.2 _ (zp hk)
theorem zlv {zs:List Int} {n:Int} (h:z0e zs n=true):1<=n/\n<=80/\zs.length<=300:=by
 simp only [z0e,decide_eq_true_eq] at h
 exact ⟨h.1,h.2.1,h.2.2.1⟩
def z1y (zs:List Int):Bool:=decide (1<=zs.length/\zs.length<=80/\∀ z ∈ zs,0<=z/\z<=1000000)
set_option linter.unusedSimpArgs false
inductive Pc where
 | coin (s c:Nat)
 | pack (a b:Pc) (n:Nat)
def Pc.wt :Pc->Nat
 | .coin s c=>c
 | .pack a b n=>a.wt+b.wt
def Pc.plc :Pc->Nat
 | .coin s c=>s
 | .pack a b n=>80+n
def Pc.bd :Pc->Value
 | .coin s c=>.agg #[.int .i64 s,.int .i64 c]
 | .pack a b n=>.agg #[match a with | .coin _ _=>.iface 260 a.bd | .pack _ _ _=>.iface 267 a.bd,match b with | .coin _ _=>.iface 260 b.bd | .pack _ _ _=>.iface 267 b.bd,.int .i64 ((a.wt+b.wt:Nat):Int),.int .i64 n]
def Pc.vl :Pc->Value
 | .coin s c=>.iface 260 (Pc.coin s c).bd
 | .pack a b n=>.iface 267 (Pc.pack a b n).bd
def Pc.fine (p:Pc):Prop:=p.wt<=1000000000000/\p.plc<=1000
def Pc.key (p:Pc):Nat:=p.wt*1024+p.plc
def zrm (x y:Nat):Int:=if x<y then -1 else if y<x then 1 else 0
def dpc :Pc:=.coin 0 0
def Pcs (w:World) (a:Option Addr) (ps:List Pc):Prop:=
 0<ps.length->∃ b off,a=some ⟨b,off,none⟩/\b<w.heap.size/\∀ i,i<ps.length->w.cell? ⟨b,off+i,none⟩=some (ps.getD i dpc).vl
def orZ (x y:Int):Int:=if x=0 then y else x
def OwV (w:World) (B g cap:Nat) (ps:List Pc):Prop:=w.ownsRow B 235 1 (.slice (some ⟨g,0,none⟩) ps.length cap) ps.length (ps.map Pc.vl)
def swp (ps:List Pc) (i j:Nat):List Pc:=(ps.set i (ps.getD j dpc)).set j (ps.getD i dpc)
end Go.Proofs.YtjmcjbmjgpponaaGreatDoor
