import Derived.Test.YtaibkchbkedjnaaGreatDoorItW
namespace Go.Proofs.YtaibkchbkedjnaaGreatDoor
open Go.RowKit
set_option linter.unusedVariables false
def Bos (w:World) (a:Option Addr) (bs:List Bool):Prop:=
 0<bs.length->∃ b off,a=some ⟨b,off,none⟩/\b<w.heap.size/\∀ i,i<bs.length->w.cell? ⟨b,off+i,none⟩=some (.bool (bs.getD i false))
structure OwBo (w:World) (B g cap:Nat) (bs:List Bool):Prop where
 own:w.ownsRow B 4 1 (.slice (some ⟨g,0,none⟩) bs.length cap) bs.length (bs.map Value.bool)
theorem OwBo.lt {w:World} {B g cap:Nat} {bs:List Bool} (h:OwBo w B g cap bs):B<=g/\g<w.heap.size:=h.own.lt g rfl
theorem OwBo.cell {w:World} {B g cap:Nat} {bs:List Bool} (h:OwBo w B g cap bs) (i:Nat) (hi:i<bs.length):w.cell? ⟨g,i,none⟩=some (.bool (bs.getD i false)):=by
 rw [h.own.cellAt i (by omega)]
 simp [List.getElem?_eq_getElem hi]
theorem OwBo.bos {w:World} {B g cap:Nat} {bs:List Bool} (h:OwBo w B g cap bs):Bos w (some ⟨g,0,none⟩) bs:=
 fun _=>⟨g,0,rfl,h.lt.2,fun i hi=>by rw [Nat.zero_add];exact h.cell i hi⟩
theorem Bos.below {w w':World} {a:Option Addr} {bs:List Bool} {B:Nat} (h:Bos w a bs) (hb:Below B w w') (hB:w.heap.size<=B):Bos w' a bs:=by
 intro hz
 obtain ⟨b,off,rfl,hlt,hc⟩:=h hz;exact ⟨b,off,rfl,Nat.lt_of_lt_of_le hlt hb.size,fun i hi=>keep hb (by omega) (hc i hi)⟩
theorem OwBo.only {S:Nat->Prop} {w w':World} {B g cap:Nat} {bs:List Bool} (h:OwBo w B g cap bs) (ho:Only S w w') (hs:¬S g):OwBo w' B g cap bs:=by
 refine ⟨⟨h.own.1,?_⟩⟩;have hlt:=h.lt.2;rcases h.own.2 with ⟨h',_⟩ | ⟨g',cap',cur,h',hg,hh,r⟩
 ·simp at h'
 ·have e:g'=g:=by simp at h';exact h'.1.symm
  subst e;exact .inr ⟨g',cap',cur,h',hg,by rw [ho.block g' hlt hs];exact hh,r⟩
theorem OwBo.frozen {w:World} {B g cap:Nat} {bs:List Bool} (h:OwBo w B g cap bs) (i:Nat):w.frozen? ⟨g,i,none⟩=false:=h.own.frozenAt i
theorem OwBo.store {w:World} {B g cap:Nat} {bs:List Bool} (h:OwBo w B g cap bs) (i:Nat) (z:Bool):OwBo (w.setCell ⟨g,i,none⟩ (.bool z)) B g cap (bs.set i z):=by
 have:=(h.own.stored i (.bool z)).1;exact ⟨by simpa [List.map_set] using this⟩
theorem Bos.pos {w:World} {a:Option Addr} {bs:List Bool} (h:Bos w a bs) (i:Nat) (hi:i<bs.length):∃ b off,a=some ⟨b,off,none⟩/\b<w.heap.size/\w.cell? ⟨b,off+i,none⟩=some (.bool (bs.getD i false)):=by
 obtain ⟨b,off,e,hb,hc⟩:=h (by omega)
 exact ⟨b,off,e,hb,hc i hi⟩
theorem Tryz.infoBool :(Tryz.prog.info? 4).map (fun i=>(i.zero,i.size,i.bytes))=some (some (.bool false),1,1):=by kernel_rfl
theorem ze6 (n:Nat):(madeCells (Value.bool false).cells (n*1)).toList=(List.replicate n false).map Value.bool:=by
 simp only [madeCells,Value.cells,Nat.mul_one,Array.toList_map,Array.toList_range,List.map_replicate]
 rw [List.eq_replicate_iff];refine ⟨by simp,fun b hb=>?_⟩
 simp only [List.mem_map] at hb
 obtain ⟨x,_,rfl⟩:=hb
 simp [Nat.mod_one]
def z0r (bs:List Bool) (k:Nat):List Bool:=bs.take k++List.replicate (bs.length-k) false
theorem zfk (bs:List Bool) (k:Nat) (h:k<=bs.length):(z0r bs k).length=bs.length:=by simp [z0r];omega
theorem zfu (bs:List Bool) (k:Nat) (h:k<bs.length):(z0r bs k).set k (bs.getD k false)=z0r bs (k+1):=by
 unfold z0r;have hl:(bs.take k).length=k:=by rw [List.length_take];omega
 rw [List.set_append_right _ _ (by omega),hl,Nat.sub_self,show bs.length-k=(bs.length-(k+1))+1 from by omega,List.replicate_succ,List.set_cons_zero,List.take_succ_eq_append_getElem h,List.append_assoc]
 simp [List.getElem?_eq_getElem h]
end Go.Proofs.YtaibkchbkedjnaaGreatDoor
