import Derived.Test.YtaibkchbkedjnaaGreatDoorVarsC
import Derived.Test.YtaibkchbkedjnaaGreatDoorBosW
namespace Go.Proofs.YtaibkchbkedjnaaGreatDoor
open Go.ChangeShapes Go.WideShapes Go.ChangeAt Go.RowKit Go.Joins
set_option linter.unusedVariables false
theorem Tryz.cellsLBool :Tryz.prog.cellsOf 4=1:=by kernel_rfl
theorem zcj {H:Type} {enc:TypeId × Value->H} {W:World} {fuel:Nat} {v:Value} {y:DataW H × List MemPlace}
  (h:DataW.trod enc Tryz.prog W 0 (fun _=>true) true fuel 56 [v]=some y) :
  ∃ (a:Option Addr) (bs:List Bool) (cap:Nat),v=.slice a bs.length cap/\Bos W a bs/\bs.length<=maxLen:=by
 rcases Go.Deep.open_slice Tryz.underlying56 h with ⟨hcs,_⟩ | ⟨x,l,c,m,n,D,Pl,hcs,_,hl,hm,hmm,_,hx⟩
 ·simp at hcs
  subst hcs;exact ⟨none,[],0,rfl,by simp [Bos],by simp⟩
 ·simp at hcs
  subst hcs
  simp only [if_true] at hmm
  subst hmm;rw [Tryz.cellsLBool] at hx
  by_cases hl0:l=0
  ·subst hl0
   exact ⟨some x,[],m,rfl,by simp [Bos],by simp⟩
  ·obtain ⟨b,off,spot⟩:=x
   obtain ⟨cs0,h0,_⟩:=hx 0 (by omega)
   obtain ⟨_,hlen0,hcell0⟩:=World.cells?_some h0;have hc0:=hcell0 0 (by omega)
   have hspot:spot=none:=by
    rw [List.getElem?_eq_getElem (by omega)] at hc0
    simpa [Addr.add] using World.cell?_spot hc0
   subst hspot;have hblk:b<W.heap.size:=by
    rw [List.getElem?_eq_getElem (by omega)] at hc0
    have:=World.block_lt_of_cell? _ _ hc0
    simpa [Addr.add] using this
   have hadd:∀ o i:Nat,(⟨b,o,none⟩:Addr).add i=⟨b,o+i,none⟩:=fun o i=>by unfold Addr.add;split <;> simp_all
   have each:∀ i,i<l->∃ z:Bool,W.cell? ⟨b,off+i,none⟩=some (.bool z):=by
    intro i hi
    obtain ⟨cs',h1,h2⟩:=hx i (by omega)
    obtain ⟨_,hlen,hcell⟩:=World.cells?_some h1;obtain ⟨z,rfl,_⟩:=DataW.trod_bool Tryz.underlying4 h2;have:=hcell 0 (by omega)
    rw [hadd,hadd,Nat.mul_one,Nat.add_zero] at this;exact ⟨z,this⟩
   obtain ⟨f,hf⟩:=Go.Deep.choose_lt each;have hlen:((List.range l).map f).length=l:=by simp
   refine ⟨some ⟨b,off,none⟩,(List.range l).map f,m,by rw [hlen],fun _=>⟨b,off,rfl,hblk,fun i hi=>?_⟩,by rw [hlen];omega⟩
   rw [hlen] at hi;rw [show ((List.range l).map f).getD i false=f i from by simp [List.getD_eq_getElem?_getD,hi]]
   exact hf i hi
end Go.Proofs.YtaibkchbkedjnaaGreatDoor
