import Derived.Test.YtaibkchbkedjnaaGreatDoorCtA
import Derived.Test.YtaibkchbkedjnaaGreatDoorVarsC
namespace Go.Proofs.YtaibkchbkedjnaaGreatDoor
open Go.RowKit
set_option linter.unusedVariables false
set_option linter.unusedSimpArgs false
def CkK (f:List Int->Option (List Int)) (d:DkV) (v:Int):Prop:=(∃ k:Nat,k<d.ms.length/\v=k/\CtR f d k none/\∀ j,j<k->∃ ls,CtR f d j (some ls))\/(v=-1/\∀ j,j<d.ms.length->∃ ls,CtR f d j (some ls))
def CkR (f:List Int->Option (List Int)) (d:DkV) (v:Int):Prop:=(DkG f d/\CkK f d v)\/(¬DkG f d/\v=-2)
def LvS (f:List Int->Option (List Int)) (d:DkV):Nat->Int->Prop
 | 0,v=>v=0
 | k+1,v=>∃ (u:Int) (o:Option (List Int)),LvS f d k u/\CtR f d k o/\v=u+((o.getD []).length:Nat)
def LbR (f:List Int->Option (List Int)) (d:DkV) (v:Int):Prop:=(DkG f d/\LvS f d d.ms.length v)\/(¬DkG f d/\v=0)
theorem CtR.short {f:List Int->Option (List Int)} {d:DkV} {x:Nat} {o:Option (List Int)} (hG:DkG f d) (h:CtR f d x o):(o.getD []).length<=256:=by
 rcases h with ⟨k,h1,h2,h3,rfl⟩ | ⟨h1,⟨h2,rfl⟩ | ⟨h2,⟨h3,rfl⟩ | ⟨h3,rfl⟩⟩⟩
 ·have h4:=hG.op.sz
  have h5:=z0d (zf h1);unfold szP at h4
  simp only [Option.getD_some]
  omega
 ·simp
 ·have h4:=h3.1.ok.sz
  have h5:=z0d (zf (es:=itL (ctZ d x) (rpM (ctZ d x)) (rpM (ctZ d x))) (k:=ctI d x) (by rw [z0j];exact h3.2.1))
  rw [z47 _ _ h3.2.1] at h5;unfold szP at h4
  simp only [Option.getD_some]
  unfold ctE
  omega
 ·simp
end Go.Proofs.YtaibkchbkedjnaaGreatDoor
