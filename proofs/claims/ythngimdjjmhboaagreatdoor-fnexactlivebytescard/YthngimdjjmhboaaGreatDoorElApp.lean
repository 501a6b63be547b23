/-
  Rows of lists that grow by an append; new lists of zeros; lists copied by an append: at a step of a region that draws its order, and in a plain one.
-/
import Derived.Test.YthngimdjjmhboaaGreatDoorPlP
import Derived.Test.YthngimdjjmhboaaGreatDoorBApp
import Derived.Test.YthngimdjjmhboaaGreatDoorBRep
namespace Go.Proofs.YthngimdjjmhboaaGreatDoor
open Go.RowKit
set_option linter.unusedVariables false

theorem oneCellE (p:Bool) (e:El):∀ u ∈ e.cells p,u.oneCell'=true:=by
 intro u hu
 cases p <;> simp [El.cells] at hu
 ·subst hu;rfl
 ·rcases hu with rfl | rfl <;> rfl
theorem infoE (p:Bool):∃ i z b,Tryz.prog.info? (eT p)=some i∧i.zero=some z∧i.size=eW p∧i.bytes=b∧z.cells.size=eW p∧b≤32:=by
 cases p
 ·obtain ⟨i0,hi,hz0,hz1,hz2⟩:=info_parts Tryz.infoBs
  exact ⟨i0,_,24,hi,hz0,hz1,hz2,rfl,by omega⟩
 ·obtain ⟨i0,hi,hz0,hz1,hz2⟩:=info_parts Tryz.infoPend
  exact ⟨i0,_,32,hi,hz0,hz1,hz2,rfl,by omega⟩
def eS (p:Bool):TypeId:=cond p 39 22
theorem undE (p:Bool):Tryz.prog.underlying (eS p)=some (.slice (eT p)):=by
 cases p
 ·exact Tryz.underlying22
 ·exact Tryz.underlying39

theorem appE_below {p:Bool} {w0 wr w1:World} {B:Nat} {v:Value} {es:List El} (hbel:Below B w0 wr) (hB:B≤wr.heap.size) (h:OVr p wr B v es) (hg:wr.grownBy w1 v.ownBlock):Below B w0 w1:=
 hbel.grown hg hB (fun k hk=>(h.blk hk).1)
end Go.Proofs.YthngimdjjmhboaaGreatDoor
