/-
  A disk of the call's own: the lists of its device have room enough.
-/
import Derived.Test.YthngimdjjmhboaaGreatDoorCtS
namespace Go.Proofs.YthngimdjjmhboaaGreatDoor
open Go.RowKit
set_option linter.unusedVariables false

theorem Mine.capX {w:World} {B U:Nat} {a:Option Addr} {c:Nat} {zs:List Int} (h:Mine w B U a c zs):zs.length≤c∧c≤9223372036854775807:=by
 rcases h with ⟨-,rfl,rfl⟩ | ⟨g,-,-,-,h⟩
 ·simp
 ·rcases h.1.2 with ⟨e,_⟩ | ⟨g',cap',cur,e,-,-,r,r2,-⟩
  ·simp at e
  ·simp at e
   unfold maxLen at r2
   omega
theorem DkO.rwc {W:World} {B B1 B2 B3 B4 Z:Nat} {d:DkV} (h:DkO W B B1 B2 B3 B4 Z d):RwC d:=
 ⟨fun e he=>(h.raw.o.deep.mine e (List.mem_append_left _ he)).capX,fun e he=>(h.raw.o.deep.mine e (List.mem_append_right _ he)).capX⟩
end Go.Proofs.YthngimdjjmhboaaGreatDoor
