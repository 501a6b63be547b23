/- Lemmas on the way. -/
import Derived.Test.YtaibkchbkedjnaaGreatDoorMpG
namespace Go.Proofs.YtaibkchbkedjnaaGreatDoor
open Go.RowKit
set_option linter.unusedVariables false
set_option linter.unusedSimpArgs false
def gtP (ps:List (Int × Int)) (x:Int):Int × Int:=if mapB ps then plcO ps x else dp
def gtB (ps:List (Int × Int)) (x:Int):Bool:=mapB ps && !nwh (plcO ps x)
theorem okT_get (ps:List (Int × Int)) (n i:Nat) (h:okT ps n=true) (hi:i<n):nwh (ps.getD i dp)=true∨rgt (ps.getD i dp)=true:=by
 have h1:=okT_le ps n (i+1) h (by omega)
 simp only [okT,Bool.and_eq_true,stpP,Bool.or_eq_true] at h1
 rcases h1.2 with h2 | h2
 ·exact .inl h2
 ·exact .inr h2.1
theorem gt_pos (ps:List (Int × Int)) (i:Nat) (h:mapB ps=true) (hi:i<ps.length):(!nwh (ps.getD i dp))=decide (0<(ps.getD i dp).1):=by
 rcases okT_get ps _ i (mapB_okT ps h) hi with h1 | h1
 ·have h2:=h1
  unfold nwh at h2
  simp only [Bool.and_eq_true,beq_iff_eq] at h2
  rw [h1,h2.1]
  rfl
 ·have h2:=h1
  unfold rgt at h2
  simp only [decide_eq_true_eq] at h2
  have h3:nwh (ps.getD i dp)=false:=by
   unfold nwh
   simp only [Bool.and_eq_false_iff,beq_eq_false_iff_ne]
   omega
  rw [h3,decide_eq_true (by omega)]
  rfl
end Go.Proofs.YtaibkchbkedjnaaGreatDoor
