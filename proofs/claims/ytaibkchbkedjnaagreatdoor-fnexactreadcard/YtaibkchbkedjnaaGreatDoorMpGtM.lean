import Derived.Test.YtaibkchbkedjnaaGreatDoorMpG
namespace Go.Proofs.YtaibkchbkedjnaaGreatDoor
open Go.RowKit
set_option linter.unusedVariables false
set_option linter.unusedSimpArgs false
def gtP (ps:List (Int × Int)) (x:Int):Int × Int:=if zp ps then z0m ps x else dp
def gtB (ps:List (Int × Int)) (x:Int):Bool:=zp ps && !nwh (z0m ps x)
theorem zex (ps:List (Int × Int)) (n i:Nat) (h:okT ps n=true) (hi:i<n):nwh (ps.getD i dp)=true\/rgt (ps.getD i dp)=true:=by
 have h1:=zcp ps n (i+1) h (by omega)
 simp only [okT,Bool.and_eq_true,z0o,Bool.or_eq_true] at h1
 rcases h1.2 with h2 | h2
 ·exact .inl h2
 ·exact .inr h2.1
end Go.Proofs.YtaibkchbkedjnaaGreatDoor
