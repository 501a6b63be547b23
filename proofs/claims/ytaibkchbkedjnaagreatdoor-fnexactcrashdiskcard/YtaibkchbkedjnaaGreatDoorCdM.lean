/- Lemmas on the way. -/
import Derived.Test.YtaibkchbkedjnaaGreatDoorRwSeF
import Derived.Test.YtaibkchbkedjnaaGreatDoorDkS2
namespace Go.Proofs.YtaibkchbkedjnaaGreatDoor
open Go.RowKit
set_option linter.unusedVariables false
set_option linter.unusedSimpArgs false
def CdR (f:List Int→Option (List Int)) (d:DkV) (bs:List Bool) (AS BS:List (Int × List Int)) (r:Bool):Prop:=
 (DkG f d∧AS=crS d.ss d.ps bs∧BS=crP d.ss d.ps bs∧r=crB d.ss d.ps bs)∨(¬DkG f d∧AS=[]∧BS=[]∧r=false)
theorem CdR.same {f:List Int→Option (List Int)} {e d:DkV} {bs:List Bool} {AS BS:List (Int × List Int)} {r:Bool} (hs:DkS e d) (h:CdR f e bs AS BS r):CdR f d bs AS BS r:=by
 have hc:=cr_ct hs.ss hs.ps bs
 rcases h with ⟨h1,h2,h3,h4⟩ | ⟨h1,h2⟩
 ·exact .inl ⟨h1.same hs,by rw [h2,hc.2.1],by rw [h3,hc.2.2],by rw [h4,hc.1]⟩
 ·exact .inr ⟨fun h=>h1 (h.same hs.symm),h2⟩
theorem CdR.uniq {f:List Int→Option (List Int)} {d:DkV} {bs:List Bool} {AS BS AS' BS':List (Int × List Int)} {r r':Bool} (h:CdR f d bs AS BS r) (k:CdR f d bs AS' BS' r'):AS=AS'∧BS=BS'∧r=r':=by
 rcases h with ⟨h1,h2,h3,h4⟩ | ⟨h1,h2,h3,h4⟩ <;> rcases k with ⟨k1,k2,k3,k4⟩ | ⟨k1,k2,k3,k4⟩
 ·exact ⟨by rw [h2,k2],by rw [h3,k3],by rw [h4,k4]⟩
 ·exact absurd h1 k1
 ·exact absurd k1 h1
 ·exact ⟨by rw [h2,k2],by rw [h3,k3],by rw [h4,k4]⟩
theorem CdR.few {f:List Int→Option (List Int)} {d:DkV} {bs:List Bool} {ms ns:List El} {r:Bool} (h:CdR f d bs (ms.map El.ct) (ns.map El.ct) r):Few ms ns:=by
 rcases h with ⟨-,h2,h3,-⟩ | ⟨-,h2,h3,-⟩
 ·exact few_cr ms ns h2 h3
 ·have e1:ms=[]:=List.map_eq_nil_iff.1 h2
  have e2:ns=[]:=List.map_eq_nil_iff.1 h3
  subst e1 e2
  exact ⟨by simp,by simp,by simp,by simp,by simp [elets]⟩
def CdA (R:List (Int × List Int)→List (Int × List Int)→Bool→Prop) (w:World) (e:Ending) (w':World):Prop:=
 (∃ v u ms ns r,e=.returned (.tuple #[.agg #[v,u],.bool r])∧R (ms.map El.ct) (ns.map El.ct) r∧RawO w' w.heap.size v u ms ns)∧Below w.heap.size w w'
theorem RawO.none (w:World) (B:Nat):RawO w B (.slice .none 0 0) (.slice .none 0 0) [] []:=⟨OVr.nil _ _ _,OVr.nil _ _ _,Deep.nil _ _,by simp,by simp⟩
end Go.Proofs.YtaibkchbkedjnaaGreatDoor
