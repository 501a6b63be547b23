/- Lemmas on the way. -/
import Derived.Test.YtaibkchbkedjnaaGreatDoorMpI
namespace Go.Proofs.YtaibkchbkedjnaaGreatDoor
open Go.RowKit
set_option linter.unusedVariables false
set_option linter.unusedSimpArgs false
def wrB (ss ps:List El) (x:Int) (ds:List Int):Bool:=rok ss ps && decide (0≤x∧x<(ss.length:Int)∧ds.length=256∧ps.length<60)
def wrS (ss ps:List El) (x:Int) (ds:List Int):List (Int × List Int):=if wrB ss ps x ds=true then ss.map El.ct else []
def wrP (ss ps:List El) (x:Int) (ds:List Int):List (Int × List Int):=if wrB ss ps x ds=true then ps.map El.ct++[(x,ds)] else []
theorem Rok.lens {ss ps:List El} (h:Rok ss ps):(∀ s ∈ ss,s.ls.length=256)∧∀ s ∈ ps,s.ls.length=256:=by
 refine ⟨fun s hs=>?_,fun s hs=>?_⟩
 ·obtain ⟨i,hi,rfl⟩:=memE_get hs
  exact h.2.2.2.1 i hi
 ·obtain ⟨i,hi,rfl⟩:=memE_get hs
  exact (h.2.2.2.2 i hi).2.2
theorem len_of_ct {ms ss:List El} (h:ms.map El.ct=ss.map El.ct) (hs:∀ e ∈ ss,e.ls.length=256):∀ e ∈ ms,e.ls.length=256:=by
 intro e he
 obtain ⟨i,hi,rfl⟩:=memE_get he
 have h1:=ctE_get h i
 have h2:=hs _ (getD_memE (k:=i) (by rw [←len_ctE h];exact hi))
 simp only [El.ct,Prod.mk.injEq] at h1
 rw [h1.2]
 exact h2
end Go.Proofs.YtaibkchbkedjnaaGreatDoor
