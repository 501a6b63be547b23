/- Lemmas on the way. -/
import Derived.Test.YtaibkchbkedjnaaGreatDoorFr1
import Derived.Test.YtaibkchbkedjnaaGreatDoorFrS
namespace Go.Proofs.YtaibkchbkedjnaaGreatDoor
open Go.RowKit
set_option linter.unusedVariables false
set_option linter.unusedSimpArgs false
def vcN (d:DkV) (s:Int):Nat:=(liv d.ms d.ms.length s).length
def vcH (d:DkV) (s:Int):Bool:=d.cs.any (fun z=>z == s)
def vcF (d:DkV):Nat→Int × Nat
 | 0=>(-1,17)
 | k+1=>if 0<vcN d ((k+2:Nat):Int)∧vcN d ((k+2:Nat):Int)<(vcF d k).2∧vcH d ((k+2:Nat):Int)=false then (((k+2:Nat):Int),vcN d ((k+2:Nat):Int)) else vcF d k
def VcR (f:List Int→Option (List Int)) (d:DkV) (v:Int):Prop:=(DkG f d∧v=(vcF d (d.ss.length-2)).1)∨(¬DkG f d∧v=-1)
theorem vcF_le (d:DkV):∀ k,(vcF d k).2≤17
 | 0=>by simp [vcF]
 | k+1=>by
  have h:=vcF_le d k
  simp only [vcF]
  split
  ·rename_i h1
   simp only
   omega
  ·exact h
theorem vcF_same {e d:DkV} (hs:DkS e d):∀ k,vcF e k=vcF d k
 | 0=>rfl
 | k+1=>by
  have hn:∀ s,vcN e s=vcN d s:=fun s=>by unfold vcN;rw [hs.ms]
  have hh:∀ s,vcH e s=vcH d s:=fun s=>by unfold vcH;rw [hs.cs]
  simp only [vcF,hn,hh,vcF_same hs k]
theorem VcR.same {f:List Int→Option (List Int)} {e d:DkV} {v:Int} (hs:DkS e d) (h:VcR f e v):VcR f d v:=by
 rcases h with ⟨h1,h2⟩ | ⟨h1,h2⟩
 ·exact .inl ⟨h1.same hs,by rw [h2,vcF_same hs,hs.ssl]⟩
 ·exact .inr ⟨fun h=>h1 (h.same hs.symm),h2⟩
theorem VcR.uniq {f:List Int→Option (List Int)} {d:DkV} {v u:Int} (h:VcR f d v) (k:VcR f d u):v=u:=by
 rcases h with ⟨h1,h2⟩ | ⟨h1,h2⟩ <;> rcases k with ⟨k1,k2⟩ | ⟨k1,k2⟩
 ·rw [h2,k2]
 ·exact absurd h1 k1
 ·exact absurd k1 h1
 ·rw [h2,k2]
end Go.Proofs.YtaibkchbkedjnaaGreatDoor
