/- Lemmas on the way. -/
import Derived.Test.YtaibkchbkedjnaaGreatDoorDkS2
import Derived.Test.YtaibkchbkedjnaaGreatDoorMpLvS
import Derived.Test.YtaibkchbkedjnaaGreatDoorBit1
namespace Go.Proofs.YtaibkchbkedjnaaGreatDoor
open Go.RowKit
set_option linter.unusedVariables false
set_option linter.unusedSimpArgs false
def frB (d:DkV) (s:Int):Bool:=!(d.cs.any (fun z=>z == s)) && (!(d.ms.any (fun p=>p.1 == s)) && !(d.vs.any (fun p=>p.1 == s)))
def frL (d:DkV):Nat→List Int
 | 0=>[]
 | k+1=>if frB d ((k+2:Nat):Int) then frL d k++[((k+2:Nat):Int)] else frL d k
theorem any_cs {cs:List Int} {s:Int}:cs.any (fun z=>z == s)=true↔∃ i,i<cs.length∧cs.getD i 0=s:=by
 rw [List.any_eq_true]
 constructor
 ·rintro ⟨z,hz,h⟩
  obtain ⟨i,hi,rfl⟩:=List.mem_iff_getElem.1 hz
  exact ⟨i,hi,by simpa [List.getD_eq_getElem?_getD,List.getElem?_eq_getElem hi] using h⟩
 ·rintro ⟨i,hi,h⟩
  refine ⟨cs[i],List.getElem_mem hi,?_⟩
  simpa [List.getD_eq_getElem?_getD,List.getElem?_eq_getElem hi] using h
end Go.Proofs.YtaibkchbkedjnaaGreatDoor
