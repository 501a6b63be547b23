/- Lemmas on the way. -/
import Derived.Test.YtaibkchbkedjnaaGreatDoorElSz
namespace Go.Proofs.YtaibkchbkedjnaaGreatDoor
open Go.RowKit
set_option linter.unusedVariables false
set_option linter.unusedSimpArgs false
theorem elets_256 {es:List El} (h:∀ e ∈ es,e.ls.length=256):elets es=es.length*256:=by
 induction es with
 | nil=>rfl
 | cons e es ih=>
  simp only [elets,ih (fun x hx=>h x (List.mem_cons_of_mem _ hx)),h e (List.mem_cons_self ..),List.length_cons]
  omega
theorem few_256 {ms ns:List El} (h1:ms.length≤24) (h2:ns.length≤61) (h3:∀ e ∈ ms,e.ls.length=256) (h4:∀ e ∈ ns,e.ls.length=256):Few ms ns:=
 Few.mk' (by rw [elets_256 h3,elets_256 h4];omega)
end Go.Proofs.YtaibkchbkedjnaaGreatDoor
