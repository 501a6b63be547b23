/- Lemmas on the way. -/
import Derived.Test.YtaibkchbkedjnaaGreatDoorSeW
import Derived.Test.YtaibkchbkedjnaaGreatDoorElSz
import Derived.Test.YtaibkchbkedjnaaGreatDoorFew6
import Derived.Test.YtaibkchbkedjnaaGreatDoorWrW
import Derived.Test.YtaibkchbkedjnaaGreatDoorCopS
import Derived.Test.YtaibkchbkedjnaaGreatDoorCopB
namespace Go.Proofs.YtaibkchbkedjnaaGreatDoor
open Go.RowKit
set_option linter.unusedVariables false
set_option linter.unusedSimpArgs false
theorem few_se {ss ps:List El} {ev:Bool} {bs:List Bool} (ms ns:List El) (h1:ms.map El.ct=seS ss ps ev bs) (h2:ns.map El.ct=[]):Few ms ns:=by
 have e2:ns=[]:=List.map_eq_nil_iff.1 h2
 subst e2
 unfold seS at h1
 split at h1
 case isTrue h=>
  have hR:=rok_ok h
  refine few_256 (by rw [len_ctE h1,setl_len];exact hR.2.1) (by simp) (len_of_ct h1 (setl_lens hR.lens.1 (fun k hk=>hR.lens.2 _ (getD_memE hk)) _ _ nl)) (by simp)
 case isFalse h=>
  have e1:ms=[]:=List.map_eq_nil_iff.1 h1
  subst e1
  exact Few.mk' (by simp [elets])
theorem few_cr {ss ps:List El} {bs:List Bool} (ms ns:List El) (h1:ms.map El.ct=crS ss ps bs) (h2:ns.map El.ct=crP ss ps bs):Few ms ns:=few_se ms ns h1 h2
end Go.Proofs.YtaibkchbkedjnaaGreatDoor
