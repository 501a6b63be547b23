/- Lemmas on the way. -/
import Derived.Test.YtaibkchbkedjnaaGreatDoorClone
set_option maxRecDepth 20000
set_option maxHeartbeats 16000000
namespace Go.Proofs.YtaibkchbkedjnaaGreatDoor
open Go.RowKit
set_option linter.unusedVariables false
theorem cloneSec_any (a:Option Addr) (cap:Nat) (es:List El) (w:World) (hb:Els false w a es) (hn:es.length≤1000000) :
  Calls Tryz.prog 146 #[.slice a es.length cap] w fun e w'=>(∃ v,e=.returned v∧OVr false w' w.heap.size v es)∧Below w.heap.size w w':=by
 cases a with
 | none=>
  have hz:=els_none hb
  subst hz
  have heq:(binOp .eql 22 (.slice none 0 cap) (.slice none 0 0)).run Tryz.prog w=.ok (.bool true) w:=Lib.run_eql_slice_nil w _ _ none 0 cap 0 0 Tryz.underlying22
  go_enter Tryz.func146,Tryz.ntmps146
  go_wp2
  go_ret
  exact ⟨⟨_,rfl,OVr.nil _ _ _⟩,Below.refl _ _⟩
 | some ad=>
  have HO:Hid (OVr false (w.alloc (Obj.cells #[] 36)) w.heap.size (.slice (some ⟨w.heap.size,0,none⟩) 0 0) []):=OVr.empty false w _ nl
  have HB:Hid (Below w.heap.size w (w.alloc (Obj.cells #[] 36))):=ba
  have HY:Hid (Els false (w.alloc (Obj.cells #[] 36)) (some ad) es):=hb.below HB.out nl
  clear hb
  have heq:(binOp .eql 22 (.slice (some ad) es.length cap) (.slice none 0 0)).run Tryz.prog w=.ok (.bool false) w:=Lib.run_eql_slice_nil w _ _ (some ad) es.length cap 0 0 Tryz.underlying22
  go_enter Tryz.func146,Tryz.ntmps146
  go_wp2_with (at_builtin;(refine wpList_append_row false rfl (.tmp 5) (.tmp 6) rfl w.heap.size (.slice (some ⟨w.heap.size,0,none⟩) 0 0) [] es rfl HO.out ad cap rfl HY.out (by simp;omega) (by simp) ?_;intro v1 w1 hov1 hgr1;have HB1:Hid (Below w.heap.size w w1):=appE_below HB.out (by simp) HO.out hgr1;have HV1:Hid (OVr false w1 w.heap.size v1 es):=(by rw [List.nil_append] at hov1;exact hov1);clear hov1 hgr1))
  go_ret
  exact ⟨⟨_,rfl,HV1.out⟩,HB1.out⟩
end Go.Proofs.YtaibkchbkedjnaaGreatDoor
