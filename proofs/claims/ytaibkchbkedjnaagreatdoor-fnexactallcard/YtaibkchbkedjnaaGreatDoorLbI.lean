import Derived.Test.YtaibkchbkedjnaaGreatDoorCkM
set_option maxRecDepth 20000
set_option maxHeartbeats 16000000
namespace Go.Proofs.YtaibkchbkedjnaaGreatDoor
open Go.RowKit
set_option linter.unusedVariables false
set_option linter.unusedSimpArgs false
theorem z8v (n:Int) (a:Option Addr) (l c:Nat) (w:World):Calls Tryz.prog 265 #[.agg #[.int .i64 n,.slice a l c]] w fun e w'=>e=.returned (.slice a l c)/\Below w.heap.size w w':=by
 have hw:Bw w (w.alloc (Obj.cells #[.int .i64 n,.slice a l c] 122)):=ba
 go_enter Tryz.func265,Tryz.ntmps265
 go_wp2
 go_ret;exact ⟨rfl,hw⟩
end Go.Proofs.YtaibkchbkedjnaaGreatDoor
