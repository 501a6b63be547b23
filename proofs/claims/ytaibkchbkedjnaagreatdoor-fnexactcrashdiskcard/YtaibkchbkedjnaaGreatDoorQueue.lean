/- Lemmas on the way. -/
import Derived.Test.YtaibkchbkedjnaaGreatDoorRdW
set_option maxRecDepth 20000
set_option maxHeartbeats 16000000
namespace Go.Proofs.YtaibkchbkedjnaaGreatDoor
open Go.RowKit
set_option linter.unusedVariables false
structure Que (W:World) (B Q:Nat) (v:Value) (es:List El):Prop where
 box:Box2 W Q v (.int .i64 60)
 hQ:B≤Q
 row:OVr true W B v es
 ne:¬v.ownBlock=some Q
theorem queueOf_any (a:Option Addr) (cap:Nat) (es:List El) (w:World) (hb:Els true w a es) (hn:es.length≤1000000) :
  Calls Tryz.prog 173 #[.slice a es.length cap,.int .i64 60] w fun e w'=>(∃ Q v,e=.returned (.pointer (some ⟨Q,0,none⟩))∧Que w' w.heap.size Q v es)∧Below w.heap.size w w':=by
 go_enter Tryz.func173,Tryz.ntmps173
 go_wp2_with fail
 refine (clonePend_any a cap es w hb hn).mono ?_
 rintro e w1 ⟨⟨v,rfl,hov⟩,hb1⟩
 obtain ⟨va,vc,rfl⟩:=hov.form
 have HB2:Hid (Below w.heap.size w (w1.alloc (Obj.cells #[.slice va es.length vc,.int .i64 60] 235))):=hb1.alloc hb1.size _
 have HQ:Hid (Que (w1.alloc (Obj.cells #[.slice va es.length vc,.int .i64 60] 235)) w.heap.size w1.heap.size (.slice va es.length vc) es):=⟨Box2.new _ _ _ _,hb1.size,hov.below ((Below.refl _ _).alloc nl _),fun he=>by have:=(hov.blk he).2;omega⟩
 clear hov hb1
 go_wp2
 go_ret
 exact ⟨⟨_,_,rfl,HQ.out⟩,HB2.out⟩
theorem waits_any (sa pa:Option Addr) (sc pc n:Nat) (es:List El) (w:World) (hb:Els true w pa es) (hn:es.length≤1000000) :
  Calls Tryz.prog 147 #[.agg #[.slice sa n sc,.slice pa es.length pc]] w fun e w'=>(∃ Q v,e=.returned (.pointer (some ⟨Q,0,none⟩))∧Que w' w.heap.size Q v es)∧Below w.heap.size w w':=by
 have HW:Hid (Below w.heap.size w (w.alloc (Obj.cells #[.slice sa n sc,.slice pa es.length pc] 41))):=ba
 go_enter Tryz.func147,Tryz.ntmps147
 go_wp2_with fail
 refine (queueOf_any pa pc es _ (hb.below HW.out nl) hn).mono ?_
 rintro e w1 ⟨⟨Q,v,rfl,hq⟩,hb1⟩
 have HB1:Hid (Below w.heap.size w w1):=HW.out.trans (hb1.mono HW.out.size)
 have HQ:Hid (Que w1 w.heap.size Q v es):=⟨hq.box,by have:=hq.hQ;simp at this;omega,hq.row.weak (by simp),hq.ne⟩
 clear hq hb1
 go_wp2
 go_ret
 exact ⟨⟨_,_,rfl,HQ.out⟩,HB1.out⟩
end Go.Proofs.YtaibkchbkedjnaaGreatDoor
