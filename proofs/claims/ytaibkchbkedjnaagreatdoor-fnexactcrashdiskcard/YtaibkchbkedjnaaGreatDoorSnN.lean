/- Lemmas on the way. -/
import Derived.Test.YtaibkchbkedjnaaGreatDoorElM3
namespace Go.Proofs.YtaibkchbkedjnaaGreatDoor
open Go.RowKit
set_option linter.unusedVariables false
structure SnN (w W:World) (U:Nat) (va vb:Value) (ms bs:List El) (X Y:Nat) (vc vd:Value) (cs ds:List El):Prop where
 bel:Below w.heap.size w W
 hU:w.heap.size≤U
 hX:U<X
 hY:X≤Y
 mw:RawO W w.heap.size va vb ms bs
 iw:∀ k,blkR va vb ms bs k→k<U
 bw:Box2 W U va vb
 mg:RawO W X vc vd cs ds
 ig:∀ k,blkR vc vd cs ds k→k<Y
 bg:Box2 W Y vc vd
section
variable {w W W' : World} {U : Nat} {va vb : Value} {ms bs : List El} {X Y : Nat} {vc vd : Value} {cs ds : List El}
end
theorem mk_a (ss ps:List El):(mkSs ss++mkPs ss ps).map El.a=(ss++ps).map El.a:=by
 unfold mkSs mkPs
 rw [List.map_append,List.map_append,mkE_a,mkE_a]
end Go.Proofs.YtaibkchbkedjnaaGreatDoor
