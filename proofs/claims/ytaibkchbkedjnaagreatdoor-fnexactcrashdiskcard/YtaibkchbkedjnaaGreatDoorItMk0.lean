/- Lemmas on the way. -/
import Derived.Test.YtaibkchbkedjnaaGreatDoorItMk
namespace Go.Proofs.YtaibkchbkedjnaaGreatDoor
open Go.RowKit
set_option linter.unusedVariables false
theorem markItemS_nil (a:Option Addr) (cap:Nat) (k:Int) (w:World):Calls Tryz.prog 102 #[.slice a 0 cap,.int .i64 k] w fun e w'=>e=.returned (.int .i64 k)∧w'=w:=by
 go_enter Tryz.func102,Tryz.ntmps102
 go_wp2
 go_loopw [1,5] (fun q i wr=>i=.int .i64 0∧q=.int .i64 k∧wr=w) (fun _ _ _=>0)
 case atStart=>exact ⟨rfl,rfl,rfl⟩
 case round=>
  obtain ⟨rfl,rfl,rfl⟩:=hrel
  go_wp2
  go_ret
  exact ⟨rfl,rfl⟩
theorem markPack_nil (E O:Int) (a:Option Addr) (cap:Nat) (k:Int) (w:World):Calls Tryz.prog 60 #[.agg #[.int .i64 E,.int .i64 O,.slice a 0 cap],.int .i64 k] w fun e w'=>e=.returned (.int .i64 k)∧Below w.heap.size w w':=by
 have hw:Below w.heap.size w (w.alloc (Obj.cells #[.int .i64 E,.int .i64 O,.slice a 0 cap] 47)):=ba
 have HM:=markItemS_nil a cap k (w.alloc (Obj.cells #[.int .i64 E,.int .i64 O,.slice a 0 cap] 47))
 go_enter Tryz.func60,Tryz.ntmps60
 go_wp2_with fail
 refine HM.mono ?_
 clear HM
 rintro e w1 ⟨rfl,rfl⟩
 go_wp2
 go_ret
 exact ⟨rfl,hw⟩
theorem markPack_only (E O:Int) (a:Option Addr) (cap B:Nat) (ss:List El) (k:Int) (w:World) (h:OVt w B (.slice a ss.length cap) ss) (hd:Deep w B ss) (hn:ss.length+elets ss≤1048576) (h0:0≤k) (h1:ss.length=0∨k+ss.length+elets ss≤2097152) :
  Calls Tryz.prog 60 #[.agg #[.int .i64 E,.int .i64 O,.slice a ss.length cap],.int .i64 k] w fun e w'=>e=.returned (.int .i64 (k+elets ss+ss.length))∧Only (fun b=>(Value.slice a ss.length cap).ownBlock=some b∨∃ s ∈ ss,rowOf s.a b) w w':=by
 rcases h1 with h1 | h1
 ·obtain rfl:ss=[]:=List.eq_nil_of_length_eq_zero h1
  refine (markPack_nil E O a cap k w).mono ?_
  rintro e w1 ⟨rfl,hb⟩
  exact ⟨by simp [elets],Only.ofBelow hb nl⟩
 ·exact (markPack_own E O a cap B ss k w h hd hn h0 h1).mono fun e w1 h2=>⟨h2.1,h2.2.2⟩
end Go.Proofs.YtaibkchbkedjnaaGreatDoor
