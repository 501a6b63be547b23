/-
  No cell of these rows narrows 'for every input' (looked for: loops, veiled, ifaces, maps, wideKeys, modest, calm, conditions, laid).
  DERIVED. THE GIVEN ROWS OF THIS SEAT. 6 by the template 'for every input the law returns true; each argument reads behind the call as it read before'; 0 by the template 'total and deterministic' (their statements: YtajhaoclkomjnaaTotals.lean).
  GIVEN WITH THE SEED: the statements are not yours to turn. If you find one false, say at which input.
  Laid BY PROGRAM, IN A SANDBOX (cutbox-rows.mjs): the forced cells as the released guide's own fill.sh prints them over the translation 627200c77be8d066… (all of the seat's roots in one cut). By AI agents, Wed Nov 11 2026. No macro, syntax, notation, axiom, sorry.
-/
import Derived.Test.YtajhaoclkomjnaaChecked
import GoSem.Claim
import GoSem.ClaimJoined
import GoSem.ClaimMapViews
import Derived.JoinedTies
import Derived.KernelRfl
namespace Go.Proofs.Ytajhaoclkomjnaa
/- THE CELL 'sum', in the pinned program and in every row, IS THE sha256 OF THE DUMP (.gsa) THAT YtajhaoclkomjnaaProg.lean LOADS. Nothing in Lean hashes anything: it is a label: what it is worth is what the hold of that sum in a sandbox is worth. -/
noncomputable def Try.pinned : Pinned := { name := "ytajhaoclkomjnaa", sum := "627200c77be8d066ae31f43edd29dbf97aefed6599be77b164e4bfead556720c", checked := Try.checked }
namespace Rows
def none {H : Type} : Left H := { results := [], args := [] }

/-- 'laws.FnExactRawOk': WHATEVER THE INPUT: true; the input reads as it did. -/
def fnExactRawOkSpec : ChangeSpec := { name := "fnExactRawOk", fn := fun _ => fun
  | [d] => { results := [.lit (.bool true)], args := [d] }
  | _ => none }
def fnExactRawOkRow : OpenClaim := { program := "ytajhaoclkomjnaa", sum := "627200c77be8d066ae31f43edd29dbf97aefed6599be77b164e4bfead556720c", func := "loop.example/g00528/laws.FnExactRawOk", spec := "fnExactRawOk", apart := false }
def FnExactRawOkSaid : Prop := fnExactRawOkRow.holds Try.pinned (OpenSpec.ofChange fnExactRawOkSpec)

/-- ITS FALSE NEIGHBOUR: 'it returns false'. Refute it at one input. -/
def fnExactRawOkWrong : ChangeSpec := { name := "fnExactRawOk", fn := fun _ => fun
  | [d] => { results := [.lit (.bool false)], args := [d] }
  | _ => none }
def FnExactRawOkWrongFalsely : Prop := fnExactRawOkRow.holds Try.pinned (OpenSpec.ofChange fnExactRawOkWrong)

/-- 'laws.FnExactRawNew': WHATEVER THE INPUT: true; the input reads as it did. -/
def fnExactRawNewSpec : ChangeSpec := { name := "fnExactRawNew", fn := fun _ => fun
  | [d] => { results := [.lit (.bool true)], args := [d] }
  | _ => none }
def fnExactRawNewRow : OpenClaim := { program := "ytajhaoclkomjnaa", sum := "627200c77be8d066ae31f43edd29dbf97aefed6599be77b164e4bfead556720c", func := "loop.example/g00528/laws.FnExactRawNew", spec := "fnExactRawNew", apart := false }
def FnExactRawNewSaid : Prop := fnExactRawNewRow.holds Try.pinned (OpenSpec.ofChange fnExactRawNewSpec)

/-- ITS FALSE NEIGHBOUR: 'it returns false'. Refute it at one input. -/
def fnExactRawNewWrong : ChangeSpec := { name := "fnExactRawNew", fn := fun _ => fun
  | [d] => { results := [.lit (.bool false)], args := [d] }
  | _ => none }
def FnExactRawNewWrongFalsely : Prop := fnExactRawNewRow.holds Try.pinned (OpenSpec.ofChange fnExactRawNewWrong)

/-- 'laws.FnExactRawRead': WHATEVER THE INPUT: true; the input reads as it did. -/
def fnExactRawReadSpec : ChangeSpec := { name := "fnExactRawRead", fn := fun _ => fun
  | [d1, d2] => { results := [.lit (.bool true)], args := [d1, d2] }
  | _ => none }
def fnExactRawReadRow : OpenClaim := { program := "ytajhaoclkomjnaa", sum := "627200c77be8d066ae31f43edd29dbf97aefed6599be77b164e4bfead556720c", func := "loop.example/g00528/laws.FnExactRawRead", spec := "fnExactRawRead", unfollowed := true, recurses := true, apart := false }
def FnExactRawReadSaid : Prop := fnExactRawReadRow.holds Try.pinned (OpenSpec.ofChange fnExactRawReadSpec)

/-- ITS FALSE NEIGHBOUR: 'it returns false'. Refute it at one input. -/
def fnExactRawReadWrong : ChangeSpec := { name := "fnExactRawRead", fn := fun _ => fun
  | [d1, d2] => { results := [.lit (.bool false)], args := [d1, d2] }
  | _ => none }
def FnExactRawReadWrongFalsely : Prop := fnExactRawReadRow.holds Try.pinned (OpenSpec.ofChange fnExactRawReadWrong)

/-- 'laws.FnExactRawWrite': WHATEVER THE INPUT: true; the input reads as it did. -/
def fnExactRawWriteSpec : ChangeSpec := { name := "fnExactRawWrite", fn := fun _ => fun
  | [d1, d2, d3] => { results := [.lit (.bool true)], args := [d1, d2, d3] }
  | _ => none }
def fnExactRawWriteRow : OpenClaim := { program := "ytajhaoclkomjnaa", sum := "627200c77be8d066ae31f43edd29dbf97aefed6599be77b164e4bfead556720c", func := "loop.example/g00528/laws.FnExactRawWrite", spec := "fnExactRawWrite", apart := false }
def FnExactRawWriteSaid : Prop := fnExactRawWriteRow.holds Try.pinned (OpenSpec.ofChange fnExactRawWriteSpec)

/-- ITS FALSE NEIGHBOUR: 'it returns false'. Refute it at one input. -/
def fnExactRawWriteWrong : ChangeSpec := { name := "fnExactRawWrite", fn := fun _ => fun
  | [d1, d2, d3] => { results := [.lit (.bool false)], args := [d1, d2, d3] }
  | _ => none }
def FnExactRawWriteWrongFalsely : Prop := fnExactRawWriteRow.holds Try.pinned (OpenSpec.ofChange fnExactRawWriteWrong)

/-- 'laws.FnExactRawBarrier': WHATEVER THE INPUT: true; the input reads as it did. -/
def fnExactRawBarrierSpec : ChangeSpec := { name := "fnExactRawBarrier", fn := fun _ => fun
  | [d] => { results := [.lit (.bool true)], args := [d] }
  | _ => none }
def fnExactRawBarrierRow : OpenClaim := { program := "ytajhaoclkomjnaa", sum := "627200c77be8d066ae31f43edd29dbf97aefed6599be77b164e4bfead556720c", func := "loop.example/g00528/laws.FnExactRawBarrier", spec := "fnExactRawBarrier", unfollowed := true, recurses := true, apart := false }
def FnExactRawBarrierSaid : Prop := fnExactRawBarrierRow.holds Try.pinned (OpenSpec.ofChange fnExactRawBarrierSpec)

/-- ITS FALSE NEIGHBOUR: 'it returns false'. Refute it at one input. -/
def fnExactRawBarrierWrong : ChangeSpec := { name := "fnExactRawBarrier", fn := fun _ => fun
  | [d] => { results := [.lit (.bool false)], args := [d] }
  | _ => none }
def FnExactRawBarrierWrongFalsely : Prop := fnExactRawBarrierRow.holds Try.pinned (OpenSpec.ofChange fnExactRawBarrierWrong)

/-- 'laws.FnExactRawCrash': WHATEVER THE INPUT: true; the input reads as it did. -/
def fnExactRawCrashSpec : ChangeSpec := { name := "fnExactRawCrash", fn := fun _ => fun
  | [d1, d2] => { results := [.lit (.bool true)], args := [d1, d2] }
  | _ => none }
def fnExactRawCrashRow : OpenClaim := { program := "ytajhaoclkomjnaa", sum := "627200c77be8d066ae31f43edd29dbf97aefed6599be77b164e4bfead556720c", func := "loop.example/g00528/laws.FnExactRawCrash", spec := "fnExactRawCrash", unfollowed := true, recurses := true, apart := false }
def FnExactRawCrashSaid : Prop := fnExactRawCrashRow.holds Try.pinned (OpenSpec.ofChange fnExactRawCrashSpec)

/-- ITS FALSE NEIGHBOUR: 'it returns false'. Refute it at one input. -/
def fnExactRawCrashWrong : ChangeSpec := { name := "fnExactRawCrash", fn := fun _ => fun
  | [d1, d2] => { results := [.lit (.bool false)], args := [d1, d2] }
  | _ => none }
def FnExactRawCrashWrongFalsely : Prop := fnExactRawCrashRow.holds Try.pinned (OpenSpec.ofChange fnExactRawCrashWrong)

/- THE SECOND FORM. 'bulk': how many values and letters a reading holds, each counted each time it is reached (what is shared counts as often as it is met; a slice's spare places count too). A statement '..UptoSaid' is the law's where the arguments, and the package variables that the reading takes, are together of bulk at most 1048576: NARROWER than '..Said'. Prove '..Said' where nothing that the law and all that it calls make is longer than what came in: it says more and counts as full. Else prove '..UptoSaid'. A law counts once. -/
mutual
def uptoBulk {H : Type} : DataW H → Nat
  | .lit (.string bytes) => bytes.length + 1
  | .lit _ => 1
  | .nil => 1
  | .ptr d => uptoBulk d + 1
  | .slice elems spare => uptoBulkAll elems + uptoBulkAll spare + 1
  | .agg parts => uptoBulkAll parts + 1
  | .iface _ d => uptoBulk d + 1
  | .map entries => uptoBulkEntries entries + 1
  | .held _ => 1
def uptoBulkAll {H : Type} : List (DataW H) → Nat
  | [] => 0
  | d :: r => uptoBulk d + uptoBulkAll r
def uptoBulkEntries {H : Type} : List (Lit × DataW H) → Nat
  | [] => 0
  | x :: r => uptoBulkEntry x + uptoBulkEntries r
def uptoBulkEntry {H : Type} : Lit × DataW H → Nat
  | (.string bytes, d) => bytes.length + uptoBulk d + 1
  | (_, d) => uptoBulk d + 1
 end
def uptoSmall : (H : Type) → List (DataW H) → Bool := fun _ ds => decide (uptoBulkAll ds ≤ 1048576)
def OpenSpec.upto (s : _root_.Go.ChangeSpec) : _root_.Go.OpenSpec := { _root_.Go.OpenSpec.ofChange s with cond := some uptoSmall }

/-- 'laws.FnExactRawOk', WHERE WHAT IT READS IS OF BULK AT MOST 1048576: true; the input reads as it did. -/
def fnExactRawOkUptoRow : OpenClaim := { program := "ytajhaoclkomjnaa", sum := "627200c77be8d066ae31f43edd29dbf97aefed6599be77b164e4bfead556720c", func := "loop.example/g00528/laws.FnExactRawOk", spec := "fnExactRawOk", apart := false, narrowed := true }
def FnExactRawOkUptoSaid : Prop := fnExactRawOkUptoRow.holds Try.pinned (OpenSpec.upto fnExactRawOkSpec)

/-- 'laws.FnExactRawNew', WHERE WHAT IT READS IS OF BULK AT MOST 1048576: true; the input reads as it did. -/
def fnExactRawNewUptoRow : OpenClaim := { program := "ytajhaoclkomjnaa", sum := "627200c77be8d066ae31f43edd29dbf97aefed6599be77b164e4bfead556720c", func := "loop.example/g00528/laws.FnExactRawNew", spec := "fnExactRawNew", apart := false, narrowed := true }
def FnExactRawNewUptoSaid : Prop := fnExactRawNewUptoRow.holds Try.pinned (OpenSpec.upto fnExactRawNewSpec)

/-- 'laws.FnExactRawRead', WHERE WHAT IT READS IS OF BULK AT MOST 1048576: true; the input reads as it did. -/
def fnExactRawReadUptoRow : OpenClaim := { program := "ytajhaoclkomjnaa", sum := "627200c77be8d066ae31f43edd29dbf97aefed6599be77b164e4bfead556720c", func := "loop.example/g00528/laws.FnExactRawRead", spec := "fnExactRawRead", unfollowed := true, recurses := true, apart := false, narrowed := true }
def FnExactRawReadUptoSaid : Prop := fnExactRawReadUptoRow.holds Try.pinned (OpenSpec.upto fnExactRawReadSpec)

/-- 'laws.FnExactRawWrite', WHERE WHAT IT READS IS OF BULK AT MOST 1048576: true; the input reads as it did. -/
def fnExactRawWriteUptoRow : OpenClaim := { program := "ytajhaoclkomjnaa", sum := "627200c77be8d066ae31f43edd29dbf97aefed6599be77b164e4bfead556720c", func := "loop.example/g00528/laws.FnExactRawWrite", spec := "fnExactRawWrite", apart := false, narrowed := true }
def FnExactRawWriteUptoSaid : Prop := fnExactRawWriteUptoRow.holds Try.pinned (OpenSpec.upto fnExactRawWriteSpec)

/-- 'laws.FnExactRawBarrier', WHERE WHAT IT READS IS OF BULK AT MOST 1048576: true; the input reads as it did. -/
def fnExactRawBarrierUptoRow : OpenClaim := { program := "ytajhaoclkomjnaa", sum := "627200c77be8d066ae31f43edd29dbf97aefed6599be77b164e4bfead556720c", func := "loop.example/g00528/laws.FnExactRawBarrier", spec := "fnExactRawBarrier", unfollowed := true, recurses := true, apart := false, narrowed := true }
def FnExactRawBarrierUptoSaid : Prop := fnExactRawBarrierUptoRow.holds Try.pinned (OpenSpec.upto fnExactRawBarrierSpec)

/-- 'laws.FnExactRawCrash', WHERE WHAT IT READS IS OF BULK AT MOST 1048576: true; the input reads as it did. -/
def fnExactRawCrashUptoRow : OpenClaim := { program := "ytajhaoclkomjnaa", sum := "627200c77be8d066ae31f43edd29dbf97aefed6599be77b164e4bfead556720c", func := "loop.example/g00528/laws.FnExactRawCrash", spec := "fnExactRawCrash", unfollowed := true, recurses := true, apart := false, narrowed := true }
def FnExactRawCrashUptoSaid : Prop := fnExactRawCrashUptoRow.holds Try.pinned (OpenSpec.upto fnExactRawCrashSpec)

end Rows
end Go.Proofs.Ytajhaoclkomjnaa
