/-
  No cell of these rows narrows 'for every input' (looked for: loops, veiled, ifaces, maps, wideKeys, modest, calm, conditions, laid).
  DERIVED. THE GIVEN ROWS OF THIS SEAT. 7 by the template 'for every input the law returns true; each argument reads behind the call as it read before'; 0 by the template 'total and deterministic' (their statements: YthihdnmdmfdhdaaTotals.lean).
  GIVEN WITH THE SEED: the statements are not yours to turn. If you find one false, say at which input.
  Laid BY PROGRAM, IN A SANDBOX (cutbox-rows.mjs): the forced cells as the released guide's own fill.sh prints them over the translation 276e990df1d562c3… (all of the seat's roots in one cut). By AI agents, Wed Nov 11 2026. No macro, syntax, notation, axiom, sorry.
-/
import Derived.Test.YthihdnmdmfdhdaaChecked
import GoSem.Claim
import GoSem.ClaimJoined
import GoSem.ClaimMapViews
import Derived.JoinedTies
import Derived.KernelRfl
namespace Go.Proofs.Ythihdnmdmfdhdaa
/- THE CELL 'sum', in the pinned program and in every row, IS THE sha256 OF THE DUMP (.gsa) THAT YthihdnmdmfdhdaaProg.lean LOADS. Nothing in Lean hashes anything: it is a label: what it is worth is what the hold of that sum in a sandbox is worth. -/
noncomputable def Try.pinned : Pinned := { name := "ythihdnmdmfdhdaa", sum := "276e990df1d562c3f01401b507135c67f6dde4e5b4f35dd364baa88f901a4497", checked := Try.checked }
namespace Rows
def none {H : Type} : Left H := { results := [], args := [] }

/-- 'laws.FnExactMapOk': WHATEVER THE INPUT: true; the input reads as it did. -/
def fnExactMapOkSpec : ChangeSpec := { name := "fnExactMapOk", fn := fun _ => fun
  | [d] => { results := [.lit (.bool true)], args := [d] }
  | _ => none }
def fnExactMapOkRow : OpenClaim := { program := "ythihdnmdmfdhdaa", sum := "276e990df1d562c3f01401b507135c67f6dde4e5b4f35dd364baa88f901a4497", func := "loop.example/g00528/laws.FnExactMapOk", spec := "fnExactMapOk", unfollowed := true, recurses := true, apart := false }
def FnExactMapOkSaid : Prop := fnExactMapOkRow.holds Try.pinned (OpenSpec.ofChange fnExactMapOkSpec)

/-- ITS FALSE NEIGHBOUR: 'it returns false'. Refute it at one input. -/
def fnExactMapOkWrong : ChangeSpec := { name := "fnExactMapOk", fn := fun _ => fun
  | [d] => { results := [.lit (.bool false)], args := [d] }
  | _ => none }
def FnExactMapOkWrongFalsely : Prop := fnExactMapOkRow.holds Try.pinned (OpenSpec.ofChange fnExactMapOkWrong)

/-- 'laws.FnExactMapNew': WHATEVER THE INPUT: true; the input reads as it did. -/
def fnExactMapNewSpec : ChangeSpec := { name := "fnExactMapNew", fn := fun _ => fun
  | [d] => { results := [.lit (.bool true)], args := [d] }
  | _ => none }
def fnExactMapNewRow : OpenClaim := { program := "ythihdnmdmfdhdaa", sum := "276e990df1d562c3f01401b507135c67f6dde4e5b4f35dd364baa88f901a4497", func := "loop.example/g00528/laws.FnExactMapNew", spec := "fnExactMapNew", apart := false }
def FnExactMapNewSaid : Prop := fnExactMapNewRow.holds Try.pinned (OpenSpec.ofChange fnExactMapNewSpec)

/-- ITS FALSE NEIGHBOUR: 'it returns false'. Refute it at one input. -/
def fnExactMapNewWrong : ChangeSpec := { name := "fnExactMapNew", fn := fun _ => fun
  | [d] => { results := [.lit (.bool false)], args := [d] }
  | _ => none }
def FnExactMapNewWrongFalsely : Prop := fnExactMapNewRow.holds Try.pinned (OpenSpec.ofChange fnExactMapNewWrong)

/-- 'laws.FnExactMapGet': WHATEVER THE INPUT: true; the input reads as it did. -/
def fnExactMapGetSpec : ChangeSpec := { name := "fnExactMapGet", fn := fun _ => fun
  | [d1, d2] => { results := [.lit (.bool true)], args := [d1, d2] }
  | _ => none }
def fnExactMapGetRow : OpenClaim := { program := "ythihdnmdmfdhdaa", sum := "276e990df1d562c3f01401b507135c67f6dde4e5b4f35dd364baa88f901a4497", func := "loop.example/g00528/laws.FnExactMapGet", spec := "fnExactMapGet", unfollowed := true, recurses := true, apart := false }
def FnExactMapGetSaid : Prop := fnExactMapGetRow.holds Try.pinned (OpenSpec.ofChange fnExactMapGetSpec)

/-- ITS FALSE NEIGHBOUR: 'it returns false'. Refute it at one input. -/
def fnExactMapGetWrong : ChangeSpec := { name := "fnExactMapGet", fn := fun _ => fun
  | [d1, d2] => { results := [.lit (.bool false)], args := [d1, d2] }
  | _ => none }
def FnExactMapGetWrongFalsely : Prop := fnExactMapGetRow.holds Try.pinned (OpenSpec.ofChange fnExactMapGetWrong)

/-- 'laws.FnExactMapLive': WHATEVER THE INPUT: true; the input reads as it did. -/
def fnExactMapLiveSpec : ChangeSpec := { name := "fnExactMapLive", fn := fun _ => fun
  | [d1, d2] => { results := [.lit (.bool true)], args := [d1, d2] }
  | _ => none }
def fnExactMapLiveRow : OpenClaim := { program := "ythihdnmdmfdhdaa", sum := "276e990df1d562c3f01401b507135c67f6dde4e5b4f35dd364baa88f901a4497", func := "loop.example/g00528/laws.FnExactMapLive", spec := "fnExactMapLive", unfollowed := true, recurses := true, apart := false }
def FnExactMapLiveSaid : Prop := fnExactMapLiveRow.holds Try.pinned (OpenSpec.ofChange fnExactMapLiveSpec)

/-- ITS FALSE NEIGHBOUR: 'it returns false'. Refute it at one input. -/
def fnExactMapLiveWrong : ChangeSpec := { name := "fnExactMapLive", fn := fun _ => fun
  | [d1, d2] => { results := [.lit (.bool false)], args := [d1, d2] }
  | _ => none }
def FnExactMapLiveWrongFalsely : Prop := fnExactMapLiveRow.holds Try.pinned (OpenSpec.ofChange fnExactMapLiveWrong)

/-- 'laws.FnExactSuperBytes': WHATEVER THE INPUT: true; the input reads as it did. -/
def fnExactSuperBytesSpec : ChangeSpec := { name := "fnExactSuperBytes", fn := fun _ => fun
  | [d1, d2] => { results := [.lit (.bool true)], args := [d1, d2] }
  | _ => none }
def fnExactSuperBytesRow : OpenClaim := { program := "ythihdnmdmfdhdaa", sum := "276e990df1d562c3f01401b507135c67f6dde4e5b4f35dd364baa88f901a4497", func := "loop.example/g00528/laws.FnExactSuperBytes", spec := "fnExactSuperBytes", unfollowed := true, recurses := true, apart := false }
def FnExactSuperBytesSaid : Prop := fnExactSuperBytesRow.holds Try.pinned (OpenSpec.ofChange fnExactSuperBytesSpec)

/-- ITS FALSE NEIGHBOUR: 'it returns false'. Refute it at one input. -/
def fnExactSuperBytesWrong : ChangeSpec := { name := "fnExactSuperBytes", fn := fun _ => fun
  | [d1, d2] => { results := [.lit (.bool false)], args := [d1, d2] }
  | _ => none }
def FnExactSuperBytesWrongFalsely : Prop := fnExactSuperBytesRow.holds Try.pinned (OpenSpec.ofChange fnExactSuperBytesWrong)

/-- 'laws.FnExactSuperRead': WHATEVER THE INPUT: true; the input reads as it did. -/
def fnExactSuperReadSpec : ChangeSpec := { name := "fnExactSuperRead", fn := fun _ => fun
  | [d] => { results := [.lit (.bool true)], args := [d] }
  | _ => none }
def fnExactSuperReadRow : OpenClaim := { program := "ythihdnmdmfdhdaa", sum := "276e990df1d562c3f01401b507135c67f6dde4e5b4f35dd364baa88f901a4497", func := "loop.example/g00528/laws.FnExactSuperRead", spec := "fnExactSuperRead", unfollowed := true, recurses := true, apart := false }
def FnExactSuperReadSaid : Prop := fnExactSuperReadRow.holds Try.pinned (OpenSpec.ofChange fnExactSuperReadSpec)

/-- ITS FALSE NEIGHBOUR: 'it returns false'. Refute it at one input. -/
def fnExactSuperReadWrong : ChangeSpec := { name := "fnExactSuperRead", fn := fun _ => fun
  | [d] => { results := [.lit (.bool false)], args := [d] }
  | _ => none }
def FnExactSuperReadWrongFalsely : Prop := fnExactSuperReadRow.holds Try.pinned (OpenSpec.ofChange fnExactSuperReadWrong)

/-- 'laws.FnExactNewest': WHATEVER THE INPUT: true; the input reads as it did. -/
def fnExactNewestSpec : ChangeSpec := { name := "fnExactNewest", fn := fun _ => fun
  | [d1, d2] => { results := [.lit (.bool true)], args := [d1, d2] }
  | _ => none }
def fnExactNewestRow : OpenClaim := { program := "ythihdnmdmfdhdaa", sum := "276e990df1d562c3f01401b507135c67f6dde4e5b4f35dd364baa88f901a4497", func := "loop.example/g00528/laws.FnExactNewest", spec := "fnExactNewest", unfollowed := true, recurses := true, apart := false }
def FnExactNewestSaid : Prop := fnExactNewestRow.holds Try.pinned (OpenSpec.ofChange fnExactNewestSpec)

/-- ITS FALSE NEIGHBOUR: 'it returns false'. Refute it at one input. -/
def fnExactNewestWrong : ChangeSpec := { name := "fnExactNewest", fn := fun _ => fun
  | [d1, d2] => { results := [.lit (.bool false)], args := [d1, d2] }
  | _ => none }
def FnExactNewestWrongFalsely : Prop := fnExactNewestRow.holds Try.pinned (OpenSpec.ofChange fnExactNewestWrong)

/- THE SECOND FORM. 'bulk': how many values and letters a reading holds, each counted each time it is reached (what is shared counts as often as it is met; a slice's spare places count too). A statement '..UptoSaid' is the law's where the arguments, and the package variables that the reading takes, are together of bulk at most 1048576: NARROWER than '..Said'. Prove '..Said' where nothing that the law and all that it calls make is longer than what came in: it says more and counts as full. Else prove '..UptoSaid'. A law counts once. -/
mutual
def uptoBulk {H : Type} : DataW H → Nat
  | .lit (.string bytes) => bytes.length + 1
  | .lit _ => 1
  | .nil => 1
  | .ptr d => uptoBulk d + 1
  | .slice elems spare => uptoBulkAll elems + uptoBulkAll spare + 1
  | .agg parts => uptoBulkAll parts + 1
  | .iface _ d => uptoBulk d + 1
  | .map entries => uptoBulkEntries entries + 1
  | .held _ => 1
def uptoBulkAll {H : Type} : List (DataW H) → Nat
  | [] => 0
  | d :: r => uptoBulk d + uptoBulkAll r
def uptoBulkEntries {H : Type} : List (Lit × DataW H) → Nat
  | [] => 0
  | x :: r => uptoBulkEntry x + uptoBulkEntries r
def uptoBulkEntry {H : Type} : Lit × DataW H → Nat
  | (.string bytes, d) => bytes.length + uptoBulk d + 1
  | (_, d) => uptoBulk d + 1
 end
def uptoSmall : (H : Type) → List (DataW H) → Bool := fun _ ds => decide (uptoBulkAll ds ≤ 1048576)
def OpenSpec.upto (s : _root_.Go.ChangeSpec) : _root_.Go.OpenSpec := { _root_.Go.OpenSpec.ofChange s with cond := some uptoSmall }

/-- 'laws.FnExactMapOk', WHERE WHAT IT READS IS OF BULK AT MOST 1048576: true; the input reads as it did. -/
def fnExactMapOkUptoRow : OpenClaim := { program := "ythihdnmdmfdhdaa", sum := "276e990df1d562c3f01401b507135c67f6dde4e5b4f35dd364baa88f901a4497", func := "loop.example/g00528/laws.FnExactMapOk", spec := "fnExactMapOk", unfollowed := true, recurses := true, apart := false, narrowed := true }
def FnExactMapOkUptoSaid : Prop := fnExactMapOkUptoRow.holds Try.pinned (OpenSpec.upto fnExactMapOkSpec)

/-- 'laws.FnExactMapNew', WHERE WHAT IT READS IS OF BULK AT MOST 1048576: true; the input reads as it did. -/
def fnExactMapNewUptoRow : OpenClaim := { program := "ythihdnmdmfdhdaa", sum := "276e990df1d562c3f01401b507135c67f6dde4e5b4f35dd364baa88f901a4497", func := "loop.example/g00528/laws.FnExactMapNew", spec := "fnExactMapNew", apart := false, narrowed := true }
def FnExactMapNewUptoSaid : Prop := fnExactMapNewUptoRow.holds Try.pinned (OpenSpec.upto fnExactMapNewSpec)

/-- 'laws.FnExactMapGet', WHERE WHAT IT READS IS OF BULK AT MOST 1048576: true; the input reads as it did. -/
def fnExactMapGetUptoRow : OpenClaim := { program := "ythihdnmdmfdhdaa", sum := "276e990df1d562c3f01401b507135c67f6dde4e5b4f35dd364baa88f901a4497", func := "loop.example/g00528/laws.FnExactMapGet", spec := "fnExactMapGet", unfollowed := true, recurses := true, apart := false, narrowed := true }
def FnExactMapGetUptoSaid : Prop := fnExactMapGetUptoRow.holds Try.pinned (OpenSpec.upto fnExactMapGetSpec)

/-- 'laws.FnExactMapLive', WHERE WHAT IT READS IS OF BULK AT MOST 1048576: true; the input reads as it did. -/
def fnExactMapLiveUptoRow : OpenClaim := { program := "ythihdnmdmfdhdaa", sum := "276e990df1d562c3f01401b507135c67f6dde4e5b4f35dd364baa88f901a4497", func := "loop.example/g00528/laws.FnExactMapLive", spec := "fnExactMapLive", unfollowed := true, recurses := true, apart := false, narrowed := true }
def FnExactMapLiveUptoSaid : Prop := fnExactMapLiveUptoRow.holds Try.pinned (OpenSpec.upto fnExactMapLiveSpec)

/-- 'laws.FnExactSuperBytes', WHERE WHAT IT READS IS OF BULK AT MOST 1048576: true; the input reads as it did. -/
def fnExactSuperBytesUptoRow : OpenClaim := { program := "ythihdnmdmfdhdaa", sum := "276e990df1d562c3f01401b507135c67f6dde4e5b4f35dd364baa88f901a4497", func := "loop.example/g00528/laws.FnExactSuperBytes", spec := "fnExactSuperBytes", unfollowed := true, recurses := true, apart := false, narrowed := true }
def FnExactSuperBytesUptoSaid : Prop := fnExactSuperBytesUptoRow.holds Try.pinned (OpenSpec.upto fnExactSuperBytesSpec)

/-- 'laws.FnExactSuperRead', WHERE WHAT IT READS IS OF BULK AT MOST 1048576: true; the input reads as it did. -/
def fnExactSuperReadUptoRow : OpenClaim := { program := "ythihdnmdmfdhdaa", sum := "276e990df1d562c3f01401b507135c67f6dde4e5b4f35dd364baa88f901a4497", func := "loop.example/g00528/laws.FnExactSuperRead", spec := "fnExactSuperRead", unfollowed := true, recurses := true, apart := false, narrowed := true }
def FnExactSuperReadUptoSaid : Prop := fnExactSuperReadUptoRow.holds Try.pinned (OpenSpec.upto fnExactSuperReadSpec)

/-- 'laws.FnExactNewest', WHERE WHAT IT READS IS OF BULK AT MOST 1048576: true; the input reads as it did. -/
def fnExactNewestUptoRow : OpenClaim := { program := "ythihdnmdmfdhdaa", sum := "276e990df1d562c3f01401b507135c67f6dde4e5b4f35dd364baa88f901a4497", func := "loop.example/g00528/laws.FnExactNewest", spec := "fnExactNewest", unfollowed := true, recurses := true, apart := false, narrowed := true }
def FnExactNewestUptoSaid : Prop := fnExactNewestUptoRow.holds Try.pinned (OpenSpec.upto fnExactNewestSpec)

end Rows
end Go.Proofs.Ythihdnmdmfdhdaa
