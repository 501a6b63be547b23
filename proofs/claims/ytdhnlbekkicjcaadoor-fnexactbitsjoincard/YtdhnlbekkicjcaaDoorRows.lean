/-
  NARROWER THAN 'FOR EVERY INPUT', by the rows' own cells (each row's printed sentence says how): FnBits: ifaces, laid · FnSeals: ifaces, laid · FnExactBitsPut: ifaces, laid · FnExactBitsGet: ifaces, laid · FnExactBackGet: ifaces, laid · FnExactBitsJoin: ifaces, laid · FnExactBitsSeal: ifaces, laid.
  DERIVED. THE GIVEN ROWS OF THIS SEAT. 7 by the template 'for every input the law returns true; each argument reads behind the call as it read before'; 0 by the template 'total and deterministic' (their statements: YtdhnlbekkicjcaaDoorTotals.lean).
  GIVEN WITH THE SEED: the statements are not yours to turn. If you find one false, say at which input.
  Laid BY PROGRAM, IN A SANDBOX (cutbox-rows.mjs): the forced cells as the released guide's own fill.sh prints them over the translation 61d0ffe5757e7d9f… (all of the seat's roots in one cut). By AI agents, Wed Nov 11 2026. No macro, syntax, notation, axiom, sorry.
-/
import Derived.Test.YtdhnlbekkicjcaaDoorChecked
import GoSem.Claim
import GoSem.ClaimJoined
import GoSem.ClaimMapViews
import Derived.JoinedTies
import Derived.KernelRfl
namespace Go.Proofs.YtdhnlbekkicjcaaDoor
/- THE CELL 'sum', in the pinned program and in every row, IS THE sha256 OF THE DUMP (.gsa) THAT YtdhnlbekkicjcaaDoorProg.lean LOADS. Nothing in Lean hashes anything: it is a label: what it is worth is what the hold of that sum in a sandbox is worth. -/
noncomputable def Tryd.pinned : Pinned := { name := "ytdhnlbekkicjcaadoor", sum := "61d0ffe5757e7d9f4eaab6ca509be6bdb6f52ba2f3a21550e6e4ebcebd95124f", checked := Tryd.checked }
namespace Rows
def none {H : Type} : Left H := { results := [], args := [] }

/- WHAT THE LISTED PACKAGE-LEVEL VARIABLES READ AS WHEN THE CALL BEGINS. Each datum BY PROGRAM (the guide's laid-datum.mjs) off the statement by which the dump's own 'gosem.cut.vars' lays the variable. In a bare row this is a premise. The card (YtdhnlbekkicjcaaDoorCards.lean) ties it to the program's text. -/
def laid_loop_example_g00528_impl_errOver {H : Type} : DataW H := .iface "*errors.errorString" (.ptr (.agg [.lit (.string [116, 104, 101, 32, 115, 116, 114, 101, 97, 109, 32, 105, 115, 32, 111, 118, 101, 114])]))
def laid_loop_example_g00528_impl_errFull {H : Type} : DataW H := .iface "*errors.errorString" (.ptr (.agg [.lit (.string [116, 104, 101, 32, 115, 116, 114, 101, 97, 109, 32, 104, 97, 115, 32, 110, 111, 32, 109, 111, 114, 101, 32, 114, 111, 111, 109])]))
def laid_loop_example_g00528_impl_errRange {H : Type} : DataW H := .iface "*errors.errorString" (.ptr (.agg [.lit (.string [116, 104, 101, 32, 115, 116, 114, 101, 97, 109, 32, 116, 97, 107, 101, 115, 32, 110, 111, 32, 115, 117, 99, 104, 32, 119, 105, 100, 116, 104, 32, 111, 114, 32, 110, 117, 109, 98, 101, 114])]))

/-- 'laws.FnBits': WHATEVER THE INPUT: true; the input reads as it did. -/
def fnBitsSpec : ChangeSpec := { name := "fnBits", vars := ["loop.example/g00528/impl.errRange", "loop.example/g00528/impl.errFull", "loop.example/g00528/impl.errOver"], fn := fun _ => fun
  | [d, g1, g2, g3] => { results := [.lit (.bool true)], args := [d], vars := [g1, g2, g3] }
  | _ => none }
def fnBitsRow : OpenClaim := { program := "ytdhnlbekkicjcaadoor", sum := "61d0ffe5757e7d9f4eaab6ca509be6bdb6f52ba2f3a21550e6e4ebcebd95124f", func := "loop.example/g00528/laws.FnBits", spec := "fnBits", named := ["loop.example/g00528/impl.errRange", "loop.example/g00528/impl.errFull", "loop.example/g00528/impl.errOver"], ifaces := true, apart := false, laid := [("loop.example/g00528/impl.errOver", laid_loop_example_g00528_impl_errOver), ("loop.example/g00528/impl.errFull", laid_loop_example_g00528_impl_errFull), ("loop.example/g00528/impl.errRange", laid_loop_example_g00528_impl_errRange)] }
def FnBitsSaid : Prop := fnBitsRow.holds Tryd.pinned (OpenSpec.ofChange fnBitsSpec)

/-- ITS FALSE NEIGHBOUR: 'it returns false'. Refute it at one input. -/
def fnBitsWrong : ChangeSpec := { name := "fnBits", vars := ["loop.example/g00528/impl.errRange", "loop.example/g00528/impl.errFull", "loop.example/g00528/impl.errOver"], fn := fun _ => fun
  | [d, g1, g2, g3] => { results := [.lit (.bool false)], args := [d], vars := [g1, g2, g3] }
  | _ => none }
def FnBitsWrongFalsely : Prop := fnBitsRow.holds Tryd.pinned (OpenSpec.ofChange fnBitsWrong)

/-- 'laws.FnSeals': WHATEVER THE INPUT: true; the input reads as it did. -/
def fnSealsSpec : ChangeSpec := { name := "fnSeals", vars := ["loop.example/g00528/impl.errRange", "loop.example/g00528/impl.errFull", "loop.example/g00528/impl.errOver"], fn := fun _ => fun
  | [d, g1, g2, g3] => { results := [.lit (.bool true)], args := [d], vars := [g1, g2, g3] }
  | _ => none }
def fnSealsRow : OpenClaim := { program := "ytdhnlbekkicjcaadoor", sum := "61d0ffe5757e7d9f4eaab6ca509be6bdb6f52ba2f3a21550e6e4ebcebd95124f", func := "loop.example/g00528/laws.FnSeals", spec := "fnSeals", inPlace := ["internal/reflectlite.TypeOf"], unfollowed := true, recurses := true, named := ["loop.example/g00528/impl.errRange", "loop.example/g00528/impl.errFull", "loop.example/g00528/impl.errOver"], ifaces := true, apart := false, laid := [("loop.example/g00528/impl.errOver", laid_loop_example_g00528_impl_errOver), ("loop.example/g00528/impl.errFull", laid_loop_example_g00528_impl_errFull), ("loop.example/g00528/impl.errRange", laid_loop_example_g00528_impl_errRange)] }
def FnSealsSaid : Prop := fnSealsRow.holds Tryd.pinned (OpenSpec.ofChange fnSealsSpec)

/-- ITS FALSE NEIGHBOUR: 'it returns false'. Refute it at one input. -/
def fnSealsWrong : ChangeSpec := { name := "fnSeals", vars := ["loop.example/g00528/impl.errRange", "loop.example/g00528/impl.errFull", "loop.example/g00528/impl.errOver"], fn := fun _ => fun
  | [d, g1, g2, g3] => { results := [.lit (.bool false)], args := [d], vars := [g1, g2, g3] }
  | _ => none }
def FnSealsWrongFalsely : Prop := fnSealsRow.holds Tryd.pinned (OpenSpec.ofChange fnSealsWrong)

/-- 'laws.FnExactBitsPut': WHATEVER THE INPUT: true; the input reads as it did. -/
def fnExactBitsPutSpec : ChangeSpec := { name := "fnExactBitsPut", vars := ["loop.example/g00528/impl.errRange", "loop.example/g00528/impl.errFull"], fn := fun _ => fun
  | [d1, d2, d3, g1, g2] => { results := [.lit (.bool true)], args := [d1, d2, d3], vars := [g1, g2] }
  | _ => none }
def fnExactBitsPutRow : OpenClaim := { program := "ytdhnlbekkicjcaadoor", sum := "61d0ffe5757e7d9f4eaab6ca509be6bdb6f52ba2f3a21550e6e4ebcebd95124f", func := "loop.example/g00528/laws.FnExactBitsPut", spec := "fnExactBitsPut", named := ["loop.example/g00528/impl.errRange", "loop.example/g00528/impl.errFull"], ifaces := true, apart := false, laid := [("loop.example/g00528/impl.errFull", laid_loop_example_g00528_impl_errFull), ("loop.example/g00528/impl.errRange", laid_loop_example_g00528_impl_errRange)] }
def FnExactBitsPutSaid : Prop := fnExactBitsPutRow.holds Tryd.pinned (OpenSpec.ofChange fnExactBitsPutSpec)

/-- ITS FALSE NEIGHBOUR: 'it returns false'. Refute it at one input. -/
def fnExactBitsPutWrong : ChangeSpec := { name := "fnExactBitsPut", vars := ["loop.example/g00528/impl.errRange", "loop.example/g00528/impl.errFull"], fn := fun _ => fun
  | [d1, d2, d3, g1, g2] => { results := [.lit (.bool false)], args := [d1, d2, d3], vars := [g1, g2] }
  | _ => none }
def FnExactBitsPutWrongFalsely : Prop := fnExactBitsPutRow.holds Tryd.pinned (OpenSpec.ofChange fnExactBitsPutWrong)

/-- 'laws.FnExactBitsGet': WHATEVER THE INPUT: true; the input reads as it did. -/
def fnExactBitsGetSpec : ChangeSpec := { name := "fnExactBitsGet", vars := ["loop.example/g00528/impl.errRange", "loop.example/g00528/impl.errOver"], fn := fun _ => fun
  | [d1, d2, d3, g1, g2] => { results := [.lit (.bool true)], args := [d1, d2, d3], vars := [g1, g2] }
  | _ => none }
def fnExactBitsGetRow : OpenClaim := { program := "ytdhnlbekkicjcaadoor", sum := "61d0ffe5757e7d9f4eaab6ca509be6bdb6f52ba2f3a21550e6e4ebcebd95124f", func := "loop.example/g00528/laws.FnExactBitsGet", spec := "fnExactBitsGet", named := ["loop.example/g00528/impl.errRange", "loop.example/g00528/impl.errOver"], ifaces := true, apart := false, laid := [("loop.example/g00528/impl.errOver", laid_loop_example_g00528_impl_errOver), ("loop.example/g00528/impl.errRange", laid_loop_example_g00528_impl_errRange)] }
def FnExactBitsGetSaid : Prop := fnExactBitsGetRow.holds Tryd.pinned (OpenSpec.ofChange fnExactBitsGetSpec)

/-- ITS FALSE NEIGHBOUR: 'it returns false'. Refute it at one input. -/
def fnExactBitsGetWrong : ChangeSpec := { name := "fnExactBitsGet", vars := ["loop.example/g00528/impl.errRange", "loop.example/g00528/impl.errOver"], fn := fun _ => fun
  | [d1, d2, d3, g1, g2] => { results := [.lit (.bool false)], args := [d1, d2, d3], vars := [g1, g2] }
  | _ => none }
def FnExactBitsGetWrongFalsely : Prop := fnExactBitsGetRow.holds Tryd.pinned (OpenSpec.ofChange fnExactBitsGetWrong)

/-- 'laws.FnExactBackGet': WHATEVER THE INPUT: true; the input reads as it did. -/
def fnExactBackGetSpec : ChangeSpec := { name := "fnExactBackGet", vars := ["loop.example/g00528/impl.errRange", "loop.example/g00528/impl.errOver"], fn := fun _ => fun
  | [d1, d2, d3, g1, g2] => { results := [.lit (.bool true)], args := [d1, d2, d3], vars := [g1, g2] }
  | _ => none }
def fnExactBackGetRow : OpenClaim := { program := "ytdhnlbekkicjcaadoor", sum := "61d0ffe5757e7d9f4eaab6ca509be6bdb6f52ba2f3a21550e6e4ebcebd95124f", func := "loop.example/g00528/laws.FnExactBackGet", spec := "fnExactBackGet", named := ["loop.example/g00528/impl.errRange", "loop.example/g00528/impl.errOver"], ifaces := true, apart := false, laid := [("loop.example/g00528/impl.errOver", laid_loop_example_g00528_impl_errOver), ("loop.example/g00528/impl.errRange", laid_loop_example_g00528_impl_errRange)] }
def FnExactBackGetSaid : Prop := fnExactBackGetRow.holds Tryd.pinned (OpenSpec.ofChange fnExactBackGetSpec)

/-- ITS FALSE NEIGHBOUR: 'it returns false'. Refute it at one input. -/
def fnExactBackGetWrong : ChangeSpec := { name := "fnExactBackGet", vars := ["loop.example/g00528/impl.errRange", "loop.example/g00528/impl.errOver"], fn := fun _ => fun
  | [d1, d2, d3, g1, g2] => { results := [.lit (.bool false)], args := [d1, d2, d3], vars := [g1, g2] }
  | _ => none }
def FnExactBackGetWrongFalsely : Prop := fnExactBackGetRow.holds Tryd.pinned (OpenSpec.ofChange fnExactBackGetWrong)

/-- 'laws.FnExactBitsJoin': WHATEVER THE INPUT: true; the input reads as it did. -/
def fnExactBitsJoinSpec : ChangeSpec := { name := "fnExactBitsJoin", vars := ["loop.example/g00528/impl.errOver", "loop.example/g00528/impl.errRange", "loop.example/g00528/impl.errFull"], fn := fun _ => fun
  | [d1, d2, g1, g2, g3] => { results := [.lit (.bool true)], args := [d1, d2], vars := [g1, g2, g3] }
  | _ => none }
def fnExactBitsJoinRow : OpenClaim := { program := "ytdhnlbekkicjcaadoor", sum := "61d0ffe5757e7d9f4eaab6ca509be6bdb6f52ba2f3a21550e6e4ebcebd95124f", func := "loop.example/g00528/laws.FnExactBitsJoin", spec := "fnExactBitsJoin", inPlace := ["internal/reflectlite.TypeOf"], unfollowed := true, recurses := true, named := ["loop.example/g00528/impl.errOver", "loop.example/g00528/impl.errRange", "loop.example/g00528/impl.errFull"], ifaces := true, apart := false, laid := [("loop.example/g00528/impl.errOver", laid_loop_example_g00528_impl_errOver), ("loop.example/g00528/impl.errFull", laid_loop_example_g00528_impl_errFull), ("loop.example/g00528/impl.errRange", laid_loop_example_g00528_impl_errRange)] }
def FnExactBitsJoinSaid : Prop := fnExactBitsJoinRow.holds Tryd.pinned (OpenSpec.ofChange fnExactBitsJoinSpec)

/-- ITS FALSE NEIGHBOUR: 'it returns false'. Refute it at one input. -/
def fnExactBitsJoinWrong : ChangeSpec := { name := "fnExactBitsJoin", vars := ["loop.example/g00528/impl.errOver", "loop.example/g00528/impl.errRange", "loop.example/g00528/impl.errFull"], fn := fun _ => fun
  | [d1, d2, g1, g2, g3] => { results := [.lit (.bool false)], args := [d1, d2], vars := [g1, g2, g3] }
  | _ => none }
def FnExactBitsJoinWrongFalsely : Prop := fnExactBitsJoinRow.holds Tryd.pinned (OpenSpec.ofChange fnExactBitsJoinWrong)

/-- 'laws.FnExactBitsSeal': WHATEVER THE INPUT: true; the input reads as it did. -/
def fnExactBitsSealSpec : ChangeSpec := { name := "fnExactBitsSeal", vars := ["loop.example/g00528/impl.errRange", "loop.example/g00528/impl.errFull"], fn := fun _ => fun
  | [d, g1, g2] => { results := [.lit (.bool true)], args := [d], vars := [g1, g2] }
  | _ => none }
def fnExactBitsSealRow : OpenClaim := { program := "ytdhnlbekkicjcaadoor", sum := "61d0ffe5757e7d9f4eaab6ca509be6bdb6f52ba2f3a21550e6e4ebcebd95124f", func := "loop.example/g00528/laws.FnExactBitsSeal", spec := "fnExactBitsSeal", named := ["loop.example/g00528/impl.errRange", "loop.example/g00528/impl.errFull"], ifaces := true, apart := false, laid := [("loop.example/g00528/impl.errFull", laid_loop_example_g00528_impl_errFull), ("loop.example/g00528/impl.errRange", laid_loop_example_g00528_impl_errRange)] }
def FnExactBitsSealSaid : Prop := fnExactBitsSealRow.holds Tryd.pinned (OpenSpec.ofChange fnExactBitsSealSpec)

/-- ITS FALSE NEIGHBOUR: 'it returns false'. Refute it at one input. -/
def fnExactBitsSealWrong : ChangeSpec := { name := "fnExactBitsSeal", vars := ["loop.example/g00528/impl.errRange", "loop.example/g00528/impl.errFull"], fn := fun _ => fun
  | [d, g1, g2] => { results := [.lit (.bool false)], args := [d], vars := [g1, g2] }
  | _ => none }
def FnExactBitsSealWrongFalsely : Prop := fnExactBitsSealRow.holds Tryd.pinned (OpenSpec.ofChange fnExactBitsSealWrong)

/- THE SECOND FORM. 'bulk': how many values and letters a reading holds, each counted each time it is reached (what is shared counts as often as it is met; a slice's spare places count too). A statement '..UptoSaid' is the law's where the arguments, and the package variables that the reading takes, are together of bulk at most 1048576: NARROWER than '..Said'. Prove '..Said' where nothing that the law and all that it calls make is longer than what came in: it says more and counts as full. Else prove '..UptoSaid'. A law counts once. -/
mutual
def uptoBulk {H : Type} : DataW H → Nat
  | .lit (.string bytes) => bytes.length + 1
  | .lit _ => 1
  | .nil => 1
  | .ptr d => uptoBulk d + 1
  | .slice elems spare => uptoBulkAll elems + uptoBulkAll spare + 1
  | .agg parts => uptoBulkAll parts + 1
  | .iface _ d => uptoBulk d + 1
  | .map entries => uptoBulkEntries entries + 1
  | .held _ => 1
def uptoBulkAll {H : Type} : List (DataW H) → Nat
  | [] => 0
  | d :: r => uptoBulk d + uptoBulkAll r
def uptoBulkEntries {H : Type} : List (Lit × DataW H) → Nat
  | [] => 0
  | x :: r => uptoBulkEntry x + uptoBulkEntries r
def uptoBulkEntry {H : Type} : Lit × DataW H → Nat
  | (.string bytes, d) => bytes.length + uptoBulk d + 1
  | (_, d) => uptoBulk d + 1
 end
def uptoSmall : (H : Type) → List (DataW H) → Bool := fun _ ds => decide (uptoBulkAll ds ≤ 1048576)
def OpenSpec.upto (s : _root_.Go.ChangeSpec) : _root_.Go.OpenSpec := { _root_.Go.OpenSpec.ofChange s with cond := some uptoSmall }

/-- 'laws.FnBits', WHERE WHAT IT READS IS OF BULK AT MOST 1048576: true; the input reads as it did. -/
def fnBitsUptoRow : OpenClaim := { program := "ytdhnlbekkicjcaadoor", sum := "61d0ffe5757e7d9f4eaab6ca509be6bdb6f52ba2f3a21550e6e4ebcebd95124f", func := "loop.example/g00528/laws.FnBits", spec := "fnBits", named := ["loop.example/g00528/impl.errRange", "loop.example/g00528/impl.errFull", "loop.example/g00528/impl.errOver"], ifaces := true, apart := false, laid := [("loop.example/g00528/impl.errOver", laid_loop_example_g00528_impl_errOver), ("loop.example/g00528/impl.errFull", laid_loop_example_g00528_impl_errFull), ("loop.example/g00528/impl.errRange", laid_loop_example_g00528_impl_errRange)], narrowed := true }
def FnBitsUptoSaid : Prop := fnBitsUptoRow.holds Tryd.pinned (OpenSpec.upto fnBitsSpec)

/-- 'laws.FnSeals', WHERE WHAT IT READS IS OF BULK AT MOST 1048576: true; the input reads as it did. -/
def fnSealsUptoRow : OpenClaim := { program := "ytdhnlbekkicjcaadoor", sum := "61d0ffe5757e7d9f4eaab6ca509be6bdb6f52ba2f3a21550e6e4ebcebd95124f", func := "loop.example/g00528/laws.FnSeals", spec := "fnSeals", inPlace := ["internal/reflectlite.TypeOf"], unfollowed := true, recurses := true, named := ["loop.example/g00528/impl.errRange", "loop.example/g00528/impl.errFull", "loop.example/g00528/impl.errOver"], ifaces := true, apart := false, laid := [("loop.example/g00528/impl.errOver", laid_loop_example_g00528_impl_errOver), ("loop.example/g00528/impl.errFull", laid_loop_example_g00528_impl_errFull), ("loop.example/g00528/impl.errRange", laid_loop_example_g00528_impl_errRange)], narrowed := true }
def FnSealsUptoSaid : Prop := fnSealsUptoRow.holds Tryd.pinned (OpenSpec.upto fnSealsSpec)

/-- 'laws.FnExactBitsPut', WHERE WHAT IT READS IS OF BULK AT MOST 1048576: true; the input reads as it did. -/
def fnExactBitsPutUptoRow : OpenClaim := { program := "ytdhnlbekkicjcaadoor", sum := "61d0ffe5757e7d9f4eaab6ca509be6bdb6f52ba2f3a21550e6e4ebcebd95124f", func := "loop.example/g00528/laws.FnExactBitsPut", spec := "fnExactBitsPut", named := ["loop.example/g00528/impl.errRange", "loop.example/g00528/impl.errFull"], ifaces := true, apart := false, laid := [("loop.example/g00528/impl.errFull", laid_loop_example_g00528_impl_errFull), ("loop.example/g00528/impl.errRange", laid_loop_example_g00528_impl_errRange)], narrowed := true }
def FnExactBitsPutUptoSaid : Prop := fnExactBitsPutUptoRow.holds Tryd.pinned (OpenSpec.upto fnExactBitsPutSpec)

/-- 'laws.FnExactBitsGet', WHERE WHAT IT READS IS OF BULK AT MOST 1048576: true; the input reads as it did. -/
def fnExactBitsGetUptoRow : OpenClaim := { program := "ytdhnlbekkicjcaadoor", sum := "61d0ffe5757e7d9f4eaab6ca509be6bdb6f52ba2f3a21550e6e4ebcebd95124f", func := "loop.example/g00528/laws.FnExactBitsGet", spec := "fnExactBitsGet", named := ["loop.example/g00528/impl.errRange", "loop.example/g00528/impl.errOver"], ifaces := true, apart := false, laid := [("loop.example/g00528/impl.errOver", laid_loop_example_g00528_impl_errOver), ("loop.example/g00528/impl.errRange", laid_loop_example_g00528_impl_errRange)], narrowed := true }
def FnExactBitsGetUptoSaid : Prop := fnExactBitsGetUptoRow.holds Tryd.pinned (OpenSpec.upto fnExactBitsGetSpec)

/-- 'laws.FnExactBackGet', WHERE WHAT IT READS IS OF BULK AT MOST 1048576: true; the input reads as it did. -/
def fnExactBackGetUptoRow : OpenClaim := { program := "ytdhnlbekkicjcaadoor", sum := "61d0ffe5757e7d9f4eaab6ca509be6bdb6f52ba2f3a21550e6e4ebcebd95124f", func := "loop.example/g00528/laws.FnExactBackGet", spec := "fnExactBackGet", named := ["loop.example/g00528/impl.errRange", "loop.example/g00528/impl.errOver"], ifaces := true, apart := false, laid := [("loop.example/g00528/impl.errOver", laid_loop_example_g00528_impl_errOver), ("loop.example/g00528/impl.errRange", laid_loop_example_g00528_impl_errRange)], narrowed := true }
def FnExactBackGetUptoSaid : Prop := fnExactBackGetUptoRow.holds Tryd.pinned (OpenSpec.upto fnExactBackGetSpec)

/-- 'laws.FnExactBitsJoin', WHERE WHAT IT READS IS OF BULK AT MOST 1048576: true; the input reads as it did. -/
def fnExactBitsJoinUptoRow : OpenClaim := { program := "ytdhnlbekkicjcaadoor", sum := "61d0ffe5757e7d9f4eaab6ca509be6bdb6f52ba2f3a21550e6e4ebcebd95124f", func := "loop.example/g00528/laws.FnExactBitsJoin", spec := "fnExactBitsJoin", inPlace := ["internal/reflectlite.TypeOf"], unfollowed := true, recurses := true, named := ["loop.example/g00528/impl.errOver", "loop.example/g00528/impl.errRange", "loop.example/g00528/impl.errFull"], ifaces := true, apart := false, laid := [("loop.example/g00528/impl.errOver", laid_loop_example_g00528_impl_errOver), ("loop.example/g00528/impl.errFull", laid_loop_example_g00528_impl_errFull), ("loop.example/g00528/impl.errRange", laid_loop_example_g00528_impl_errRange)], narrowed := true }
def FnExactBitsJoinUptoSaid : Prop := fnExactBitsJoinUptoRow.holds Tryd.pinned (OpenSpec.upto fnExactBitsJoinSpec)

/-- 'laws.FnExactBitsSeal', WHERE WHAT IT READS IS OF BULK AT MOST 1048576: true; the input reads as it did. -/
def fnExactBitsSealUptoRow : OpenClaim := { program := "ytdhnlbekkicjcaadoor", sum := "61d0ffe5757e7d9f4eaab6ca509be6bdb6f52ba2f3a21550e6e4ebcebd95124f", func := "loop.example/g00528/laws.FnExactBitsSeal", spec := "fnExactBitsSeal", named := ["loop.example/g00528/impl.errRange", "loop.example/g00528/impl.errFull"], ifaces := true, apart := false, laid := [("loop.example/g00528/impl.errFull", laid_loop_example_g00528_impl_errFull), ("loop.example/g00528/impl.errRange", laid_loop_example_g00528_impl_errRange)], narrowed := true }
def FnExactBitsSealUptoSaid : Prop := fnExactBitsSealUptoRow.holds Tryd.pinned (OpenSpec.upto fnExactBitsSealSpec)

end Rows
end Go.Proofs.YtdhnlbekkicjcaaDoor
