/-
  NARROWER THAN 'FOR EVERY INPUT', by the rows' own cells (each row's printed sentence says how): FnExactFsePut: ifaces, laid · FnExactFseGet: ifaces, laid · FnExactNormPut: ifaces, laid · FnExactNormGet: ifaces, laid.
  DERIVED. THE GIVEN ROWS OF THIS SEAT. 4 by the template 'for every input the law returns true; each argument reads behind the call as it read before'; 0 by the template 'total and deterministic' (their statements: YthdpboodalbjiaaDoorTotals.lean).
  GIVEN WITH THE SEED: the statements are not yours to turn. If you find one false, say at which input.
  Laid BY PROGRAM, IN A SANDBOX (cutbox-rows.mjs): the forced cells as the released guide's own fill.sh prints them over the translation bbb80ed7f6e264a4… (all of the seat's roots in one cut). By AI agents, Wed Nov 11 2026. No macro, syntax, notation, axiom, sorry.
-/
import Derived.Test.YthdpboodalbjiaaDoorChecked
import GoSem.Claim
import GoSem.ClaimJoined
import GoSem.ClaimMapViews
import Derived.JoinedTies
import Derived.KernelRfl
namespace Go.Proofs.YthdpboodalbjiaaDoor
/- THE CELL 'sum', in the pinned program and in every row, IS THE sha256 OF THE DUMP (.gsa) THAT YthdpboodalbjiaaDoorProg.lean LOADS. Nothing in Lean hashes anything: it is a label: what it is worth is what the hold of that sum in a sandbox is worth. -/
noncomputable def Tryd.pinned : Pinned := { name := "ythdpboodalbjiaadoor", sum := "bbb80ed7f6e264a431c5a602c5238c7cc7760bc6557e9c9e3e87865c76a84fc3", checked := Tryd.checked }
namespace Rows
def none {H : Type} : Left H := { results := [], args := [] }

/- WHAT THE LISTED PACKAGE-LEVEL VARIABLES READ AS WHEN THE CALL BEGINS. Each datum BY PROGRAM (the guide's laid-datum.mjs) off the statement by which the dump's own 'gosem.cut.vars' lays the variable. In a bare row this is a premise. The card (YthdpboodalbjiaaDoorCards.lean) ties it to the program's text. -/
def laid_loop_example_g00528_impl_errFull {H : Type} : DataW H := .iface "*errors.errorString" (.ptr (.agg [.lit (.string [116, 104, 101, 32, 115, 116, 114, 101, 97, 109, 32, 104, 97, 115, 32, 110, 111, 32, 109, 111, 114, 101, 32, 114, 111, 111, 109])]))
def laid_loop_example_g00528_impl_errRange {H : Type} : DataW H := .iface "*errors.errorString" (.ptr (.agg [.lit (.string [116, 104, 101, 32, 115, 116, 114, 101, 97, 109, 32, 116, 97, 107, 101, 115, 32, 110, 111, 32, 115, 117, 99, 104, 32, 119, 105, 100, 116, 104, 32, 111, 114, 32, 110, 117, 109, 98, 101, 114])]))
def laid_loop_example_g00528_impl_errNoShare {H : Type} : DataW H := .iface "*errors.errorString" (.ptr (.agg [.lit (.string [116, 104, 101, 32, 115, 121, 109, 98, 111, 108, 32, 104, 97, 115, 32, 110, 111, 32, 115, 104, 97, 114, 101, 32, 111, 102, 32, 116, 104, 101, 32, 116, 97, 98, 108, 101])]))
def laid_loop_example_g00528_impl_errOver {H : Type} : DataW H := .iface "*errors.errorString" (.ptr (.agg [.lit (.string [116, 104, 101, 32, 115, 116, 114, 101, 97, 109, 32, 105, 115, 32, 111, 118, 101, 114])]))
def laid_loop_example_g00528_impl_errOtherText {H : Type} : DataW H := .iface "*errors.errorString" (.ptr (.agg [.lit (.string [116, 104, 101, 32, 98, 105, 116, 115, 32, 97, 114, 101, 32, 110, 111, 116, 32, 106, 117, 115, 116, 32, 116, 104, 111, 115, 101, 32, 111, 102, 32, 97, 32, 116, 101, 120, 116])]))
def laid_loop_example_g00528_impl_errShare {H : Type} : DataW H := .iface "*errors.errorString" (.ptr (.agg [.lit (.string [116, 104, 101, 32, 115, 104, 97, 114, 101, 115, 32, 97, 114, 101, 32, 110, 111, 116, 32, 119, 104, 97, 116, 32, 116, 104, 101, 32, 116, 97, 98, 108, 101, 32, 104, 97, 115, 32, 114, 111, 111, 109, 32, 102, 111, 114])]))

/-- 'laws.FnExactFsePut': WHATEVER THE INPUT: true; the input reads as it did. -/
def fnExactFsePutSpec : ChangeSpec := { name := "fnExactFsePut", vars := ["loop.example/g00528/impl.errNoShare", "loop.example/g00528/impl.errRange", "loop.example/g00528/impl.errFull"], fn := fun _ => fun
  | [d1, d2, g1, g2, g3] => { results := [.lit (.bool true)], args := [d1, d2], vars := [g1, g2, g3] }
  | _ => none }
def fnExactFsePutRow : OpenClaim := { program := "ythdpboodalbjiaadoor", sum := "bbb80ed7f6e264a431c5a602c5238c7cc7760bc6557e9c9e3e87865c76a84fc3", func := "loop.example/g00528/laws.FnExactFsePut", spec := "fnExactFsePut", unfollowed := true, recurses := true, named := ["loop.example/g00528/impl.errNoShare", "loop.example/g00528/impl.errRange", "loop.example/g00528/impl.errFull"], ifaces := true, apart := false, laid := [("loop.example/g00528/impl.errFull", laid_loop_example_g00528_impl_errFull), ("loop.example/g00528/impl.errRange", laid_loop_example_g00528_impl_errRange), ("loop.example/g00528/impl.errNoShare", laid_loop_example_g00528_impl_errNoShare)] }
def FnExactFsePutSaid : Prop := fnExactFsePutRow.holds Tryd.pinned (OpenSpec.ofChange fnExactFsePutSpec)

/-- ITS FALSE NEIGHBOUR: 'it returns false'. Refute it at one input. -/
def fnExactFsePutWrong : ChangeSpec := { name := "fnExactFsePut", vars := ["loop.example/g00528/impl.errNoShare", "loop.example/g00528/impl.errRange", "loop.example/g00528/impl.errFull"], fn := fun _ => fun
  | [d1, d2, g1, g2, g3] => { results := [.lit (.bool false)], args := [d1, d2], vars := [g1, g2, g3] }
  | _ => none }
def FnExactFsePutWrongFalsely : Prop := fnExactFsePutRow.holds Tryd.pinned (OpenSpec.ofChange fnExactFsePutWrong)

/-- 'laws.FnExactFseGet': WHATEVER THE INPUT: true; the input reads as it did. -/
def fnExactFseGetSpec : ChangeSpec := { name := "fnExactFseGet", vars := ["loop.example/g00528/impl.errOtherText", "loop.example/g00528/impl.errRange", "loop.example/g00528/impl.errOver"], fn := fun _ => fun
  | [d1, d2, d3, g1, g2, g3] => { results := [.lit (.bool true)], args := [d1, d2, d3], vars := [g1, g2, g3] }
  | _ => none }
def fnExactFseGetRow : OpenClaim := { program := "ythdpboodalbjiaadoor", sum := "bbb80ed7f6e264a431c5a602c5238c7cc7760bc6557e9c9e3e87865c76a84fc3", func := "loop.example/g00528/laws.FnExactFseGet", spec := "fnExactFseGet", unfollowed := true, recurses := true, named := ["loop.example/g00528/impl.errOtherText", "loop.example/g00528/impl.errRange", "loop.example/g00528/impl.errOver"], ifaces := true, apart := false, laid := [("loop.example/g00528/impl.errOver", laid_loop_example_g00528_impl_errOver), ("loop.example/g00528/impl.errRange", laid_loop_example_g00528_impl_errRange), ("loop.example/g00528/impl.errOtherText", laid_loop_example_g00528_impl_errOtherText)] }
def FnExactFseGetSaid : Prop := fnExactFseGetRow.holds Tryd.pinned (OpenSpec.ofChange fnExactFseGetSpec)

/-- ITS FALSE NEIGHBOUR: 'it returns false'. Refute it at one input. -/
def fnExactFseGetWrong : ChangeSpec := { name := "fnExactFseGet", vars := ["loop.example/g00528/impl.errOtherText", "loop.example/g00528/impl.errRange", "loop.example/g00528/impl.errOver"], fn := fun _ => fun
  | [d1, d2, d3, g1, g2, g3] => { results := [.lit (.bool false)], args := [d1, d2, d3], vars := [g1, g2, g3] }
  | _ => none }
def FnExactFseGetWrongFalsely : Prop := fnExactFseGetRow.holds Tryd.pinned (OpenSpec.ofChange fnExactFseGetWrong)

/-- 'laws.FnExactNormPut': WHATEVER THE INPUT: true; the input reads as it did. -/
def fnExactNormPutSpec : ChangeSpec := { name := "fnExactNormPut", vars := ["loop.example/g00528/impl.errRange", "loop.example/g00528/impl.errFull"], fn := fun _ => fun
  | [d, g1, g2] => { results := [.lit (.bool true)], args := [d], vars := [g1, g2] }
  | _ => none }
def fnExactNormPutRow : OpenClaim := { program := "ythdpboodalbjiaadoor", sum := "bbb80ed7f6e264a431c5a602c5238c7cc7760bc6557e9c9e3e87865c76a84fc3", func := "loop.example/g00528/laws.FnExactNormPut", spec := "fnExactNormPut", named := ["loop.example/g00528/impl.errRange", "loop.example/g00528/impl.errFull"], ifaces := true, apart := false, laid := [("loop.example/g00528/impl.errFull", laid_loop_example_g00528_impl_errFull), ("loop.example/g00528/impl.errRange", laid_loop_example_g00528_impl_errRange)] }
def FnExactNormPutSaid : Prop := fnExactNormPutRow.holds Tryd.pinned (OpenSpec.ofChange fnExactNormPutSpec)

/-- ITS FALSE NEIGHBOUR: 'it returns false'. Refute it at one input. -/
def fnExactNormPutWrong : ChangeSpec := { name := "fnExactNormPut", vars := ["loop.example/g00528/impl.errRange", "loop.example/g00528/impl.errFull"], fn := fun _ => fun
  | [d, g1, g2] => { results := [.lit (.bool false)], args := [d], vars := [g1, g2] }
  | _ => none }
def FnExactNormPutWrongFalsely : Prop := fnExactNormPutRow.holds Tryd.pinned (OpenSpec.ofChange fnExactNormPutWrong)

/-- 'laws.FnExactNormGet': WHATEVER THE INPUT: true; the input reads as it did. -/
def fnExactNormGetSpec : ChangeSpec := { name := "fnExactNormGet", vars := ["loop.example/g00528/impl.errShare", "loop.example/g00528/impl.errRange", "loop.example/g00528/impl.errOver"], fn := fun _ => fun
  | [d1, d2, d3, g1, g2, g3] => { results := [.lit (.bool true)], args := [d1, d2, d3], vars := [g1, g2, g3] }
  | _ => none }
def fnExactNormGetRow : OpenClaim := { program := "ythdpboodalbjiaadoor", sum := "bbb80ed7f6e264a431c5a602c5238c7cc7760bc6557e9c9e3e87865c76a84fc3", func := "loop.example/g00528/laws.FnExactNormGet", spec := "fnExactNormGet", named := ["loop.example/g00528/impl.errShare", "loop.example/g00528/impl.errRange", "loop.example/g00528/impl.errOver"], ifaces := true, apart := false, laid := [("loop.example/g00528/impl.errOver", laid_loop_example_g00528_impl_errOver), ("loop.example/g00528/impl.errRange", laid_loop_example_g00528_impl_errRange), ("loop.example/g00528/impl.errShare", laid_loop_example_g00528_impl_errShare)] }
def FnExactNormGetSaid : Prop := fnExactNormGetRow.holds Tryd.pinned (OpenSpec.ofChange fnExactNormGetSpec)

/-- ITS FALSE NEIGHBOUR: 'it returns false'. Refute it at one input. -/
def fnExactNormGetWrong : ChangeSpec := { name := "fnExactNormGet", vars := ["loop.example/g00528/impl.errShare", "loop.example/g00528/impl.errRange", "loop.example/g00528/impl.errOver"], fn := fun _ => fun
  | [d1, d2, d3, g1, g2, g3] => { results := [.lit (.bool false)], args := [d1, d2, d3], vars := [g1, g2, g3] }
  | _ => none }
def FnExactNormGetWrongFalsely : Prop := fnExactNormGetRow.holds Tryd.pinned (OpenSpec.ofChange fnExactNormGetWrong)

/- THE SECOND FORM. 'bulk': how many values and letters a reading holds, each counted each time it is reached (what is shared counts as often as it is met; a slice's spare places count too). A statement '..UptoSaid' is the law's where the arguments, and the package variables that the reading takes, are together of bulk at most 1048576: NARROWER than '..Said'. Prove '..Said' where nothing that the law and all that it calls make is longer than what came in: it says more and counts as full. Else prove '..UptoSaid'. A law counts once. -/
mutual
def uptoBulk {H : Type} : DataW H → Nat
  | .lit (.string bytes) => bytes.length + 1
  | .lit _ => 1
  | .nil => 1
  | .ptr d => uptoBulk d + 1
  | .slice elems spare => uptoBulkAll elems + uptoBulkAll spare + 1
  | .agg parts => uptoBulkAll parts + 1
  | .iface _ d => uptoBulk d + 1
  | .map entries => uptoBulkEntries entries + 1
  | .held _ => 1
def uptoBulkAll {H : Type} : List (DataW H) → Nat
  | [] => 0
  | d :: r => uptoBulk d + uptoBulkAll r
def uptoBulkEntries {H : Type} : List (Lit × DataW H) → Nat
  | [] => 0
  | x :: r => uptoBulkEntry x + uptoBulkEntries r
def uptoBulkEntry {H : Type} : Lit × DataW H → Nat
  | (.string bytes, d) => bytes.length + uptoBulk d + 1
  | (_, d) => uptoBulk d + 1
 end
def uptoSmall : (H : Type) → List (DataW H) → Bool := fun _ ds => decide (uptoBulkAll ds ≤ 1048576)
def OpenSpec.upto (s : _root_.Go.ChangeSpec) : _root_.Go.OpenSpec := { _root_.Go.OpenSpec.ofChange s with cond := some uptoSmall }

/-- 'laws.FnExactFsePut', WHERE WHAT IT READS IS OF BULK AT MOST 1048576: true; the input reads as it did. -/
def fnExactFsePutUptoRow : OpenClaim := { program := "ythdpboodalbjiaadoor", sum := "bbb80ed7f6e264a431c5a602c5238c7cc7760bc6557e9c9e3e87865c76a84fc3", func := "loop.example/g00528/laws.FnExactFsePut", spec := "fnExactFsePut", unfollowed := true, recurses := true, named := ["loop.example/g00528/impl.errNoShare", "loop.example/g00528/impl.errRange", "loop.example/g00528/impl.errFull"], ifaces := true, apart := false, laid := [("loop.example/g00528/impl.errFull", laid_loop_example_g00528_impl_errFull), ("loop.example/g00528/impl.errRange", laid_loop_example_g00528_impl_errRange), ("loop.example/g00528/impl.errNoShare", laid_loop_example_g00528_impl_errNoShare)], narrowed := true }
def FnExactFsePutUptoSaid : Prop := fnExactFsePutUptoRow.holds Tryd.pinned (OpenSpec.upto fnExactFsePutSpec)

/-- 'laws.FnExactFseGet', WHERE WHAT IT READS IS OF BULK AT MOST 1048576: true; the input reads as it did. -/
def fnExactFseGetUptoRow : OpenClaim := { program := "ythdpboodalbjiaadoor", sum := "bbb80ed7f6e264a431c5a602c5238c7cc7760bc6557e9c9e3e87865c76a84fc3", func := "loop.example/g00528/laws.FnExactFseGet", spec := "fnExactFseGet", unfollowed := true, recurses := true, named := ["loop.example/g00528/impl.errOtherText", "loop.example/g00528/impl.errRange", "loop.example/g00528/impl.errOver"], ifaces := true, apart := false, laid := [("loop.example/g00528/impl.errOver", laid_loop_example_g00528_impl_errOver), ("loop.example/g00528/impl.errRange", laid_loop_example_g00528_impl_errRange), ("loop.example/g00528/impl.errOtherText", laid_loop_example_g00528_impl_errOtherText)], narrowed := true }
def FnExactFseGetUptoSaid : Prop := fnExactFseGetUptoRow.holds Tryd.pinned (OpenSpec.upto fnExactFseGetSpec)

/-- 'laws.FnExactNormPut', WHERE WHAT IT READS IS OF BULK AT MOST 1048576: true; the input reads as it did. -/
def fnExactNormPutUptoRow : OpenClaim := { program := "ythdpboodalbjiaadoor", sum := "bbb80ed7f6e264a431c5a602c5238c7cc7760bc6557e9c9e3e87865c76a84fc3", func := "loop.example/g00528/laws.FnExactNormPut", spec := "fnExactNormPut", named := ["loop.example/g00528/impl.errRange", "loop.example/g00528/impl.errFull"], ifaces := true, apart := false, laid := [("loop.example/g00528/impl.errFull", laid_loop_example_g00528_impl_errFull), ("loop.example/g00528/impl.errRange", laid_loop_example_g00528_impl_errRange)], narrowed := true }
def FnExactNormPutUptoSaid : Prop := fnExactNormPutUptoRow.holds Tryd.pinned (OpenSpec.upto fnExactNormPutSpec)

/-- 'laws.FnExactNormGet', WHERE WHAT IT READS IS OF BULK AT MOST 1048576: true; the input reads as it did. -/
def fnExactNormGetUptoRow : OpenClaim := { program := "ythdpboodalbjiaadoor", sum := "bbb80ed7f6e264a431c5a602c5238c7cc7760bc6557e9c9e3e87865c76a84fc3", func := "loop.example/g00528/laws.FnExactNormGet", spec := "fnExactNormGet", named := ["loop.example/g00528/impl.errShare", "loop.example/g00528/impl.errRange", "loop.example/g00528/impl.errOver"], ifaces := true, apart := false, laid := [("loop.example/g00528/impl.errOver", laid_loop_example_g00528_impl_errOver), ("loop.example/g00528/impl.errRange", laid_loop_example_g00528_impl_errRange), ("loop.example/g00528/impl.errShare", laid_loop_example_g00528_impl_errShare)], narrowed := true }
def FnExactNormGetUptoSaid : Prop := fnExactNormGetUptoRow.holds Tryd.pinned (OpenSpec.upto fnExactNormGetSpec)

end Rows
end Go.Proofs.YthdpboodalbjiaaDoor
