/-
  NARROWER THAN 'FOR EVERY INPUT', by the rows' own cells (each row's printed sentence says how): FnLens: ifaces, laid · FnBest: ifaces, laid · FnHuffs: ifaces, laid · FnCodes: ifaces, laid · FnLensBits: ifaces, laid.
  DERIVED. THE GIVEN ROWS OF THIS SEAT. 5 by the template 'for every input the law returns true; each argument reads behind the call as it read before'; 0 by the template 'total and deterministic' (their statements: YtkjebacpmmfflaaDoorTotals.lean).
  GIVEN WITH THE SEED: the statements are not yours to turn. If you find one false, say at which input.
  Laid BY PROGRAM, IN A SANDBOX (cutbox-rows.mjs): the forced cells as the released guide's own fill.sh prints them over the translation d4f1fd0448f4a745… (all of the seat's roots in one cut). By AI agents, Wed Nov 11 2026. No macro, syntax, notation, axiom, sorry.
-/
import Derived.Test.YtkjebacpmmfflaaDoorChecked
import GoSem.Claim
import GoSem.ClaimJoined
import GoSem.ClaimMapViews
import Derived.JoinedTies
import Derived.KernelRfl
namespace Go.Proofs.YtkjebacpmmfflaaDoor
/- THE CELL 'sum', in the pinned program and in every row, IS THE sha256 OF THE DUMP (.gsa) THAT YtkjebacpmmfflaaDoorProg.lean LOADS. Nothing in Lean hashes anything: it is a label: what it is worth is what the hold of that sum in a sandbox is worth. -/
noncomputable def Tryd.pinned : Pinned := { name := "ytkjebacpmmfflaadoor", sum := "d4f1fd0448f4a745e202f7328944a343cdee914694da003068a1ff024302f5ae", checked := Tryd.checked }
namespace Rows
def none {H : Type} : Left H := { results := [], args := [] }

/- WHAT THE LISTED PACKAGE-LEVEL VARIABLES READ AS WHEN THE CALL BEGINS. Each datum BY PROGRAM (the guide's laid-datum.mjs) off the statement by which the dump's own 'gosem.cut.vars' lays the variable. In a bare row this is a premise. The card (YtkjebacpmmfflaaDoorCards.lean) ties it to the program's text. -/
def laid_errors_errorType {H : Type} : DataW H := .iface "internal/reflectlite.rtype" (.agg [.ptr (.lit (.string [101, 114, 114, 111, 114]))])
def laid_loop_example_g00528_impl_errSyms {H : Type} : DataW H := .iface "*errors.errorString" (.ptr (.agg [.lit (.string [116, 104, 101, 114, 101, 32, 97, 114, 101, 32, 110, 111, 32, 115, 121, 109, 98, 111, 108, 115, 44, 32, 111, 114, 32, 116, 111, 111, 32, 109, 97, 110, 121])]))
def laid_loop_example_g00528_impl_errLength {H : Type} : DataW H := .iface "*errors.errorString" (.ptr (.agg [.lit (.string [116, 104, 101, 32, 108, 101, 110, 103, 116, 104, 32, 105, 115, 32, 111, 117, 116, 32, 111, 102, 32, 114, 97, 110, 103, 101])]))
def laid_loop_example_g00528_impl_errNoCodes {H : Type} : DataW H := .iface "*errors.errorString" (.ptr (.agg [.lit (.string [110, 111, 32, 115, 121, 109, 98, 111, 108, 32, 104, 97, 115, 32, 97, 32, 99, 111, 100, 101])]))
def laid_loop_example_g00528_impl_errShares {H : Type} : DataW H := .iface "*errors.errorString" (.ptr (.agg [.lit (.string [116, 104, 101, 32, 99, 111, 100, 101, 115, 32, 100, 111, 110, 39, 116, 32, 102, 105, 108, 108, 32, 119, 104, 97, 116, 32, 116, 104, 101, 114, 101, 32, 105, 115])]))
def laid_loop_example_g00528_impl_errOver {H : Type} : DataW H := .iface "*errors.errorString" (.ptr (.agg [.lit (.string [116, 104, 101, 32, 115, 116, 114, 101, 97, 109, 32, 105, 115, 32, 111, 118, 101, 114])]))
def laid_loop_example_g00528_impl_errFull {H : Type} : DataW H := .iface "*errors.errorString" (.ptr (.agg [.lit (.string [116, 104, 101, 32, 115, 116, 114, 101, 97, 109, 32, 104, 97, 115, 32, 110, 111, 32, 109, 111, 114, 101, 32, 114, 111, 111, 109])]))
def laid_loop_example_g00528_impl_errRange {H : Type} : DataW H := .iface "*errors.errorString" (.ptr (.agg [.lit (.string [116, 104, 101, 32, 115, 116, 114, 101, 97, 109, 32, 116, 97, 107, 101, 115, 32, 110, 111, 32, 115, 117, 99, 104, 32, 119, 105, 100, 116, 104, 32, 111, 114, 32, 110, 117, 109, 98, 101, 114])]))
def laid_loop_example_g00528_impl_errNoSymbol {H : Type} : DataW H := .iface "*errors.errorString" (.ptr (.agg [.lit (.string [116, 104, 101, 32, 98, 105, 116, 115, 32, 97, 114, 101, 32, 110, 111, 32, 115, 121, 109, 98, 111, 108, 39, 115, 32, 99, 111, 100, 101])]))
def laid_loop_example_g00528_impl_errNoCode {H : Type} : DataW H := .iface "*errors.errorString" (.ptr (.agg [.lit (.string [116, 104, 101, 32, 115, 121, 109, 98, 111, 108, 32, 104, 97, 115, 32, 110, 111, 32, 99, 111, 100, 101])]))
def laid_loop_example_g00528_impl_errRun {H : Type} : DataW H := .iface "*errors.errorString" (.ptr (.agg [.lit (.string [116, 104, 101, 32, 110, 111, 117, 103, 104, 116, 115, 32, 97, 114, 101, 32, 110, 111, 116, 32, 116, 111, 108, 100, 32, 97, 115, 32, 116, 104, 101, 121, 32, 119, 111, 117, 108, 100, 32, 98, 101, 32, 112, 117, 116])]))

/-- 'laws.FnLens': WHATEVER THE INPUT: true; the input reads as it did. -/
def fnLensSpec : ChangeSpec := { name := "fnLens", vars := ["loop.example/g00528/impl.errSyms", "loop.example/g00528/impl.errLength", "loop.example/g00528/impl.errNoCodes", "loop.example/g00528/impl.errShares"], fn := fun _ => fun
  | [d, g1, g2, g3, g4] => { results := [.lit (.bool true)], args := [d], vars := [g1, g2, g3, g4] }
  | _ => none }
def fnLensRow : OpenClaim := { program := "ytkjebacpmmfflaadoor", sum := "d4f1fd0448f4a745e202f7328944a343cdee914694da003068a1ff024302f5ae", func := "loop.example/g00528/laws.FnLens", spec := "fnLens", inPlace := ["internal/reflectlite.ValueOf", "(internal/reflectlite.Value).Type", "(internal/reflectlite.Value).IsNil", "internal/reflectlite.TypeOf", "(internal/reflectlite.Value).Elem", "(internal/reflectlite.Value).Set"], unfollowed := true, recurses := true, named := ["loop.example/g00528/impl.errSyms", "loop.example/g00528/impl.errLength", "loop.example/g00528/impl.errNoCodes", "loop.example/g00528/impl.errShares", "errors.errorType"], ifaces := true, apart := false, laid := [("errors.errorType", laid_errors_errorType), ("loop.example/g00528/impl.errSyms", laid_loop_example_g00528_impl_errSyms), ("loop.example/g00528/impl.errLength", laid_loop_example_g00528_impl_errLength), ("loop.example/g00528/impl.errNoCodes", laid_loop_example_g00528_impl_errNoCodes), ("loop.example/g00528/impl.errShares", laid_loop_example_g00528_impl_errShares)] }
def FnLensSaid : Prop := fnLensRow.holds Tryd.pinned (OpenSpec.ofChange fnLensSpec)

/-- ITS FALSE NEIGHBOUR: 'it returns false'. Refute it at one input. -/
def fnLensWrong : ChangeSpec := { name := "fnLens", vars := ["loop.example/g00528/impl.errSyms", "loop.example/g00528/impl.errLength", "loop.example/g00528/impl.errNoCodes", "loop.example/g00528/impl.errShares"], fn := fun _ => fun
  | [d, g1, g2, g3, g4] => { results := [.lit (.bool false)], args := [d], vars := [g1, g2, g3, g4] }
  | _ => none }
def FnLensWrongFalsely : Prop := fnLensRow.holds Tryd.pinned (OpenSpec.ofChange fnLensWrong)

/-- 'laws.FnBest': WHATEVER THE INPUT: true; the input reads as it did. -/
def fnBestSpec : ChangeSpec := { name := "fnBest", vars := ["loop.example/g00528/impl.errSyms", "loop.example/g00528/impl.errLength", "loop.example/g00528/impl.errNoCodes", "loop.example/g00528/impl.errShares"], fn := fun _ => fun
  | [d, g1, g2, g3, g4] => { results := [.lit (.bool true)], args := [d], vars := [g1, g2, g3, g4] }
  | _ => none }
def fnBestRow : OpenClaim := { program := "ytkjebacpmmfflaadoor", sum := "d4f1fd0448f4a745e202f7328944a343cdee914694da003068a1ff024302f5ae", func := "loop.example/g00528/laws.FnBest", spec := "fnBest", inPlace := ["internal/reflectlite.ValueOf", "(internal/reflectlite.Value).Type", "(internal/reflectlite.Value).IsNil", "internal/reflectlite.TypeOf", "(internal/reflectlite.Value).Elem", "(internal/reflectlite.Value).Set"], unfollowed := true, recurses := true, named := ["loop.example/g00528/impl.errSyms", "loop.example/g00528/impl.errLength", "loop.example/g00528/impl.errNoCodes", "loop.example/g00528/impl.errShares", "errors.errorType"], ifaces := true, apart := false, laid := [("errors.errorType", laid_errors_errorType), ("loop.example/g00528/impl.errSyms", laid_loop_example_g00528_impl_errSyms), ("loop.example/g00528/impl.errLength", laid_loop_example_g00528_impl_errLength), ("loop.example/g00528/impl.errNoCodes", laid_loop_example_g00528_impl_errNoCodes), ("loop.example/g00528/impl.errShares", laid_loop_example_g00528_impl_errShares)] }
def FnBestSaid : Prop := fnBestRow.holds Tryd.pinned (OpenSpec.ofChange fnBestSpec)

/-- ITS FALSE NEIGHBOUR: 'it returns false'. Refute it at one input. -/
def fnBestWrong : ChangeSpec := { name := "fnBest", vars := ["loop.example/g00528/impl.errSyms", "loop.example/g00528/impl.errLength", "loop.example/g00528/impl.errNoCodes", "loop.example/g00528/impl.errShares"], fn := fun _ => fun
  | [d, g1, g2, g3, g4] => { results := [.lit (.bool false)], args := [d], vars := [g1, g2, g3, g4] }
  | _ => none }
def FnBestWrongFalsely : Prop := fnBestRow.holds Tryd.pinned (OpenSpec.ofChange fnBestWrong)

/-- 'laws.FnHuffs': WHATEVER THE INPUT: true; the input reads as it did. -/
def fnHuffsSpec : ChangeSpec := { name := "fnHuffs", vars := ["loop.example/g00528/impl.errSyms", "loop.example/g00528/impl.errLength", "loop.example/g00528/impl.errNoCodes", "loop.example/g00528/impl.errShares", "loop.example/g00528/impl.errNoCode", "loop.example/g00528/impl.errRange", "loop.example/g00528/impl.errFull", "loop.example/g00528/impl.errNoSymbol", "loop.example/g00528/impl.errOver"], fn := fun _ => fun
  | [d, g1, g2, g3, g4, g5, g6, g7, g8, g9] => { results := [.lit (.bool true)], args := [d], vars := [g1, g2, g3, g4, g5, g6, g7, g8, g9] }
  | _ => none }
def fnHuffsRow : OpenClaim := { program := "ytkjebacpmmfflaadoor", sum := "d4f1fd0448f4a745e202f7328944a343cdee914694da003068a1ff024302f5ae", func := "loop.example/g00528/laws.FnHuffs", spec := "fnHuffs", inPlace := ["internal/reflectlite.ValueOf", "(internal/reflectlite.Value).Type", "(internal/reflectlite.Value).IsNil", "internal/reflectlite.TypeOf", "(internal/reflectlite.Value).Elem", "(internal/reflectlite.Value).Set"], unfollowed := true, recurses := true, named := ["loop.example/g00528/impl.errSyms", "loop.example/g00528/impl.errLength", "loop.example/g00528/impl.errNoCodes", "loop.example/g00528/impl.errShares", "errors.errorType", "loop.example/g00528/impl.errNoCode", "loop.example/g00528/impl.errRange", "loop.example/g00528/impl.errFull", "loop.example/g00528/impl.errNoSymbol", "loop.example/g00528/impl.errOver"], ifaces := true, apart := false, laid := [("errors.errorType", laid_errors_errorType), ("loop.example/g00528/impl.errOver", laid_loop_example_g00528_impl_errOver), ("loop.example/g00528/impl.errFull", laid_loop_example_g00528_impl_errFull), ("loop.example/g00528/impl.errRange", laid_loop_example_g00528_impl_errRange), ("loop.example/g00528/impl.errSyms", laid_loop_example_g00528_impl_errSyms), ("loop.example/g00528/impl.errLength", laid_loop_example_g00528_impl_errLength), ("loop.example/g00528/impl.errNoCodes", laid_loop_example_g00528_impl_errNoCodes), ("loop.example/g00528/impl.errShares", laid_loop_example_g00528_impl_errShares), ("loop.example/g00528/impl.errNoSymbol", laid_loop_example_g00528_impl_errNoSymbol), ("loop.example/g00528/impl.errNoCode", laid_loop_example_g00528_impl_errNoCode)] }
def FnHuffsSaid : Prop := fnHuffsRow.holds Tryd.pinned (OpenSpec.ofChange fnHuffsSpec)

/-- ITS FALSE NEIGHBOUR: 'it returns false'. Refute it at one input. -/
def fnHuffsWrong : ChangeSpec := { name := "fnHuffs", vars := ["loop.example/g00528/impl.errSyms", "loop.example/g00528/impl.errLength", "loop.example/g00528/impl.errNoCodes", "loop.example/g00528/impl.errShares", "loop.example/g00528/impl.errNoCode", "loop.example/g00528/impl.errRange", "loop.example/g00528/impl.errFull", "loop.example/g00528/impl.errNoSymbol", "loop.example/g00528/impl.errOver"], fn := fun _ => fun
  | [d, g1, g2, g3, g4, g5, g6, g7, g8, g9] => { results := [.lit (.bool false)], args := [d], vars := [g1, g2, g3, g4, g5, g6, g7, g8, g9] }
  | _ => none }
def FnHuffsWrongFalsely : Prop := fnHuffsRow.holds Tryd.pinned (OpenSpec.ofChange fnHuffsWrong)

/-- 'laws.FnCodes': WHATEVER THE INPUT: true; the input reads as it did. -/
def fnCodesSpec : ChangeSpec := { name := "fnCodes", vars := ["loop.example/g00528/impl.errSyms", "loop.example/g00528/impl.errLength", "loop.example/g00528/impl.errNoCodes", "loop.example/g00528/impl.errShares"], fn := fun _ => fun
  | [d, g1, g2, g3, g4] => { results := [.lit (.bool true)], args := [d], vars := [g1, g2, g3, g4] }
  | _ => none }
def fnCodesRow : OpenClaim := { program := "ytkjebacpmmfflaadoor", sum := "d4f1fd0448f4a745e202f7328944a343cdee914694da003068a1ff024302f5ae", func := "loop.example/g00528/laws.FnCodes", spec := "fnCodes", inPlace := ["internal/reflectlite.ValueOf", "(internal/reflectlite.Value).Type", "(internal/reflectlite.Value).IsNil", "internal/reflectlite.TypeOf", "(internal/reflectlite.Value).Elem", "(internal/reflectlite.Value).Set"], unfollowed := true, recurses := true, named := ["loop.example/g00528/impl.errSyms", "loop.example/g00528/impl.errLength", "loop.example/g00528/impl.errNoCodes", "loop.example/g00528/impl.errShares", "errors.errorType"], ifaces := true, apart := false, laid := [("errors.errorType", laid_errors_errorType), ("loop.example/g00528/impl.errSyms", laid_loop_example_g00528_impl_errSyms), ("loop.example/g00528/impl.errLength", laid_loop_example_g00528_impl_errLength), ("loop.example/g00528/impl.errNoCodes", laid_loop_example_g00528_impl_errNoCodes), ("loop.example/g00528/impl.errShares", laid_loop_example_g00528_impl_errShares)] }
def FnCodesSaid : Prop := fnCodesRow.holds Tryd.pinned (OpenSpec.ofChange fnCodesSpec)

/-- ITS FALSE NEIGHBOUR: 'it returns false'. Refute it at one input. -/
def fnCodesWrong : ChangeSpec := { name := "fnCodes", vars := ["loop.example/g00528/impl.errSyms", "loop.example/g00528/impl.errLength", "loop.example/g00528/impl.errNoCodes", "loop.example/g00528/impl.errShares"], fn := fun _ => fun
  | [d, g1, g2, g3, g4] => { results := [.lit (.bool false)], args := [d], vars := [g1, g2, g3, g4] }
  | _ => none }
def FnCodesWrongFalsely : Prop := fnCodesRow.holds Tryd.pinned (OpenSpec.ofChange fnCodesWrong)

/-- 'laws.FnLensBits': WHATEVER THE INPUT: true; the input reads as it did. -/
def fnLensBitsSpec : ChangeSpec := { name := "fnLensBits", vars := ["loop.example/g00528/impl.errSyms", "loop.example/g00528/impl.errLength", "loop.example/g00528/impl.errNoCodes", "loop.example/g00528/impl.errShares", "loop.example/g00528/impl.errRange", "loop.example/g00528/impl.errFull", "loop.example/g00528/impl.errRun", "loop.example/g00528/impl.errOver"], fn := fun _ => fun
  | [d, g1, g2, g3, g4, g5, g6, g7, g8] => { results := [.lit (.bool true)], args := [d], vars := [g1, g2, g3, g4, g5, g6, g7, g8] }
  | _ => none }
def fnLensBitsRow : OpenClaim := { program := "ytkjebacpmmfflaadoor", sum := "d4f1fd0448f4a745e202f7328944a343cdee914694da003068a1ff024302f5ae", func := "loop.example/g00528/laws.FnLensBits", spec := "fnLensBits", inPlace := ["internal/reflectlite.ValueOf", "(internal/reflectlite.Value).Type", "(internal/reflectlite.Value).IsNil", "internal/reflectlite.TypeOf", "(internal/reflectlite.Value).Elem", "(internal/reflectlite.Value).Set"], unfollowed := true, recurses := true, named := ["loop.example/g00528/impl.errSyms", "loop.example/g00528/impl.errLength", "loop.example/g00528/impl.errNoCodes", "loop.example/g00528/impl.errShares", "errors.errorType", "loop.example/g00528/impl.errRange", "loop.example/g00528/impl.errFull", "loop.example/g00528/impl.errRun", "loop.example/g00528/impl.errOver"], ifaces := true, apart := false, laid := [("errors.errorType", laid_errors_errorType), ("loop.example/g00528/impl.errOver", laid_loop_example_g00528_impl_errOver), ("loop.example/g00528/impl.errFull", laid_loop_example_g00528_impl_errFull), ("loop.example/g00528/impl.errRange", laid_loop_example_g00528_impl_errRange), ("loop.example/g00528/impl.errSyms", laid_loop_example_g00528_impl_errSyms), ("loop.example/g00528/impl.errLength", laid_loop_example_g00528_impl_errLength), ("loop.example/g00528/impl.errNoCodes", laid_loop_example_g00528_impl_errNoCodes), ("loop.example/g00528/impl.errShares", laid_loop_example_g00528_impl_errShares), ("loop.example/g00528/impl.errRun", laid_loop_example_g00528_impl_errRun)] }
def FnLensBitsSaid : Prop := fnLensBitsRow.holds Tryd.pinned (OpenSpec.ofChange fnLensBitsSpec)

/-- ITS FALSE NEIGHBOUR: 'it returns false'. Refute it at one input. -/
def fnLensBitsWrong : ChangeSpec := { name := "fnLensBits", vars := ["loop.example/g00528/impl.errSyms", "loop.example/g00528/impl.errLength", "loop.example/g00528/impl.errNoCodes", "loop.example/g00528/impl.errShares", "loop.example/g00528/impl.errRange", "loop.example/g00528/impl.errFull", "loop.example/g00528/impl.errRun", "loop.example/g00528/impl.errOver"], fn := fun _ => fun
  | [d, g1, g2, g3, g4, g5, g6, g7, g8] => { results := [.lit (.bool false)], args := [d], vars := [g1, g2, g3, g4, g5, g6, g7, g8] }
  | _ => none }
def FnLensBitsWrongFalsely : Prop := fnLensBitsRow.holds Tryd.pinned (OpenSpec.ofChange fnLensBitsWrong)

/- THE SECOND FORM. 'bulk': how many values and letters a reading holds, each counted each time it is reached (what is shared counts as often as it is met; a slice's spare places count too). A statement '..UptoSaid' is the law's where the arguments, and the package variables that the reading takes, are together of bulk at most 1048576: NARROWER than '..Said'. Prove '..Said' where nothing that the law and all that it calls make is longer than what came in: it says more and counts as full. Else prove '..UptoSaid'. A law counts once. -/
mutual
def uptoBulk {H : Type} : DataW H → Nat
  | .lit (.string bytes) => bytes.length + 1
  | .lit _ => 1
  | .nil => 1
  | .ptr d => uptoBulk d + 1
  | .slice elems spare => uptoBulkAll elems + uptoBulkAll spare + 1
  | .agg parts => uptoBulkAll parts + 1
  | .iface _ d => uptoBulk d + 1
  | .map entries => uptoBulkEntries entries + 1
  | .held _ => 1
def uptoBulkAll {H : Type} : List (DataW H) → Nat
  | [] => 0
  | d :: r => uptoBulk d + uptoBulkAll r
def uptoBulkEntries {H : Type} : List (Lit × DataW H) → Nat
  | [] => 0
  | x :: r => uptoBulkEntry x + uptoBulkEntries r
def uptoBulkEntry {H : Type} : Lit × DataW H → Nat
  | (.string bytes, d) => bytes.length + uptoBulk d + 1
  | (_, d) => uptoBulk d + 1
 end
def uptoSmall : (H : Type) → List (DataW H) → Bool := fun _ ds => decide (uptoBulkAll ds ≤ 1048576)
def OpenSpec.upto (s : _root_.Go.ChangeSpec) : _root_.Go.OpenSpec := { _root_.Go.OpenSpec.ofChange s with cond := some uptoSmall }

/-- 'laws.FnLens', WHERE WHAT IT READS IS OF BULK AT MOST 1048576: true; the input reads as it did. -/
def fnLensUptoRow : OpenClaim := { program := "ytkjebacpmmfflaadoor", sum := "d4f1fd0448f4a745e202f7328944a343cdee914694da003068a1ff024302f5ae", func := "loop.example/g00528/laws.FnLens", spec := "fnLens", inPlace := ["internal/reflectlite.ValueOf", "(internal/reflectlite.Value).Type", "(internal/reflectlite.Value).IsNil", "internal/reflectlite.TypeOf", "(internal/reflectlite.Value).Elem", "(internal/reflectlite.Value).Set"], unfollowed := true, recurses := true, named := ["loop.example/g00528/impl.errSyms", "loop.example/g00528/impl.errLength", "loop.example/g00528/impl.errNoCodes", "loop.example/g00528/impl.errShares", "errors.errorType"], ifaces := true, apart := false, laid := [("errors.errorType", laid_errors_errorType), ("loop.example/g00528/impl.errSyms", laid_loop_example_g00528_impl_errSyms), ("loop.example/g00528/impl.errLength", laid_loop_example_g00528_impl_errLength), ("loop.example/g00528/impl.errNoCodes", laid_loop_example_g00528_impl_errNoCodes), ("loop.example/g00528/impl.errShares", laid_loop_example_g00528_impl_errShares)], narrowed := true }
def FnLensUptoSaid : Prop := fnLensUptoRow.holds Tryd.pinned (OpenSpec.upto fnLensSpec)

/-- 'laws.FnBest', WHERE WHAT IT READS IS OF BULK AT MOST 1048576: true; the input reads as it did. -/
def fnBestUptoRow : OpenClaim := { program := "ytkjebacpmmfflaadoor", sum := "d4f1fd0448f4a745e202f7328944a343cdee914694da003068a1ff024302f5ae", func := "loop.example/g00528/laws.FnBest", spec := "fnBest", inPlace := ["internal/reflectlite.ValueOf", "(internal/reflectlite.Value).Type", "(internal/reflectlite.Value).IsNil", "internal/reflectlite.TypeOf", "(internal/reflectlite.Value).Elem", "(internal/reflectlite.Value).Set"], unfollowed := true, recurses := true, named := ["loop.example/g00528/impl.errSyms", "loop.example/g00528/impl.errLength", "loop.example/g00528/impl.errNoCodes", "loop.example/g00528/impl.errShares", "errors.errorType"], ifaces := true, apart := false, laid := [("errors.errorType", laid_errors_errorType), ("loop.example/g00528/impl.errSyms", laid_loop_example_g00528_impl_errSyms), ("loop.example/g00528/impl.errLength", laid_loop_example_g00528_impl_errLength), ("loop.example/g00528/impl.errNoCodes", laid_loop_example_g00528_impl_errNoCodes), ("loop.example/g00528/impl.errShares", laid_loop_example_g00528_impl_errShares)], narrowed := true }
def FnBestUptoSaid : Prop := fnBestUptoRow.holds Tryd.pinned (OpenSpec.upto fnBestSpec)

/-- 'laws.FnHuffs', WHERE WHAT IT READS IS OF BULK AT MOST 1048576: true; the input reads as it did. -/
def fnHuffsUptoRow : OpenClaim := { program := "ytkjebacpmmfflaadoor", sum := "d4f1fd0448f4a745e202f7328944a343cdee914694da003068a1ff024302f5ae", func := "loop.example/g00528/laws.FnHuffs", spec := "fnHuffs", inPlace := ["internal/reflectlite.ValueOf", "(internal/reflectlite.Value).Type", "(internal/reflectlite.Value).IsNil", "internal/reflectlite.TypeOf", "(internal/reflectlite.Value).Elem", "(internal/reflectlite.Value).Set"], unfollowed := true, recurses := true, named := ["loop.example/g00528/impl.errSyms", "loop.example/g00528/impl.errLength", "loop.example/g00528/impl.errNoCodes", "loop.example/g00528/impl.errShares", "errors.errorType", "loop.example/g00528/impl.errNoCode", "loop.example/g00528/impl.errRange", "loop.example/g00528/impl.errFull", "loop.example/g00528/impl.errNoSymbol", "loop.example/g00528/impl.errOver"], ifaces := true, apart := false, laid := [("errors.errorType", laid_errors_errorType), ("loop.example/g00528/impl.errOver", laid_loop_example_g00528_impl_errOver), ("loop.example/g00528/impl.errFull", laid_loop_example_g00528_impl_errFull), ("loop.example/g00528/impl.errRange", laid_loop_example_g00528_impl_errRange), ("loop.example/g00528/impl.errSyms", laid_loop_example_g00528_impl_errSyms), ("loop.example/g00528/impl.errLength", laid_loop_example_g00528_impl_errLength), ("loop.example/g00528/impl.errNoCodes", laid_loop_example_g00528_impl_errNoCodes), ("loop.example/g00528/impl.errShares", laid_loop_example_g00528_impl_errShares), ("loop.example/g00528/impl.errNoSymbol", laid_loop_example_g00528_impl_errNoSymbol), ("loop.example/g00528/impl.errNoCode", laid_loop_example_g00528_impl_errNoCode)], narrowed := true }
def FnHuffsUptoSaid : Prop := fnHuffsUptoRow.holds Tryd.pinned (OpenSpec.upto fnHuffsSpec)

/-- 'laws.FnCodes', WHERE WHAT IT READS IS OF BULK AT MOST 1048576: true; the input reads as it did. -/
def fnCodesUptoRow : OpenClaim := { program := "ytkjebacpmmfflaadoor", sum := "d4f1fd0448f4a745e202f7328944a343cdee914694da003068a1ff024302f5ae", func := "loop.example/g00528/laws.FnCodes", spec := "fnCodes", inPlace := ["internal/reflectlite.ValueOf", "(internal/reflectlite.Value).Type", "(internal/reflectlite.Value).IsNil", "internal/reflectlite.TypeOf", "(internal/reflectlite.Value).Elem", "(internal/reflectlite.Value).Set"], unfollowed := true, recurses := true, named := ["loop.example/g00528/impl.errSyms", "loop.example/g00528/impl.errLength", "loop.example/g00528/impl.errNoCodes", "loop.example/g00528/impl.errShares", "errors.errorType"], ifaces := true, apart := false, laid := [("errors.errorType", laid_errors_errorType), ("loop.example/g00528/impl.errSyms", laid_loop_example_g00528_impl_errSyms), ("loop.example/g00528/impl.errLength", laid_loop_example_g00528_impl_errLength), ("loop.example/g00528/impl.errNoCodes", laid_loop_example_g00528_impl_errNoCodes), ("loop.example/g00528/impl.errShares", laid_loop_example_g00528_impl_errShares)], narrowed := true }
def FnCodesUptoSaid : Prop := fnCodesUptoRow.holds Tryd.pinned (OpenSpec.upto fnCodesSpec)

/-- 'laws.FnLensBits', WHERE WHAT IT READS IS OF BULK AT MOST 1048576: true; the input reads as it did. -/
def fnLensBitsUptoRow : OpenClaim := { program := "ytkjebacpmmfflaadoor", sum := "d4f1fd0448f4a745e202f7328944a343cdee914694da003068a1ff024302f5ae", func := "loop.example/g00528/laws.FnLensBits", spec := "fnLensBits", inPlace := ["internal/reflectlite.ValueOf", "(internal/reflectlite.Value).Type", "(internal/reflectlite.Value).IsNil", "internal/reflectlite.TypeOf", "(internal/reflectlite.Value).Elem", "(internal/reflectlite.Value).Set"], unfollowed := true, recurses := true, named := ["loop.example/g00528/impl.errSyms", "loop.example/g00528/impl.errLength", "loop.example/g00528/impl.errNoCodes", "loop.example/g00528/impl.errShares", "errors.errorType", "loop.example/g00528/impl.errRange", "loop.example/g00528/impl.errFull", "loop.example/g00528/impl.errRun", "loop.example/g00528/impl.errOver"], ifaces := true, apart := false, laid := [("errors.errorType", laid_errors_errorType), ("loop.example/g00528/impl.errOver", laid_loop_example_g00528_impl_errOver), ("loop.example/g00528/impl.errFull", laid_loop_example_g00528_impl_errFull), ("loop.example/g00528/impl.errRange", laid_loop_example_g00528_impl_errRange), ("loop.example/g00528/impl.errSyms", laid_loop_example_g00528_impl_errSyms), ("loop.example/g00528/impl.errLength", laid_loop_example_g00528_impl_errLength), ("loop.example/g00528/impl.errNoCodes", laid_loop_example_g00528_impl_errNoCodes), ("loop.example/g00528/impl.errShares", laid_loop_example_g00528_impl_errShares), ("loop.example/g00528/impl.errRun", laid_loop_example_g00528_impl_errRun)], narrowed := true }
def FnLensBitsUptoSaid : Prop := fnLensBitsUptoRow.holds Tryd.pinned (OpenSpec.upto fnLensBitsSpec)

end Rows
end Go.Proofs.YtkjebacpmmfflaaDoor
