/-
  NARROWER THAN 'FOR EVERY INPUT', by the rows' own cells (each row's printed sentence says how): FnExactEncode: ifaces, laid.
  DERIVED. THE GIVEN ROWS OF THIS SEAT. 1 by the template 'for every input the law returns true; each argument reads behind the call as it read before'; 0 by the template 'total and deterministic' (their statements: YtajhdgnchpbanaaGreatDoorTotals.lean).
  GIVEN WITH THE SEED: the statements are not yours to turn. If you find one false, say at which input.
  Laid BY PROGRAM, IN A SANDBOX (cutbox-rows.mjs): the forced cells as the released guide's own fill.sh prints them over the translation bfcdda2177f415c3… (all of the seat's roots in one cut). By AI agents, Wed Nov 11 2026. No macro, syntax, notation, axiom, sorry.
-/
import Derived.Test.YtajhdgnchpbanaaGreatDoorChecked
import GoSem.Claim
import GoSem.ClaimJoined
import GoSem.ClaimMapViews
import Derived.JoinedTies
import Derived.KernelRfl
namespace Go.Proofs.YtajhdgnchpbanaaGreatDoor
/- THE CELL 'sum', in the pinned program and in every row, IS THE sha256 OF THE DUMP (.gsa) THAT YtajhdgnchpbanaaGreatDoorProg.lean LOADS. Nothing in Lean hashes anything: it is a label: what it is worth is what the hold of that sum in a sandbox is worth. -/
noncomputable def Tryz.pinned : Pinned := { name := "ytajhdgnchpbanaagreatdoor", sum := "bfcdda2177f415c3a6bda7a4d8b5df5ef1c92f572fe22b01e785728a0e843521", checked := Tryz.checked }
namespace Rows
def none {H : Type} : Left H := { results := [], args := [] }

/- WHAT THE LISTED PACKAGE-LEVEL VARIABLES READ AS WHEN THE CALL BEGINS. Each datum BY PROGRAM (the guide's laid-datum.mjs) off the statement by which the dump's own 'gosem.cut.vars' lays the variable. In a bare row this is a premise. The card (YtajhdgnchpbanaaGreatDoorCards.lean) ties it to the program's text. -/
def laid_loop_example_g00528_impl_errOver {H : Type} : DataW H := .iface "*errors.errorString" (.ptr (.agg [.lit (.string [116, 104, 101, 32, 115, 116, 114, 101, 97, 109, 32, 105, 115, 32, 111, 118, 101, 114])]))
def laid_loop_example_g00528_impl_errFull {H : Type} : DataW H := .iface "*errors.errorString" (.ptr (.agg [.lit (.string [116, 104, 101, 32, 115, 116, 114, 101, 97, 109, 32, 104, 97, 115, 32, 110, 111, 32, 109, 111, 114, 101, 32, 114, 111, 111, 109])]))
def laid_loop_example_g00528_impl_errRange {H : Type} : DataW H := .iface "*errors.errorString" (.ptr (.agg [.lit (.string [116, 104, 101, 32, 115, 116, 114, 101, 97, 109, 32, 116, 97, 107, 101, 115, 32, 110, 111, 32, 115, 117, 99, 104, 32, 119, 105, 100, 116, 104, 32, 111, 114, 32, 110, 117, 109, 98, 101, 114])]))
def laid_loop_example_g00528_impl_errNoCodes {H : Type} : DataW H := .iface "*errors.errorString" (.ptr (.agg [.lit (.string [110, 111, 32, 115, 121, 109, 98, 111, 108, 32, 104, 97, 115, 32, 97, 32, 99, 111, 100, 101])]))
def laid_loop_example_g00528_impl_errNoCode {H : Type} : DataW H := .iface "*errors.errorString" (.ptr (.agg [.lit (.string [116, 104, 101, 32, 115, 121, 109, 98, 111, 108, 32, 104, 97, 115, 32, 110, 111, 32, 99, 111, 100, 101])]))
def laid_loop_example_g00528_impl_errShare {H : Type} : DataW H := .iface "*errors.errorString" (.ptr (.agg [.lit (.string [116, 104, 101, 32, 115, 104, 97, 114, 101, 115, 32, 97, 114, 101, 32, 110, 111, 116, 32, 119, 104, 97, 116, 32, 116, 104, 101, 32, 116, 97, 98, 108, 101, 32, 104, 97, 115, 32, 114, 111, 111, 109, 32, 102, 111, 114])]))
def laid_loop_example_g00528_impl_errNoShare {H : Type} : DataW H := .iface "*errors.errorString" (.ptr (.agg [.lit (.string [116, 104, 101, 32, 115, 121, 109, 98, 111, 108, 32, 104, 97, 115, 32, 110, 111, 32, 115, 104, 97, 114, 101, 32, 111, 102, 32, 116, 104, 101, 32, 116, 97, 98, 108, 101])]))

/-- 'laws.FnExactEncode': WHATEVER THE INPUT: true; the input reads as it did. -/
def fnExactEncodeSpec : ChangeSpec := { name := "fnExactEncode", vars := ["loop.example/g00528/impl.errRange", "loop.example/g00528/impl.errFull", "loop.example/g00528/impl.errNoCodes", "loop.example/g00528/impl.errNoCode", "loop.example/g00528/impl.errOver", "loop.example/g00528/impl.errShare", "loop.example/g00528/impl.errNoShare"], fn := fun _ => fun
  | [d, g1, g2, g3, g4, g5, g6, g7] => { results := [.lit (.bool true)], args := [d], vars := [g1, g2, g3, g4, g5, g6, g7] }
  | _ => none }
def fnExactEncodeRow : OpenClaim := { program := "ytajhdgnchpbanaagreatdoor", sum := "bfcdda2177f415c3a6bda7a4d8b5df5ef1c92f572fe22b01e785728a0e843521", func := "loop.example/g00528/laws.FnExactEncode", spec := "fnExactEncode", inPlace := ["internal/reflectlite.TypeOf"], unfollowed := true, recurses := true, named := ["loop.example/g00528/impl.errRange", "loop.example/g00528/impl.errFull", "loop.example/g00528/impl.errNoCodes", "loop.example/g00528/impl.errNoCode", "loop.example/g00528/impl.errOver", "loop.example/g00528/impl.errShare", "loop.example/g00528/impl.errNoShare"], ifaces := true, plainKeys := false, apart := false, laid := [("loop.example/g00528/impl.errOver", laid_loop_example_g00528_impl_errOver), ("loop.example/g00528/impl.errFull", laid_loop_example_g00528_impl_errFull), ("loop.example/g00528/impl.errRange", laid_loop_example_g00528_impl_errRange), ("loop.example/g00528/impl.errNoCodes", laid_loop_example_g00528_impl_errNoCodes), ("loop.example/g00528/impl.errNoCode", laid_loop_example_g00528_impl_errNoCode), ("loop.example/g00528/impl.errShare", laid_loop_example_g00528_impl_errShare), ("loop.example/g00528/impl.errNoShare", laid_loop_example_g00528_impl_errNoShare)] }
def FnExactEncodeSaid : Prop := fnExactEncodeRow.holds Tryz.pinned (OpenSpec.ofChange fnExactEncodeSpec)

/-- ITS FALSE NEIGHBOUR: 'it returns false'. Refute it at one input. -/
def fnExactEncodeWrong : ChangeSpec := { name := "fnExactEncode", vars := ["loop.example/g00528/impl.errRange", "loop.example/g00528/impl.errFull", "loop.example/g00528/impl.errNoCodes", "loop.example/g00528/impl.errNoCode", "loop.example/g00528/impl.errOver", "loop.example/g00528/impl.errShare", "loop.example/g00528/impl.errNoShare"], fn := fun _ => fun
  | [d, g1, g2, g3, g4, g5, g6, g7] => { results := [.lit (.bool false)], args := [d], vars := [g1, g2, g3, g4, g5, g6, g7] }
  | _ => none }
def FnExactEncodeWrongFalsely : Prop := fnExactEncodeRow.holds Tryz.pinned (OpenSpec.ofChange fnExactEncodeWrong)

/- THE SECOND FORM. 'bulk': how many values and letters a reading holds, each counted each time it is reached (what is shared counts as often as it is met; a slice's spare places count too). A statement '..UptoSaid' is the law's where the arguments, and the package variables that the reading takes, are together of bulk at most 1048576: NARROWER than '..Said'. Prove '..Said' where nothing that the law and all that it calls make is longer than what came in: it says more and counts as full. Else prove '..UptoSaid'. A law counts once. -/
mutual
def uptoBulk {H : Type} : DataW H → Nat
  | .lit (.string bytes) => bytes.length + 1
  | .lit _ => 1
  | .nil => 1
  | .ptr d => uptoBulk d + 1
  | .slice elems spare => uptoBulkAll elems + uptoBulkAll spare + 1
  | .agg parts => uptoBulkAll parts + 1
  | .iface _ d => uptoBulk d + 1
  | .map entries => uptoBulkEntries entries + 1
  | .held _ => 1
def uptoBulkAll {H : Type} : List (DataW H) → Nat
  | [] => 0
  | d :: r => uptoBulk d + uptoBulkAll r
def uptoBulkEntries {H : Type} : List (Lit × DataW H) → Nat
  | [] => 0
  | x :: r => uptoBulkEntry x + uptoBulkEntries r
def uptoBulkEntry {H : Type} : Lit × DataW H → Nat
  | (.string bytes, d) => bytes.length + uptoBulk d + 1
  | (_, d) => uptoBulk d + 1
 end
def uptoSmall : (H : Type) → List (DataW H) → Bool := fun _ ds => decide (uptoBulkAll ds ≤ 1048576)
def OpenSpec.upto (s : _root_.Go.ChangeSpec) : _root_.Go.OpenSpec := { _root_.Go.OpenSpec.ofChange s with cond := some uptoSmall }

/-- 'laws.FnExactEncode', WHERE WHAT IT READS IS OF BULK AT MOST 1048576: true; the input reads as it did. -/
def fnExactEncodeUptoRow : OpenClaim := { program := "ytajhdgnchpbanaagreatdoor", sum := "bfcdda2177f415c3a6bda7a4d8b5df5ef1c92f572fe22b01e785728a0e843521", func := "loop.example/g00528/laws.FnExactEncode", spec := "fnExactEncode", inPlace := ["internal/reflectlite.TypeOf"], unfollowed := true, recurses := true, named := ["loop.example/g00528/impl.errRange", "loop.example/g00528/impl.errFull", "loop.example/g00528/impl.errNoCodes", "loop.example/g00528/impl.errNoCode", "loop.example/g00528/impl.errOver", "loop.example/g00528/impl.errShare", "loop.example/g00528/impl.errNoShare"], ifaces := true, plainKeys := false, apart := false, laid := [("loop.example/g00528/impl.errOver", laid_loop_example_g00528_impl_errOver), ("loop.example/g00528/impl.errFull", laid_loop_example_g00528_impl_errFull), ("loop.example/g00528/impl.errRange", laid_loop_example_g00528_impl_errRange), ("loop.example/g00528/impl.errNoCodes", laid_loop_example_g00528_impl_errNoCodes), ("loop.example/g00528/impl.errNoCode", laid_loop_example_g00528_impl_errNoCode), ("loop.example/g00528/impl.errShare", laid_loop_example_g00528_impl_errShare), ("loop.example/g00528/impl.errNoShare", laid_loop_example_g00528_impl_errNoShare)], narrowed := true }
def FnExactEncodeUptoSaid : Prop := fnExactEncodeUptoRow.holds Tryz.pinned (OpenSpec.upto fnExactEncodeSpec)

end Rows
end Go.Proofs.YtajhdgnchpbanaaGreatDoor
