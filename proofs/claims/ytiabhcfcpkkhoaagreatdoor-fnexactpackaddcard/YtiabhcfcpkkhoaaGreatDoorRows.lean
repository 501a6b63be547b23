/-
  NARROWER THAN 'FOR EVERY INPUT', by the rows' own cells (each row's printed sentence says how): FnExactPackAdd: ifaces, laid.
  DERIVED. THE GIVEN ROWS OF THIS SEAT. 1 by the template 'for every input the law returns true; each argument reads behind the call as it read before'; 0 by the template 'total and deterministic' (their statements: YtiabhcfcpkkhoaaGreatDoorTotals.lean).
  GIVEN WITH THE SEED: the statements are not yours to turn. If you find one false, say at which input.
  Laid BY PROGRAM, IN A SANDBOX (cutbox-rows.mjs): the forced cells as the released guide's own fill.sh prints them over the translation 9657fd36e82b5a58… (all of the seat's roots in one cut). By AI agents, Wed Nov 11 2026. No macro, syntax, notation, axiom, sorry.
-/
import Derived.Test.YtiabhcfcpkkhoaaGreatDoorChecked
import GoSem.Claim
import GoSem.ClaimJoined
import GoSem.ClaimMapViews
import Derived.JoinedTies
import Derived.KernelRfl
namespace Go.Proofs.YtiabhcfcpkkhoaaGreatDoor
/- THE CELL 'sum', in the pinned program and in every row, IS THE sha256 OF THE DUMP (.gsa) THAT YtiabhcfcpkkhoaaGreatDoorProg.lean LOADS. Nothing in Lean hashes anything: it is a label: what it is worth is what the hold of that sum in a sandbox is worth. -/
noncomputable def Tryz.pinned : Pinned := { name := "ytiabhcfcpkkhoaagreatdoor", sum := "9657fd36e82b5a58a253914cea9462e324de0989a35d260d0d795416e0ea4a45", checked := Tryz.checked }
namespace Rows
def none {H : Type} : Left H := { results := [], args := [] }

/- WHAT THE LISTED PACKAGE-LEVEL VARIABLES READ AS WHEN THE CALL BEGINS. Each datum BY PROGRAM (the guide's laid-datum.mjs) off the statement by which the dump's own 'gosem.cut.vars' lays the variable. In a bare row this is a premise. The card (YtiabhcfcpkkhoaaGreatDoorCards.lean) ties it to the program's text. -/
def laid_loop_example_g00528_impl_errOver {H : Type} : DataW H := .iface "*errors.errorString" (.ptr (.agg [.lit (.string [116, 104, 101, 32, 115, 116, 114, 101, 97, 109, 32, 105, 115, 32, 111, 118, 101, 114])]))
def laid_loop_example_g00528_impl_errFull {H : Type} : DataW H := .iface "*errors.errorString" (.ptr (.agg [.lit (.string [116, 104, 101, 32, 115, 116, 114, 101, 97, 109, 32, 104, 97, 115, 32, 110, 111, 32, 109, 111, 114, 101, 32, 114, 111, 111, 109])]))
def laid_loop_example_g00528_impl_errRange {H : Type} : DataW H := .iface "*errors.errorString" (.ptr (.agg [.lit (.string [116, 104, 101, 32, 115, 116, 114, 101, 97, 109, 32, 116, 97, 107, 101, 115, 32, 110, 111, 32, 115, 117, 99, 104, 32, 119, 105, 100, 116, 104, 32, 111, 114, 32, 110, 117, 109, 98, 101, 114])]))
def laid_loop_example_g00528_impl_errSyms {H : Type} : DataW H := .iface "*errors.errorString" (.ptr (.agg [.lit (.string [116, 104, 101, 114, 101, 32, 97, 114, 101, 32, 110, 111, 32, 115, 121, 109, 98, 111, 108, 115, 44, 32, 111, 114, 32, 116, 111, 111, 32, 109, 97, 110, 121])]))
def laid_loop_example_g00528_impl_errLength {H : Type} : DataW H := .iface "*errors.errorString" (.ptr (.agg [.lit (.string [116, 104, 101, 32, 108, 101, 110, 103, 116, 104, 32, 105, 115, 32, 111, 117, 116, 32, 111, 102, 32, 114, 97, 110, 103, 101])]))
def laid_loop_example_g00528_impl_errNoCodes {H : Type} : DataW H := .iface "*errors.errorString" (.ptr (.agg [.lit (.string [110, 111, 32, 115, 121, 109, 98, 111, 108, 32, 104, 97, 115, 32, 97, 32, 99, 111, 100, 101])]))
def laid_loop_example_g00528_impl_errShares {H : Type} : DataW H := .iface "*errors.errorString" (.ptr (.agg [.lit (.string [116, 104, 101, 32, 99, 111, 100, 101, 115, 32, 100, 111, 110, 39, 116, 32, 102, 105, 108, 108, 32, 119, 104, 97, 116, 32, 116, 104, 101, 114, 101, 32, 105, 115])]))
def laid_loop_example_g00528_impl_errRun {H : Type} : DataW H := .iface "*errors.errorString" (.ptr (.agg [.lit (.string [116, 104, 101, 32, 110, 111, 117, 103, 104, 116, 115, 32, 97, 114, 101, 32, 110, 111, 116, 32, 116, 111, 108, 100, 32, 97, 115, 32, 116, 104, 101, 121, 32, 119, 111, 117, 108, 100, 32, 98, 101, 32, 112, 117, 116])]))
def laid_loop_example_g00528_impl_errNoSymbol {H : Type} : DataW H := .iface "*errors.errorString" (.ptr (.agg [.lit (.string [116, 104, 101, 32, 98, 105, 116, 115, 32, 97, 114, 101, 32, 110, 111, 32, 115, 121, 109, 98, 111, 108, 39, 115, 32, 99, 111, 100, 101])]))
def laid_loop_example_g00528_impl_errShare {H : Type} : DataW H := .iface "*errors.errorString" (.ptr (.agg [.lit (.string [116, 104, 101, 32, 115, 104, 97, 114, 101, 115, 32, 97, 114, 101, 32, 110, 111, 116, 32, 119, 104, 97, 116, 32, 116, 104, 101, 32, 116, 97, 98, 108, 101, 32, 104, 97, 115, 32, 114, 111, 111, 109, 32, 102, 111, 114])]))
def laid_loop_example_g00528_impl_errOtherText {H : Type} : DataW H := .iface "*errors.errorString" (.ptr (.agg [.lit (.string [116, 104, 101, 32, 98, 105, 116, 115, 32, 97, 114, 101, 32, 110, 111, 116, 32, 106, 117, 115, 116, 32, 116, 104, 111, 115, 101, 32, 111, 102, 32, 97, 32, 116, 101, 120, 116])]))
def laid_loop_example_g00528_impl_errBlobSize {H : Type} : DataW H := .iface "*errors.errorString" (.ptr (.agg [.lit (.string [116, 104, 101, 114, 101, 32, 97, 114, 101, 32, 116, 111, 111, 32, 102, 101, 119, 32, 98, 121, 116, 101, 115, 44, 32, 111, 114, 32, 116, 111, 111, 32, 109, 97, 110, 121])]))
def laid_loop_example_g00528_impl_errBlockSize {H : Type} : DataW H := .iface "*errors.errorString" (.ptr (.agg [.lit (.string [119, 104, 97, 116, 32, 99, 111, 109, 101, 115, 32, 111, 102, 32, 105, 116, 32, 105, 115, 32, 110, 111, 116, 32, 97, 115, 32, 108, 111, 110, 103, 32, 97, 115, 32, 97, 32, 98, 108, 111, 99, 107])]))
def laid_loop_example_g00528_impl_errMode {H : Type} : DataW H := .iface "*errors.errorString" (.ptr (.agg [.lit (.string [116, 104, 101, 114, 101, 32, 105, 115, 32, 110, 111, 32, 115, 117, 99, 104, 32, 109, 111, 100, 101])]))
def laid_loop_example_g00528_impl_errUnsealed {H : Type} : DataW H := .iface "*errors.errorString" (.ptr (.agg [.lit (.string [116, 104, 101, 32, 98, 105, 116, 115, 32, 104, 97, 118, 101, 32, 110, 111, 32, 101, 110, 100])]))
def laid_loop_example_g00528_impl_errPiece {H : Type} : DataW H := .iface "*errors.errorString" (.ptr (.agg [.lit (.string [97, 32, 108, 101, 110, 103, 116, 104, 32, 97, 110, 100, 32, 97, 32, 100, 105, 115, 116, 97, 110, 99, 101, 32, 97, 114, 101, 32, 110, 111, 116, 32, 111, 110, 101, 32, 98, 101, 104, 105, 110, 100, 32, 116, 104, 101, 32, 111, 116, 104, 101, 114])]))
def laid_loop_example_g00528_impl_errLeft {H : Type} : DataW H := .iface "*errors.errorString" (.ptr (.agg [.lit (.string [98, 105, 116, 115, 32, 98, 101, 115, 105, 100, 101, 32, 97, 114, 101, 32, 108, 101, 102, 116])]))
def laid_loop_example_g00528_impl_errSeqs {H : Type} : DataW H := .iface "*errors.errorString" (.ptr (.agg [.lit (.string [116, 104, 101, 32, 115, 101, 113, 117, 101, 110, 99, 101, 115, 32, 97, 114, 101, 32, 110, 111, 116, 32, 114, 105, 103, 104, 116])]))

/-- 'laws.FnExactPackAdd': WHATEVER THE INPUT: true; the input reads as it did. -/
def fnExactPackAddSpec : ChangeSpec := { name := "fnExactPackAdd", vars := ["loop.example/g00528/impl.errBlobSize", "loop.example/g00528/impl.errMode", "loop.example/g00528/impl.errBlockSize", "loop.example/g00528/impl.errUnsealed", "loop.example/g00528/impl.errSeqs", "loop.example/g00528/impl.errRange", "loop.example/g00528/impl.errOver", "loop.example/g00528/impl.errRun", "loop.example/g00528/impl.errSyms", "loop.example/g00528/impl.errLength", "loop.example/g00528/impl.errNoCodes", "loop.example/g00528/impl.errShares", "loop.example/g00528/impl.errNoSymbol", "loop.example/g00528/impl.errFull", "loop.example/g00528/impl.errShare", "loop.example/g00528/impl.errOtherText", "loop.example/g00528/impl.errLeft", "loop.example/g00528/impl.errPiece"], fn := fun _ => fun
  | [d1, d2, g1, g2, g3, g4, g5, g6, g7, g8, g9, g10, g11, g12, g13, g14, g15, g16, g17, g18] => { results := [.lit (.bool true)], args := [d1, d2], vars := [g1, g2, g3, g4, g5, g6, g7, g8, g9, g10, g11, g12, g13, g14, g15, g16, g17, g18] }
  | _ => none }
def fnExactPackAddRow : OpenClaim := { program := "ytiabhcfcpkkhoaagreatdoor", sum := "9657fd36e82b5a58a253914cea9462e324de0989a35d260d0d795416e0ea4a45", func := "loop.example/g00528/laws.FnExactPackAdd", spec := "fnExactPackAdd", inPlace := ["internal/bytealg.MakeNoZero", "internal/reflectlite.TypeOf"], unfollowed := true, recurses := true, named := ["loop.example/g00528/impl.errBlobSize", "loop.example/g00528/impl.errMode", "loop.example/g00528/impl.errBlockSize", "loop.example/g00528/impl.errUnsealed", "loop.example/g00528/impl.errSeqs", "loop.example/g00528/impl.errRange", "loop.example/g00528/impl.errOver", "loop.example/g00528/impl.errRun", "loop.example/g00528/impl.errSyms", "loop.example/g00528/impl.errLength", "loop.example/g00528/impl.errNoCodes", "loop.example/g00528/impl.errShares", "loop.example/g00528/impl.errNoSymbol", "loop.example/g00528/impl.errFull", "loop.example/g00528/impl.errShare", "loop.example/g00528/impl.errOtherText", "loop.example/g00528/impl.errLeft", "loop.example/g00528/impl.errPiece"], ifaces := true, apart := false, laid := [("loop.example/g00528/impl.errOver", laid_loop_example_g00528_impl_errOver), ("loop.example/g00528/impl.errFull", laid_loop_example_g00528_impl_errFull), ("loop.example/g00528/impl.errRange", laid_loop_example_g00528_impl_errRange), ("loop.example/g00528/impl.errSyms", laid_loop_example_g00528_impl_errSyms), ("loop.example/g00528/impl.errLength", laid_loop_example_g00528_impl_errLength), ("loop.example/g00528/impl.errNoCodes", laid_loop_example_g00528_impl_errNoCodes), ("loop.example/g00528/impl.errShares", laid_loop_example_g00528_impl_errShares), ("loop.example/g00528/impl.errRun", laid_loop_example_g00528_impl_errRun), ("loop.example/g00528/impl.errNoSymbol", laid_loop_example_g00528_impl_errNoSymbol), ("loop.example/g00528/impl.errShare", laid_loop_example_g00528_impl_errShare), ("loop.example/g00528/impl.errOtherText", laid_loop_example_g00528_impl_errOtherText), ("loop.example/g00528/impl.errBlobSize", laid_loop_example_g00528_impl_errBlobSize), ("loop.example/g00528/impl.errBlockSize", laid_loop_example_g00528_impl_errBlockSize), ("loop.example/g00528/impl.errMode", laid_loop_example_g00528_impl_errMode), ("loop.example/g00528/impl.errUnsealed", laid_loop_example_g00528_impl_errUnsealed), ("loop.example/g00528/impl.errPiece", laid_loop_example_g00528_impl_errPiece), ("loop.example/g00528/impl.errLeft", laid_loop_example_g00528_impl_errLeft), ("loop.example/g00528/impl.errSeqs", laid_loop_example_g00528_impl_errSeqs)] }
def FnExactPackAddSaid : Prop := fnExactPackAddRow.holds Tryz.pinned (OpenSpec.ofChange fnExactPackAddSpec)

/-- ITS FALSE NEIGHBOUR: 'it returns false'. Refute it at one input. -/
def fnExactPackAddWrong : ChangeSpec := { name := "fnExactPackAdd", vars := ["loop.example/g00528/impl.errBlobSize", "loop.example/g00528/impl.errMode", "loop.example/g00528/impl.errBlockSize", "loop.example/g00528/impl.errUnsealed", "loop.example/g00528/impl.errSeqs", "loop.example/g00528/impl.errRange", "loop.example/g00528/impl.errOver", "loop.example/g00528/impl.errRun", "loop.example/g00528/impl.errSyms", "loop.example/g00528/impl.errLength", "loop.example/g00528/impl.errNoCodes", "loop.example/g00528/impl.errShares", "loop.example/g00528/impl.errNoSymbol", "loop.example/g00528/impl.errFull", "loop.example/g00528/impl.errShare", "loop.example/g00528/impl.errOtherText", "loop.example/g00528/impl.errLeft", "loop.example/g00528/impl.errPiece"], fn := fun _ => fun
  | [d1, d2, g1, g2, g3, g4, g5, g6, g7, g8, g9, g10, g11, g12, g13, g14, g15, g16, g17, g18] => { results := [.lit (.bool false)], args := [d1, d2], vars := [g1, g2, g3, g4, g5, g6, g7, g8, g9, g10, g11, g12, g13, g14, g15, g16, g17, g18] }
  | _ => none }
def FnExactPackAddWrongFalsely : Prop := fnExactPackAddRow.holds Tryz.pinned (OpenSpec.ofChange fnExactPackAddWrong)

/- THE SECOND FORM. 'bulk': how many values and letters a reading holds, each counted each time it is reached (what is shared counts as often as it is met; a slice's spare places count too). A statement '..UptoSaid' is the law's where the arguments, and the package variables that the reading takes, are together of bulk at most 1048576: NARROWER than '..Said'. Prove '..Said' where nothing that the law and all that it calls make is longer than what came in: it says more and counts as full. Else prove '..UptoSaid'. A law counts once. -/
mutual
def uptoBulk {H : Type} : DataW H → Nat
  | .lit (.string bytes) => bytes.length + 1
  | .lit _ => 1
  | .nil => 1
  | .ptr d => uptoBulk d + 1
  | .slice elems spare => uptoBulkAll elems + uptoBulkAll spare + 1
  | .agg parts => uptoBulkAll parts + 1
  | .iface _ d => uptoBulk d + 1
  | .map entries => uptoBulkEntries entries + 1
  | .held _ => 1
def uptoBulkAll {H : Type} : List (DataW H) → Nat
  | [] => 0
  | d :: r => uptoBulk d + uptoBulkAll r
def uptoBulkEntries {H : Type} : List (Lit × DataW H) → Nat
  | [] => 0
  | x :: r => uptoBulkEntry x + uptoBulkEntries r
def uptoBulkEntry {H : Type} : Lit × DataW H → Nat
  | (.string bytes, d) => bytes.length + uptoBulk d + 1
  | (_, d) => uptoBulk d + 1
 end
def uptoSmall : (H : Type) → List (DataW H) → Bool := fun _ ds => decide (uptoBulkAll ds ≤ 1048576)
def OpenSpec.upto (s : _root_.Go.ChangeSpec) : _root_.Go.OpenSpec := { _root_.Go.OpenSpec.ofChange s with cond := some uptoSmall }

/-- 'laws.FnExactPackAdd', WHERE WHAT IT READS IS OF BULK AT MOST 1048576: true; the input reads as it did. -/
def fnExactPackAddUptoRow : OpenClaim := { program := "ytiabhcfcpkkhoaagreatdoor", sum := "9657fd36e82b5a58a253914cea9462e324de0989a35d260d0d795416e0ea4a45", func := "loop.example/g00528/laws.FnExactPackAdd", spec := "fnExactPackAdd", inPlace := ["internal/bytealg.MakeNoZero", "internal/reflectlite.TypeOf"], unfollowed := true, recurses := true, named := ["loop.example/g00528/impl.errBlobSize", "loop.example/g00528/impl.errMode", "loop.example/g00528/impl.errBlockSize", "loop.example/g00528/impl.errUnsealed", "loop.example/g00528/impl.errSeqs", "loop.example/g00528/impl.errRange", "loop.example/g00528/impl.errOver", "loop.example/g00528/impl.errRun", "loop.example/g00528/impl.errSyms", "loop.example/g00528/impl.errLength", "loop.example/g00528/impl.errNoCodes", "loop.example/g00528/impl.errShares", "loop.example/g00528/impl.errNoSymbol", "loop.example/g00528/impl.errFull", "loop.example/g00528/impl.errShare", "loop.example/g00528/impl.errOtherText", "loop.example/g00528/impl.errLeft", "loop.example/g00528/impl.errPiece"], ifaces := true, apart := false, laid := [("loop.example/g00528/impl.errOver", laid_loop_example_g00528_impl_errOver), ("loop.example/g00528/impl.errFull", laid_loop_example_g00528_impl_errFull), ("loop.example/g00528/impl.errRange", laid_loop_example_g00528_impl_errRange), ("loop.example/g00528/impl.errSyms", laid_loop_example_g00528_impl_errSyms), ("loop.example/g00528/impl.errLength", laid_loop_example_g00528_impl_errLength), ("loop.example/g00528/impl.errNoCodes", laid_loop_example_g00528_impl_errNoCodes), ("loop.example/g00528/impl.errShares", laid_loop_example_g00528_impl_errShares), ("loop.example/g00528/impl.errRun", laid_loop_example_g00528_impl_errRun), ("loop.example/g00528/impl.errNoSymbol", laid_loop_example_g00528_impl_errNoSymbol), ("loop.example/g00528/impl.errShare", laid_loop_example_g00528_impl_errShare), ("loop.example/g00528/impl.errOtherText", laid_loop_example_g00528_impl_errOtherText), ("loop.example/g00528/impl.errBlobSize", laid_loop_example_g00528_impl_errBlobSize), ("loop.example/g00528/impl.errBlockSize", laid_loop_example_g00528_impl_errBlockSize), ("loop.example/g00528/impl.errMode", laid_loop_example_g00528_impl_errMode), ("loop.example/g00528/impl.errUnsealed", laid_loop_example_g00528_impl_errUnsealed), ("loop.example/g00528/impl.errPiece", laid_loop_example_g00528_impl_errPiece), ("loop.example/g00528/impl.errLeft", laid_loop_example_g00528_impl_errLeft), ("loop.example/g00528/impl.errSeqs", laid_loop_example_g00528_impl_errSeqs)], narrowed := true }
def FnExactPackAddUptoSaid : Prop := fnExactPackAddUptoRow.holds Tryz.pinned (OpenSpec.upto fnExactPackAddSpec)

end Rows
end Go.Proofs.YtiabhcfcpkkhoaaGreatDoor
