/-
  NARROWER THAN 'FOR EVERY INPUT', by the rows' own cells (each row's printed sentence says how): FnExactSymbols: ifaces, laid · FnExactUnsymbols: ifaces, laid.
  DERIVED. THE GIVEN ROWS OF THIS SEAT. 2 by the template 'for every input the law returns true; each argument reads behind the call as it read before'; 0 by the template 'total and deterministic' (their statements: YtecmnbdnnlifhaaDoorTotals.lean).
  GIVEN WITH THE SEED: the statements are not yours to turn. If you find one false, say at which input.
  Laid BY PROGRAM, IN A SANDBOX (cutbox-rows.mjs): the forced cells as the released guide's own fill.sh prints them over the translation 2d982eea3447f5a1… (all of the seat's roots in one cut). By AI agents, Wed Nov 11 2026. No macro, syntax, notation, axiom, sorry.
-/
import Derived.Test.YtecmnbdnnlifhaaDoorChecked
import GoSem.Claim
import GoSem.ClaimJoined
import GoSem.ClaimMapViews
import Derived.JoinedTies
import Derived.KernelRfl
namespace Go.Proofs.YtecmnbdnnlifhaaDoor
/- THE CELL 'sum', in the pinned program and in every row, IS THE sha256 OF THE DUMP (.gsa) THAT YtecmnbdnnlifhaaDoorProg.lean LOADS. Nothing in Lean hashes anything: it is a label: what it is worth is what the hold of that sum in a sandbox is worth. -/
noncomputable def Tryd.pinned : Pinned := { name := "ytecmnbdnnlifhaadoor", sum := "2d982eea3447f5a14a2090d7b69ef65f8aafc655ce856a6545ec7dc3feeb3ca0", checked := Tryd.checked }
namespace Rows
def none {H : Type} : Left H := { results := [], args := [] }

/- WHAT THE LISTED PACKAGE-LEVEL VARIABLES READ AS WHEN THE CALL BEGINS. Each datum BY PROGRAM (the guide's laid-datum.mjs) off the statement by which the dump's own 'gosem.cut.vars' lays the variable. In a bare row this is a premise. The card (YtecmnbdnnlifhaaDoorCards.lean) ties it to the program's text. -/
def laid_loop_example_g00528_impl_errFull {H : Type} : DataW H := .iface "*errors.errorString" (.ptr (.agg [.lit (.string [116, 104, 101, 32, 115, 116, 114, 101, 97, 109, 32, 104, 97, 115, 32, 110, 111, 32, 109, 111, 114, 101, 32, 114, 111, 111, 109])]))
def laid_loop_example_g00528_impl_errRange {H : Type} : DataW H := .iface "*errors.errorString" (.ptr (.agg [.lit (.string [116, 104, 101, 32, 115, 116, 114, 101, 97, 109, 32, 116, 97, 107, 101, 115, 32, 110, 111, 32, 115, 117, 99, 104, 32, 119, 105, 100, 116, 104, 32, 111, 114, 32, 110, 117, 109, 98, 101, 114])]))
def laid_loop_example_g00528_impl_errOver {H : Type} : DataW H := .iface "*errors.errorString" (.ptr (.agg [.lit (.string [116, 104, 101, 32, 115, 116, 114, 101, 97, 109, 32, 105, 115, 32, 111, 118, 101, 114])]))
def laid_loop_example_g00528_impl_errPiece {H : Type} : DataW H := .iface "*errors.errorString" (.ptr (.agg [.lit (.string [97, 32, 108, 101, 110, 103, 116, 104, 32, 97, 110, 100, 32, 97, 32, 100, 105, 115, 116, 97, 110, 99, 101, 32, 97, 114, 101, 32, 110, 111, 116, 32, 111, 110, 101, 32, 98, 101, 104, 105, 110, 100, 32, 116, 104, 101, 32, 111, 116, 104, 101, 114])]))
def laid_loop_example_g00528_impl_errLeft {H : Type} : DataW H := .iface "*errors.errorString" (.ptr (.agg [.lit (.string [98, 105, 116, 115, 32, 98, 101, 115, 105, 100, 101, 32, 97, 114, 101, 32, 108, 101, 102, 116])]))
def laid_loop_example_g00528_impl_errSeqs {H : Type} : DataW H := .iface "*errors.errorString" (.ptr (.agg [.lit (.string [116, 104, 101, 32, 115, 101, 113, 117, 101, 110, 99, 101, 115, 32, 97, 114, 101, 32, 110, 111, 116, 32, 114, 105, 103, 104, 116])]))

/-- 'laws.FnExactSymbols': WHATEVER THE INPUT: true; the input reads as it did. -/
def fnExactSymbolsSpec : ChangeSpec := { name := "fnExactSymbols", vars := ["loop.example/g00528/impl.errRange", "loop.example/g00528/impl.errFull"], fn := fun _ => fun
  | [d, g1, g2] => { results := [.lit (.bool true)], args := [d], vars := [g1, g2] }
  | _ => none }
def fnExactSymbolsRow : OpenClaim := { program := "ytecmnbdnnlifhaadoor", sum := "2d982eea3447f5a14a2090d7b69ef65f8aafc655ce856a6545ec7dc3feeb3ca0", func := "loop.example/g00528/laws.FnExactSymbols", spec := "fnExactSymbols", named := ["loop.example/g00528/impl.errRange", "loop.example/g00528/impl.errFull"], ifaces := true, apart := false, laid := [("loop.example/g00528/impl.errFull", laid_loop_example_g00528_impl_errFull), ("loop.example/g00528/impl.errRange", laid_loop_example_g00528_impl_errRange)] }
def FnExactSymbolsSaid : Prop := fnExactSymbolsRow.holds Tryd.pinned (OpenSpec.ofChange fnExactSymbolsSpec)

/-- ITS FALSE NEIGHBOUR: 'it returns false'. Refute it at one input. -/
def fnExactSymbolsWrong : ChangeSpec := { name := "fnExactSymbols", vars := ["loop.example/g00528/impl.errRange", "loop.example/g00528/impl.errFull"], fn := fun _ => fun
  | [d, g1, g2] => { results := [.lit (.bool false)], args := [d], vars := [g1, g2] }
  | _ => none }
def FnExactSymbolsWrongFalsely : Prop := fnExactSymbolsRow.holds Tryd.pinned (OpenSpec.ofChange fnExactSymbolsWrong)

/-- 'laws.FnExactUnsymbols': WHATEVER THE INPUT: true; the input reads as it did. -/
def fnExactUnsymbolsSpec : ChangeSpec := { name := "fnExactUnsymbols", vars := ["loop.example/g00528/impl.errLeft", "loop.example/g00528/impl.errSeqs", "loop.example/g00528/impl.errRange", "loop.example/g00528/impl.errOver", "loop.example/g00528/impl.errPiece"], fn := fun _ => fun
  | [d1, d2, g1, g2, g3, g4, g5] => { results := [.lit (.bool true)], args := [d1, d2], vars := [g1, g2, g3, g4, g5] }
  | _ => none }
def fnExactUnsymbolsRow : OpenClaim := { program := "ytecmnbdnnlifhaadoor", sum := "2d982eea3447f5a14a2090d7b69ef65f8aafc655ce856a6545ec7dc3feeb3ca0", func := "loop.example/g00528/laws.FnExactUnsymbols", spec := "fnExactUnsymbols", named := ["loop.example/g00528/impl.errLeft", "loop.example/g00528/impl.errSeqs", "loop.example/g00528/impl.errRange", "loop.example/g00528/impl.errOver", "loop.example/g00528/impl.errPiece"], ifaces := true, apart := false, laid := [("loop.example/g00528/impl.errOver", laid_loop_example_g00528_impl_errOver), ("loop.example/g00528/impl.errRange", laid_loop_example_g00528_impl_errRange), ("loop.example/g00528/impl.errPiece", laid_loop_example_g00528_impl_errPiece), ("loop.example/g00528/impl.errLeft", laid_loop_example_g00528_impl_errLeft), ("loop.example/g00528/impl.errSeqs", laid_loop_example_g00528_impl_errSeqs)] }
def FnExactUnsymbolsSaid : Prop := fnExactUnsymbolsRow.holds Tryd.pinned (OpenSpec.ofChange fnExactUnsymbolsSpec)

/-- ITS FALSE NEIGHBOUR: 'it returns false'. Refute it at one input. -/
def fnExactUnsymbolsWrong : ChangeSpec := { name := "fnExactUnsymbols", vars := ["loop.example/g00528/impl.errLeft", "loop.example/g00528/impl.errSeqs", "loop.example/g00528/impl.errRange", "loop.example/g00528/impl.errOver", "loop.example/g00528/impl.errPiece"], fn := fun _ => fun
  | [d1, d2, g1, g2, g3, g4, g5] => { results := [.lit (.bool false)], args := [d1, d2], vars := [g1, g2, g3, g4, g5] }
  | _ => none }
def FnExactUnsymbolsWrongFalsely : Prop := fnExactUnsymbolsRow.holds Tryd.pinned (OpenSpec.ofChange fnExactUnsymbolsWrong)

/- THE SECOND FORM. 'bulk': how many values and letters a reading holds, each counted each time it is reached (what is shared counts as often as it is met; a slice's spare places count too). A statement '..UptoSaid' is the law's where the arguments, and the package variables that the reading takes, are together of bulk at most 1048576: NARROWER than '..Said'. Prove '..Said' where nothing that the law and all that it calls make is longer than what came in: it says more and counts as full. Else prove '..UptoSaid'. A law counts once. -/
mutual
def uptoBulk {H : Type} : DataW H → Nat
  | .lit (.string bytes) => bytes.length + 1
  | .lit _ => 1
  | .nil => 1
  | .ptr d => uptoBulk d + 1
  | .slice elems spare => uptoBulkAll elems + uptoBulkAll spare + 1
  | .agg parts => uptoBulkAll parts + 1
  | .iface _ d => uptoBulk d + 1
  | .map entries => uptoBulkEntries entries + 1
  | .held _ => 1
def uptoBulkAll {H : Type} : List (DataW H) → Nat
  | [] => 0
  | d :: r => uptoBulk d + uptoBulkAll r
def uptoBulkEntries {H : Type} : List (Lit × DataW H) → Nat
  | [] => 0
  | x :: r => uptoBulkEntry x + uptoBulkEntries r
def uptoBulkEntry {H : Type} : Lit × DataW H → Nat
  | (.string bytes, d) => bytes.length + uptoBulk d + 1
  | (_, d) => uptoBulk d + 1
 end
def uptoSmall : (H : Type) → List (DataW H) → Bool := fun _ ds => decide (uptoBulkAll ds ≤ 1048576)
def OpenSpec.upto (s : _root_.Go.ChangeSpec) : _root_.Go.OpenSpec := { _root_.Go.OpenSpec.ofChange s with cond := some uptoSmall }

/-- 'laws.FnExactSymbols', WHERE WHAT IT READS IS OF BULK AT MOST 1048576: true; the input reads as it did. -/
def fnExactSymbolsUptoRow : OpenClaim := { program := "ytecmnbdnnlifhaadoor", sum := "2d982eea3447f5a14a2090d7b69ef65f8aafc655ce856a6545ec7dc3feeb3ca0", func := "loop.example/g00528/laws.FnExactSymbols", spec := "fnExactSymbols", named := ["loop.example/g00528/impl.errRange", "loop.example/g00528/impl.errFull"], ifaces := true, apart := false, laid := [("loop.example/g00528/impl.errFull", laid_loop_example_g00528_impl_errFull), ("loop.example/g00528/impl.errRange", laid_loop_example_g00528_impl_errRange)], narrowed := true }
def FnExactSymbolsUptoSaid : Prop := fnExactSymbolsUptoRow.holds Tryd.pinned (OpenSpec.upto fnExactSymbolsSpec)

/-- 'laws.FnExactUnsymbols', WHERE WHAT IT READS IS OF BULK AT MOST 1048576: true; the input reads as it did. -/
def fnExactUnsymbolsUptoRow : OpenClaim := { program := "ytecmnbdnnlifhaadoor", sum := "2d982eea3447f5a14a2090d7b69ef65f8aafc655ce856a6545ec7dc3feeb3ca0", func := "loop.example/g00528/laws.FnExactUnsymbols", spec := "fnExactUnsymbols", named := ["loop.example/g00528/impl.errLeft", "loop.example/g00528/impl.errSeqs", "loop.example/g00528/impl.errRange", "loop.example/g00528/impl.errOver", "loop.example/g00528/impl.errPiece"], ifaces := true, apart := false, laid := [("loop.example/g00528/impl.errOver", laid_loop_example_g00528_impl_errOver), ("loop.example/g00528/impl.errRange", laid_loop_example_g00528_impl_errRange), ("loop.example/g00528/impl.errPiece", laid_loop_example_g00528_impl_errPiece), ("loop.example/g00528/impl.errLeft", laid_loop_example_g00528_impl_errLeft), ("loop.example/g00528/impl.errSeqs", laid_loop_example_g00528_impl_errSeqs)], narrowed := true }
def FnExactUnsymbolsUptoSaid : Prop := fnExactUnsymbolsUptoRow.holds Tryd.pinned (OpenSpec.upto fnExactUnsymbolsSpec)

end Rows
end Go.Proofs.YtecmnbdnnlifhaaDoor
