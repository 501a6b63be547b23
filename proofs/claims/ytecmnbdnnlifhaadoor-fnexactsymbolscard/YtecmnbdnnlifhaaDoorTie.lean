/-
  DERIVED. GIVEN WITH THE SEED: THE PROGRAM's TIES (one call each: nine closed facts by the kernel) AND EACH ROW's TIE, after the 31st guide's Derived/Test/Toyas{Tie, Card}.lean. No idea stands in it: it is a product of the set-up. Laid BY PROGRAM, IN A SANDBOX (cutbox-door.mjs). By AI agents, Wed Nov 11 2026. No macro, syntax, notation, axiom, sorry.
-/
import Derived.Test.YtecmnbdnnlifhaaDoorRows
import Derived.LaidByTextLater
import Derived.SevenTiedAt
import Derived.LaidSub
import Derived.LaidOnce
namespace Go.Proofs.YtecmnbdnnlifhaaDoor
open Go
set_option maxRecDepth 100000
theorem seatTie1 : Tryd.prog.laidByTextLater [("loop.example/g00528/impl.errOver", Rows.laid_loop_example_g00528_impl_errOver), ("loop.example/g00528/impl.errFull", Rows.laid_loop_example_g00528_impl_errFull), ("loop.example/g00528/impl.errRange", Rows.laid_loop_example_g00528_impl_errRange), ("loop.example/g00528/impl.errPiece", Rows.laid_loop_example_g00528_impl_errPiece), ("loop.example/g00528/impl.errLeft", Rows.laid_loop_example_g00528_impl_errLeft), ("loop.example/g00528/impl.errSeqs", Rows.laid_loop_example_g00528_impl_errSeqs)] [.sentinel, .sentinel, .sentinel, .sentinel, .sentinel, .sentinel] true :=
  Program.laidByTextLater_by_one 123 8 2 (by kernel_rfl) (by kernel_rfl) (by kernel_rfl) (by kernel_rfl) (by kernel_rfl) (by kernel_rfl) (fun _ _ => by kernel_rfl)
theorem noOwnUnsafe : Tryd.pinned.checked.prog.headLifts.contains "ownunsafe" = false := by kernel_rfl
theorem tie : Tryd.prog.laidByTextLater [("loop.example/g00528/impl.errFull", Rows.laid_loop_example_g00528_impl_errFull), ("loop.example/g00528/impl.errRange", Rows.laid_loop_example_g00528_impl_errRange)] [.sentinel, .sentinel] true :=
  Program.laidByTextLater.sub seatTie1 ["loop.example/g00528/impl.errFull", "loop.example/g00528/impl.errRange"] (by kernel_rfl) (by kernel_rfl)
theorem fnExactSymbols_row_tie : Rows.fnExactSymbolsRow.laidByTextAt .later Tryd.pinned [.sentinel, .sentinel] true :=
  OpenClaim.laidByTextAt_later rfl rfl tie noOwnUnsafe
theorem tie2 : Tryd.prog.laidByTextLater [("loop.example/g00528/impl.errOver", Rows.laid_loop_example_g00528_impl_errOver), ("loop.example/g00528/impl.errRange", Rows.laid_loop_example_g00528_impl_errRange), ("loop.example/g00528/impl.errPiece", Rows.laid_loop_example_g00528_impl_errPiece), ("loop.example/g00528/impl.errLeft", Rows.laid_loop_example_g00528_impl_errLeft), ("loop.example/g00528/impl.errSeqs", Rows.laid_loop_example_g00528_impl_errSeqs)] [.sentinel, .sentinel, .sentinel, .sentinel, .sentinel] true :=
  Program.laidByTextLater.sub seatTie1 ["loop.example/g00528/impl.errOver", "loop.example/g00528/impl.errRange", "loop.example/g00528/impl.errPiece", "loop.example/g00528/impl.errLeft", "loop.example/g00528/impl.errSeqs"] (by kernel_rfl) (by kernel_rfl)
theorem fnExactUnsymbols_row_tie : Rows.fnExactUnsymbolsRow.laidByTextAt .later Tryd.pinned [.sentinel, .sentinel, .sentinel, .sentinel, .sentinel] true :=
  OpenClaim.laidByTextAt_later rfl rfl tie2 noOwnUnsafe
theorem fnExactSymbolsUpto_row_tie : Rows.fnExactSymbolsUptoRow.laidByTextAt .later Tryd.pinned [.sentinel, .sentinel] true :=
  OpenClaim.laidByTextAt_later rfl rfl tie noOwnUnsafe
theorem fnExactUnsymbolsUpto_row_tie : Rows.fnExactUnsymbolsUptoRow.laidByTextAt .later Tryd.pinned [.sentinel, .sentinel, .sentinel, .sentinel, .sentinel] true :=
  OpenClaim.laidByTextAt_later rfl rfl tie2 noOwnUnsafe
end Go.Proofs.YtecmnbdnnlifhaaDoor
