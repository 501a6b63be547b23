/-
  DERIVED. GIVEN WITH THE SEED: THE PROGRAM's TIES (one call each: nine closed facts by the kernel) AND EACH ROW's TIE, after the 31st guide's Derived/Test/Toyas{Tie, Card}.lean. No idea stands in it: it is a product of the set-up. Laid BY PROGRAM, IN A SANDBOX (cutbox-door.mjs). By AI agents, Wed Nov 11 2026. No macro, syntax, notation, axiom, sorry.
-/
import Derived.Test.YtkjebacpmmfflaaDoorRows
import Derived.LaidByTextLater
import Derived.SevenTiedAt
import Derived.LaidSub
import Derived.LaidOnce
namespace Go.Proofs.YtkjebacpmmfflaaDoor
open Go
set_option maxRecDepth 100000
theorem seatTie1 : Tryd.prog.laidByTextLater [("errors.errorType", Rows.laid_errors_errorType), ("loop.example/g00528/impl.errOver", Rows.laid_loop_example_g00528_impl_errOver), ("loop.example/g00528/impl.errFull", Rows.laid_loop_example_g00528_impl_errFull), ("loop.example/g00528/impl.errRange", Rows.laid_loop_example_g00528_impl_errRange), ("loop.example/g00528/impl.errSyms", Rows.laid_loop_example_g00528_impl_errSyms), ("loop.example/g00528/impl.errLength", Rows.laid_loop_example_g00528_impl_errLength), ("loop.example/g00528/impl.errNoCodes", Rows.laid_loop_example_g00528_impl_errNoCodes), ("loop.example/g00528/impl.errShares", Rows.laid_loop_example_g00528_impl_errShares), ("loop.example/g00528/impl.errRun", Rows.laid_loop_example_g00528_impl_errRun), ("loop.example/g00528/impl.errNoSymbol", Rows.laid_loop_example_g00528_impl_errNoSymbol), ("loop.example/g00528/impl.errNoCode", Rows.laid_loop_example_g00528_impl_errNoCode)] [.handle, .sentinel, .sentinel, .sentinel, .sentinel, .sentinel, .sentinel, .sentinel, .sentinel, .sentinel, .sentinel] true :=
  Program.laidByTextLater_by_one 206 8 2 (by kernel_rfl) (by kernel_rfl) (by kernel_rfl) (by kernel_rfl) (by kernel_rfl) (by kernel_rfl) (fun _ _ => by kernel_rfl)
theorem noOwnUnsafe : Tryd.pinned.checked.prog.headLifts.contains "ownunsafe" = false := by kernel_rfl
theorem tie : Tryd.prog.laidByTextLater [("errors.errorType", Rows.laid_errors_errorType), ("loop.example/g00528/impl.errSyms", Rows.laid_loop_example_g00528_impl_errSyms), ("loop.example/g00528/impl.errLength", Rows.laid_loop_example_g00528_impl_errLength), ("loop.example/g00528/impl.errNoCodes", Rows.laid_loop_example_g00528_impl_errNoCodes), ("loop.example/g00528/impl.errShares", Rows.laid_loop_example_g00528_impl_errShares)] [.handle, .sentinel, .sentinel, .sentinel, .sentinel] true :=
  Program.laidByTextLater.sub seatTie1 ["errors.errorType", "loop.example/g00528/impl.errSyms", "loop.example/g00528/impl.errLength", "loop.example/g00528/impl.errNoCodes", "loop.example/g00528/impl.errShares"] (by kernel_rfl) (by kernel_rfl)
theorem fnLens_row_tie : Rows.fnLensRow.laidByTextAt .later Tryd.pinned [.handle, .sentinel, .sentinel, .sentinel, .sentinel] true :=
  OpenClaim.laidByTextAt_later rfl rfl tie noOwnUnsafe
theorem fnBest_row_tie : Rows.fnBestRow.laidByTextAt .later Tryd.pinned [.handle, .sentinel, .sentinel, .sentinel, .sentinel] true :=
  OpenClaim.laidByTextAt_later rfl rfl tie noOwnUnsafe
theorem fnCodes_row_tie : Rows.fnCodesRow.laidByTextAt .later Tryd.pinned [.handle, .sentinel, .sentinel, .sentinel, .sentinel] true :=
  OpenClaim.laidByTextAt_later rfl rfl tie noOwnUnsafe
theorem tie2 : Tryd.prog.laidByTextLater [("errors.errorType", Rows.laid_errors_errorType), ("loop.example/g00528/impl.errOver", Rows.laid_loop_example_g00528_impl_errOver), ("loop.example/g00528/impl.errFull", Rows.laid_loop_example_g00528_impl_errFull), ("loop.example/g00528/impl.errRange", Rows.laid_loop_example_g00528_impl_errRange), ("loop.example/g00528/impl.errSyms", Rows.laid_loop_example_g00528_impl_errSyms), ("loop.example/g00528/impl.errLength", Rows.laid_loop_example_g00528_impl_errLength), ("loop.example/g00528/impl.errNoCodes", Rows.laid_loop_example_g00528_impl_errNoCodes), ("loop.example/g00528/impl.errShares", Rows.laid_loop_example_g00528_impl_errShares), ("loop.example/g00528/impl.errNoSymbol", Rows.laid_loop_example_g00528_impl_errNoSymbol), ("loop.example/g00528/impl.errNoCode", Rows.laid_loop_example_g00528_impl_errNoCode)] [.handle, .sentinel, .sentinel, .sentinel, .sentinel, .sentinel, .sentinel, .sentinel, .sentinel, .sentinel] true :=
  Program.laidByTextLater.sub seatTie1 ["errors.errorType", "loop.example/g00528/impl.errOver", "loop.example/g00528/impl.errFull", "loop.example/g00528/impl.errRange", "loop.example/g00528/impl.errSyms", "loop.example/g00528/impl.errLength", "loop.example/g00528/impl.errNoCodes", "loop.example/g00528/impl.errShares", "loop.example/g00528/impl.errNoSymbol", "loop.example/g00528/impl.errNoCode"] (by kernel_rfl) (by kernel_rfl)
theorem fnHuffs_row_tie : Rows.fnHuffsRow.laidByTextAt .later Tryd.pinned [.handle, .sentinel, .sentinel, .sentinel, .sentinel, .sentinel, .sentinel, .sentinel, .sentinel, .sentinel] true :=
  OpenClaim.laidByTextAt_later rfl rfl tie2 noOwnUnsafe
theorem tie3 : Tryd.prog.laidByTextLater [("errors.errorType", Rows.laid_errors_errorType), ("loop.example/g00528/impl.errOver", Rows.laid_loop_example_g00528_impl_errOver), ("loop.example/g00528/impl.errFull", Rows.laid_loop_example_g00528_impl_errFull), ("loop.example/g00528/impl.errRange", Rows.laid_loop_example_g00528_impl_errRange), ("loop.example/g00528/impl.errSyms", Rows.laid_loop_example_g00528_impl_errSyms), ("loop.example/g00528/impl.errLength", Rows.laid_loop_example_g00528_impl_errLength), ("loop.example/g00528/impl.errNoCodes", Rows.laid_loop_example_g00528_impl_errNoCodes), ("loop.example/g00528/impl.errShares", Rows.laid_loop_example_g00528_impl_errShares), ("loop.example/g00528/impl.errRun", Rows.laid_loop_example_g00528_impl_errRun)] [.handle, .sentinel, .sentinel, .sentinel, .sentinel, .sentinel, .sentinel, .sentinel, .sentinel] true :=
  Program.laidByTextLater.sub seatTie1 ["errors.errorType", "loop.example/g00528/impl.errOver", "loop.example/g00528/impl.errFull", "loop.example/g00528/impl.errRange", "loop.example/g00528/impl.errSyms", "loop.example/g00528/impl.errLength", "loop.example/g00528/impl.errNoCodes", "loop.example/g00528/impl.errShares", "loop.example/g00528/impl.errRun"] (by kernel_rfl) (by kernel_rfl)
theorem fnLensBits_row_tie : Rows.fnLensBitsRow.laidByTextAt .later Tryd.pinned [.handle, .sentinel, .sentinel, .sentinel, .sentinel, .sentinel, .sentinel, .sentinel, .sentinel] true :=
  OpenClaim.laidByTextAt_later rfl rfl tie3 noOwnUnsafe
theorem fnLensUpto_row_tie : Rows.fnLensUptoRow.laidByTextAt .later Tryd.pinned [.handle, .sentinel, .sentinel, .sentinel, .sentinel] true :=
  OpenClaim.laidByTextAt_later rfl rfl tie noOwnUnsafe
theorem fnBestUpto_row_tie : Rows.fnBestUptoRow.laidByTextAt .later Tryd.pinned [.handle, .sentinel, .sentinel, .sentinel, .sentinel] true :=
  OpenClaim.laidByTextAt_later rfl rfl tie noOwnUnsafe
theorem fnHuffsUpto_row_tie : Rows.fnHuffsUptoRow.laidByTextAt .later Tryd.pinned [.handle, .sentinel, .sentinel, .sentinel, .sentinel, .sentinel, .sentinel, .sentinel, .sentinel, .sentinel] true :=
  OpenClaim.laidByTextAt_later rfl rfl tie2 noOwnUnsafe
theorem fnCodesUpto_row_tie : Rows.fnCodesUptoRow.laidByTextAt .later Tryd.pinned [.handle, .sentinel, .sentinel, .sentinel, .sentinel] true :=
  OpenClaim.laidByTextAt_later rfl rfl tie noOwnUnsafe
theorem fnLensBitsUpto_row_tie : Rows.fnLensBitsUptoRow.laidByTextAt .later Tryd.pinned [.handle, .sentinel, .sentinel, .sentinel, .sentinel, .sentinel, .sentinel, .sentinel, .sentinel] true :=
  OpenClaim.laidByTextAt_later rfl rfl tie3 noOwnUnsafe
end Go.Proofs.YtkjebacpmmfflaaDoor
