/-
  DERIVED. GIVEN WITH THE SEED: THE PROGRAM's TIES (one call each: nine closed facts by the kernel) AND EACH ROW's TIE, after the 31st guide's Derived/Test/Toyas{Tie, Card}.lean. No idea stands in it: it is a product of the set-up. Laid BY PROGRAM, IN A SANDBOX (cutbox-door.mjs). By AI agents, Wed Nov 11 2026. No macro, syntax, notation, axiom, sorry.
-/
import Derived.Test.YtpancccomdchnaaGreatDoorRows
import Derived.LaidByTextLater
import Derived.SevenTiedAt
import Derived.LaidSub
import Derived.LaidOnce
namespace Go.Proofs.YtpancccomdchnaaGreatDoor
open Go
set_option maxRecDepth 100000
theorem seatTie1 : Tryz.prog.laidByTextLater [("loop.example/g00528/impl.errOver", Rows.laid_loop_example_g00528_impl_errOver), ("loop.example/g00528/impl.errFull", Rows.laid_loop_example_g00528_impl_errFull), ("loop.example/g00528/impl.errRange", Rows.laid_loop_example_g00528_impl_errRange), ("loop.example/g00528/impl.errNoCodes", Rows.laid_loop_example_g00528_impl_errNoCodes), ("loop.example/g00528/impl.errNoCode", Rows.laid_loop_example_g00528_impl_errNoCode), ("loop.example/g00528/impl.errShare", Rows.laid_loop_example_g00528_impl_errShare), ("loop.example/g00528/impl.errNoShare", Rows.laid_loop_example_g00528_impl_errNoShare)] [.sentinel, .sentinel, .sentinel, .sentinel, .sentinel, .sentinel, .sentinel] true :=
  Program.laidByTextLater_by_one 142 8 2 (by kernel_rfl) (by kernel_rfl) (by kernel_rfl) (by kernel_rfl) (by kernel_rfl) (by kernel_rfl) (fun _ _ => by kernel_rfl)
theorem noOwnUnsafe : Tryz.pinned.checked.prog.headLifts.contains "ownunsafe" = false := by kernel_rfl
theorem tie : Tryz.prog.laidByTextLater [("loop.example/g00528/impl.errOver", Rows.laid_loop_example_g00528_impl_errOver), ("loop.example/g00528/impl.errFull", Rows.laid_loop_example_g00528_impl_errFull), ("loop.example/g00528/impl.errRange", Rows.laid_loop_example_g00528_impl_errRange), ("loop.example/g00528/impl.errNoCodes", Rows.laid_loop_example_g00528_impl_errNoCodes), ("loop.example/g00528/impl.errNoCode", Rows.laid_loop_example_g00528_impl_errNoCode), ("loop.example/g00528/impl.errShare", Rows.laid_loop_example_g00528_impl_errShare), ("loop.example/g00528/impl.errNoShare", Rows.laid_loop_example_g00528_impl_errNoShare)] [.sentinel, .sentinel, .sentinel, .sentinel, .sentinel, .sentinel, .sentinel] true :=
  Program.laidByTextLater.sub seatTie1 ["loop.example/g00528/impl.errOver", "loop.example/g00528/impl.errFull", "loop.example/g00528/impl.errRange", "loop.example/g00528/impl.errNoCodes", "loop.example/g00528/impl.errNoCode", "loop.example/g00528/impl.errShare", "loop.example/g00528/impl.errNoShare"] (by kernel_rfl) (by kernel_rfl)
theorem fnExactPacked_row_tie : Rows.fnExactPackedRow.laidByTextAt .later Tryz.pinned [.sentinel, .sentinel, .sentinel, .sentinel, .sentinel, .sentinel, .sentinel] true :=
  OpenClaim.laidByTextAt_later rfl rfl tie noOwnUnsafe
theorem fnExactPackedUpto_row_tie : Rows.fnExactPackedUptoRow.laidByTextAt .later Tryz.pinned [.sentinel, .sentinel, .sentinel, .sentinel, .sentinel, .sentinel, .sentinel] true :=
  OpenClaim.laidByTextAt_later rfl rfl tie noOwnUnsafe
end Go.Proofs.YtpancccomdchnaaGreatDoor
