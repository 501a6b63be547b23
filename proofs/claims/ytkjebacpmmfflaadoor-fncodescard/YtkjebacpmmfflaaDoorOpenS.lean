/-
  What the row's list gives the walks: each listed sentinel holds an error that is not nil; and the named variables read behind the call as before it.
-/
import Derived.Test.YtkjebacpmmfflaaDoorOpenB
import Derived.Test.YtkjebacpmmfflaaDoorCards
import Derived.Test.YtkjebacpmmfflaaDoorTie
import Derived.LaidMore
import Derived.Stop.Joined
import Derived.Stop.LaidErr
import Derived.WalkSmall
import Derived.SevenTiedAt
namespace Go.Proofs.YtkjebacpmmfflaaDoor
open Go.ChangeShapes Go.WideShapes Go.ChangeAt Go.RowKit Go.Joins
set_option linter.unusedVariables false

theorem Tryd.gRange : Tryd.prog.globalNamed "loop.example/g00528/impl.errRange" = some 7 := by kernel_rfl
theorem Tryd.gFull : Tryd.prog.globalNamed "loop.example/g00528/impl.errFull" = some 10 := by kernel_rfl
theorem Tryd.gOver : Tryd.prog.globalNamed "loop.example/g00528/impl.errOver" = some 8 := by kernel_rfl
theorem Tryd.tRange : (Tryd.prog.globals[7]?).map (·.type) = some 63 := by kernel_rfl
theorem Tryd.tFull : (Tryd.prog.globals[10]?).map (·.type) = some 63 := by kernel_rfl
theorem Tryd.tOver : (Tryd.prog.globals[8]?).map (·.type) = some 63 := by kernel_rfl
theorem Tryd.cellsES : Tryd.prog.cellsOf 177 = 1 := by kernel_rfl
theorem Tryd.cellsStr : Tryd.prog.cellsOf 9 = 1 := by kernel_rfl
theorem Tryd.star : "*" ++ "errors.errorString" = "*errors.errorString" := by decide
theorem Tryd.rowES (u : TypeId) (h : Tryd.prog.typeName? 3 u = some "*errors.errorString") : u = 154 :=
  typeName_ptr_named (nm := "errors.errorString") (by rw [Tryd.star]; kernel_rfl) (by kernel_rfl) (by decide) u (by rw [Tryd.star]; exact h)

/-- The head of a list of sentinels. -/
theorem sentinel {n : String} {text : List UInt8} {r : List (String × DataW Unit)} {W : World} {g : Nat} (h : laidMet Tryd.prog ((n, .iface "*errors.errorString" (.ptr (.agg [.lit (.string text)]))) :: r) W)
    (hg : Tryd.prog.globalNamed n = some g) (ht : (Tryd.prog.globals[g]?).map (·.type) = some 63) :
    ∃ a : Addr, W.var? Tryd.prog n = some #[.iface 154 (.pointer (some a))] ∧ W.cell? ⟨g, 0, .none⟩ = some (.iface 154 (.pointer (some a))) := by
  obtain ⟨a0, s0, hv0, hc0, hs0, hz0⟩ := laid_sentinel h hg ht Tryd.underlying63 Tryd.rowES Tryd.underlying154 Tryd.underlying177 rfl rfl Tryd.underlying9 Tryd.cellsES Tryd.cellsStr
  exact ⟨a0, hv0, by simpa using World.var?_cell hg hv0 0⟩

end Go.Proofs.YtkjebacpmmfflaaDoor
