/-
  Type switches over what an address has.
-/
import Derived.Test.YthngimdjjmhboaaGreatDoorCtI
import Derived.Stop.Asserts
namespace Go.Proofs.YthngimdjjmhboaaGreatDoor
open Go.RowKit
set_option linter.unusedVariables false

theorem zeroBroken :(Tryz.prog.info? 124).map (·.zero)=some (some (.agg #[])):=by kernel_rfl
theorem brokenYes (v:Value) (xT:TypeId) (w:World):(Instr.typeAssert (.iface 124 v) xT 124 true).run Tryz.prog w=.ok (.tuple #[v,.bool true]) w:=by
 simp [Instr.typeAssert,run_underlying Tryz.underlying124]
theorem brokenNo (T:TypeId) (h:T≠124) (v:Value) (xT:TypeId) (w:World):(Instr.typeAssert (.iface T v) xT 124 true).run Tryz.prog w=.ok (.tuple #[.agg #[],.bool false]) w:=by
 obtain ⟨j,hj,hz⟩:=Option.map_eq_some_iff.1 zeroBroken
 simp [Instr.typeAssert,run_underlying Tryz.underlying124,h,zeroValue,typeInfo,hj,hz]
end Go.Proofs.YthngimdjjmhboaaGreatDoor
