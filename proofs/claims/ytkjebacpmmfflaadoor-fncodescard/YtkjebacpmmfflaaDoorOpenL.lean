/-
  What the list of a row on lengths gives the walks: the handle that errors.As looks up, and that the four sentinels hold errors.
-/
import Derived.Test.YtkjebacpmmfflaaDoorOpenS
import Derived.Test.YtkjebacpmmfflaaDoorOpenI
import Derived.Test.YtkjebacpmmfflaaDoorILens3
import Derived.LaidHandle
import Derived.LaidLaws
namespace Go.Proofs.YtkjebacpmmfflaaDoor
open Go.ChangeShapes Go.WideShapes Go.ChangeAt Go.RowKit Go.Joins
set_option linter.unusedVariables false

theorem Tryd.gSyms : Tryd.prog.globalNamed "loop.example/g00528/impl.errSyms" = some 1 := by kernel_rfl
theorem Tryd.gLength : Tryd.prog.globalNamed "loop.example/g00528/impl.errLength" = some 2 := by kernel_rfl
theorem Tryd.gNoCodes : Tryd.prog.globalNamed "loop.example/g00528/impl.errNoCodes" = some 3 := by kernel_rfl
theorem Tryd.gShares : Tryd.prog.globalNamed "loop.example/g00528/impl.errShares" = some 4 := by kernel_rfl
theorem Tryd.gET : Tryd.prog.globalNamed "errors.errorType" = some 0 := by kernel_rfl
theorem Tryd.tSyms : (Tryd.prog.globals[1]?).map (·.type) = some 63 := by kernel_rfl
theorem Tryd.tLength : (Tryd.prog.globals[2]?).map (·.type) = some 63 := by kernel_rfl
theorem Tryd.tNoCodes : (Tryd.prog.globals[3]?).map (·.type) = some 63 := by kernel_rfl
theorem Tryd.tShares : (Tryd.prog.globals[4]?).map (·.type) = some 63 := by kernel_rfl
theorem Tryd.tET : (Tryd.prog.globals[0]?).map (·.type) = some 108 := by kernel_rfl
theorem Tryd.rtN : (Tryd.prog.cutTypes.find? (·.1 == "internal/reflectlite.rtype")).map (·.2) = some 137 := by kernel_rfl
theorem Tryd.nTypes : Tryd.prog.types.size = 188 := by kernel_rfl
theorem Tryd.oneErr : ((List.range 188).filter fun t => Tryd.prog.rowNamed t [101, 114, 114, 111, 114]) = [63] := by kernel_rfl

/-- The variable that holds the handle. -/
theorem handle_cell {l : List (String × DataW Unit)} {W : World} {d : DataW Unit} (h : handlesMet Tryd.prog l W) (hd : ("errors.errorType", d) ∈ l) (hn : d.handleName? = some [101, 114, 114, 111, 114]) (hf : d.funcsIn? = none) :
    W.var? Tryd.prog "errors.errorType" = some #[rtyp 63] := by
  have h1 := h _ hd
  simp only [hf] at h1
  obtain ⟨name, u, ty, e1, e2, e3, e4, e5⟩ := h1
  have en : name = [101, 114, 114, 111, 114] := (Option.some.inj (hn.symm.trans e1)).symm
  subst en
  obtain rfl := Option.some.inj (Tryd.rtN.symm.trans e2)
  have hm : ty ∈ (List.range 188).filter fun t => Tryd.prog.rowNamed t [101, 114, 114, 111, 114] := List.mem_filter.2 ⟨List.mem_range.2 (by rw [← Tryd.nTypes]; exact e3), e4⟩
  rw [Tryd.oneErr] at hm
  obtain rfl := List.mem_singleton.1 hm
  have hh : typeHandle Tryd.prog 63 = .pointer (some ⟨11, 63, none⟩) := by kernel_rfl
  rw [hh] at e5
  exact e5

theorem vars_cons {H : Type} (enc : TypeId × Value → H) {P : Program} {W : World} {n : String} {g : Nat} {t : TypeId} {ms : Array (String × TypeId)} {x : Value} {ns : List String} {ds : List (DataW H)} {ps : List MemPlace} {sp : Nat → Bool}
    (hg : P.globalNamed n = some g) (ht : (P.globals[g]?).map (·.type) = some t) (hi : P.underlying t = some (.interface ms)) (h : W.var? P n = some #[x]) (ix : IsIface x) (hr : DataW.TrodVars enc P W sp ns ds ps) :
    DataW.TrodVars enc P W sp (n :: ns) (tok enc x :: ds) (.cell g 0 :: ps) := ⟨g, t, #[x], 1, [], ps, hg, ht, h, trod_held hi ix 0, hr, rfl⟩
end Go.Proofs.YtkjebacpmmfflaaDoor
