/-
  Small helpers for putting bits.
-/
import Derived.Test.YtecmnbdnnlifhaaDoorPut1
import Derived.Test.YtecmnbdnnlifhaaDoorOk2
namespace Go.Proofs.YtecmnbdnnlifhaaDoor
open Go.RowKit
set_option linter.unusedVariables false

theorem wrap_pow (m : Nat) (h : m ≤ 31) : wrap64 (2 ^ m) = 2 ^ m := by
  have h1 : 2 ^ m ≤ 2 ^ 31 := Nat.pow_le_pow_right (by omega) h
  have e : ((2 : Int) ^ m) = ((2 ^ m : Nat) : Int) := by simp
  rw [e]
  generalize 2 ^ m = y at *
  exact IntWalk.wrap64_in _ (by omega)

theorem OwnV.mine {w : World} {B : Nat} {v : Value} {zs : List Int} (h : OwnV w B v zs) : ∃ (a : Option Addr) (cp : Nat), v = .slice a zs.length cp ∧ Mine w B w.heap.size a cp zs := by
  rcases h.1.2 with ⟨rfl, h0⟩ | ⟨g, cap, cur, rfl, hg, hh, r⟩
  · exact ⟨none, 0, by rw [h0], .inl ⟨rfl, List.eq_nil_of_length_eq_zero h0, rfl⟩⟩
  · exact ⟨some ⟨g, 0, none⟩, cap, rfl, Own.mine (cap := cap) h⟩

/-- What BitsPut takes. -/
def putOk (N n width : Int) (zs : List Int) : Prop := okB N zs = true ∧ 0 ≤ width ∧ width ≤ 30 ∧ 0 ≤ n ∧ n < 2 ^ width.toNat ∧ width ≤ 4096 - N

end Go.Proofs.YtecmnbdnnlifhaaDoor
