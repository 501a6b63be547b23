/-
  What eqBits answers.
-/
import Derived.Test.YtecmnbdnnlifhaaDoorEqS
namespace Go.Proofs.YtecmnbdnnlifhaaDoor
open Go.RowKit
set_option linter.unusedVariables false

set_option maxHeartbeats 400000 in
theorem eqBits_any (a b : Option Addr) (ca cb : Nat) (xs ys : List Int) (M N : Int) (w : World) (ha : Byt w a xs) (hb : Byt w b ys) (hx : xs.length ≤ 281474976710656) (hy : ys.length ≤ 281474976710656) :
    Calls Tryd.prog 10 #[.agg #[.slice a xs.length ca, .int .i64 M], .agg #[.slice b ys.length cb, .int .i64 N]] w fun e w' => e = .returned (.bool (decide (xs = ys ∧ M = N))) ∧ Below w.heap.size w w' := by
  have hw : Below w.heap.size w ((w.alloc (Obj.cells #[Value.slice a xs.length ca, Value.int IntKind.i64 M] 27)).alloc (Obj.cells #[Value.slice b ys.length cb, Value.int IntKind.i64 N] 27)) :=
    ((Below.refl _ _).alloc (Nat.le_refl _) _).alloc (by simp) _
  by_cases h1 : xs = ys
  · have hd : decide (xs = ys) = true := by simp [h1]
    by_cases h2 : M = N
    · subst h2
      have hm : (M != M) = false := by simp
      have hE : decide (xs = ys ∧ M = M) = true := by simp [h1]
      rw [hE]
      clear h1 hE
      go_enter Tryd.func10, Tryd.ntmps10
      go_wp2_with fail
      refine (eqByteS_any a b ca cb xs ys _ (ha.below hw (Nat.le_refl _)) (hb.below hw (Nat.le_refl _)) hx hy).mono ?_
      rintro e w1 ⟨rfl, nq, rfl⟩
      rw [hd]
      go_wp2
      go_ret
      exact ⟨rfl, below_drewN hw _⟩
    · have hm : (M != N) = true := by rw [bne_iff_ne]; exact h2
      have hE : decide (xs = ys ∧ M = N) = false := by simp [h2]
      rw [hE]
      clear h1 hE h2
      go_enter Tryd.func10, Tryd.ntmps10
      go_wp2_with fail
      refine (eqByteS_any a b ca cb xs ys _ (ha.below hw (Nat.le_refl _)) (hb.below hw (Nat.le_refl _)) hx hy).mono ?_
      rintro e w1 ⟨rfl, nq, rfl⟩
      rw [hd]
      go_wp2
      go_ret
      exact ⟨rfl, below_drewN hw _⟩
  · have hd : decide (xs = ys) = false := by simp [h1]
    have hE : decide (xs = ys ∧ M = N) = false := by simp [h1]
    rw [hE]
    clear h1 hE
    go_enter Tryd.func10, Tryd.ntmps10
    go_wp2_with fail
    refine (eqByteS_any a b ca cb xs ys _ (ha.below hw (Nat.le_refl _)) (hb.below hw (Nat.le_refl _)) hx hy).mono ?_
    rintro e w1 ⟨rfl, nq, rfl⟩
    rw [hd]
    go_wp2
    go_ret
    exact ⟨rfl, below_drewN hw _⟩

theorem eqBits_yes (a b : Option Addr) (ca cb : Nat) (xs : List Int) (N : Int) (w : World) (ha : Byt w a xs) (hb : Byt w b xs) (hx : xs.length ≤ 281474976710656) :
    Calls Tryd.prog 10 #[.agg #[.slice a xs.length ca, .int .i64 N], .agg #[.slice b xs.length cb, .int .i64 N]] w fun e w' => e = .returned (.bool true) ∧ Below w.heap.size w w' := by
  refine (eqBits_any a b ca cb xs xs N N w ha hb hx hx).mono ?_
  rintro e w' ⟨rfl, h⟩
  exact ⟨by simp, h⟩

end Go.Proofs.YtecmnbdnnlifhaaDoor
