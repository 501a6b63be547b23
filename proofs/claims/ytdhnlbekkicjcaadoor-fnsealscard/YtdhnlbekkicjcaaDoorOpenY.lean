/-
  The bits ahead of the last one, as bytes.
-/
import Derived.Test.YtdhnlbekkicjcaaDoorOkB
import Derived.Test.YtdhnlbekkicjcaaDoorNews
import Derived.Test.YtdhnlbekkicjcaaDoorOk2
import Derived.Test.YtdhnlbekkicjcaaDoorOps
namespace Go.Proofs.YtdhnlbekkicjcaaDoor
open Go.RowKit
set_option linter.unusedVariables false

/-- The bytes ahead of the last one, which is the bit b of the last byte t. -/
def openY (zs : List Int) (L b : Nat) (t : Nat) : List Int := if b = 0 then zs.take L else zs.set L ((t - 2 ^ b : Nat) : Int)

theorem mask_low (t j : Nat) (hj : j < 8) (h1 : 2 ^ j ≤ t) (h2 : t < 2 ^ (j + 1)) : bits .and .u8 (t : Int) ((2 ^ j - 1) % 256) = ((t - 2 ^ j : Nat) : Int) := by
  have hp : 2 ^ j ≤ 2 ^ 7 := Nat.pow_le_pow_right (by omega) (by omega)
  have hp0 : 0 < 2 ^ j := Nat.pow_pos (by omega)
  rw [Nat.pow_succ] at h2
  have e : (((2 : Int) ^ j - 1) % 256) = ((2 ^ j - 1 : Nat) : Int) := by
    have : ((2 : Int) ^ j) = ((2 ^ j : Nat) : Int) := by simp
    rw [this]
    omega
  rw [e, u8_and_nat t (2 ^ j - 1) (by omega) (by omega), Nat.and_two_pow_sub_one_eq_mod]
  congr 1
  rw [Nat.mod_eq_sub_mod h1, Nat.mod_eq_of_lt (by omega)]

theorem and1_zero : bits .and .u8 0 1 = 0 := by decide
theorem and1_one : bits .and .u8 1 1 = 1 := by decide

theorem keepF {B : Nat} {w w' : World} (h : Below B w w') {b o : Nat} (hb : b < B) (hf : w.frozen? ⟨b, o, none⟩ = false) : w'.frozen? ⟨b, o, none⟩ = false := (h.frozen (p := ⟨b, o, none⟩) hb).trans hf
theorem keepAF {w : World} (ob : Obj) {b o : Nat} (hb : b < w.heap.size) (hf : w.frozen? ⟨b, o, none⟩ = false) : (w.alloc ob).frozen? ⟨b, o, none⟩ = false := keepF ((Below.refl w.heap.size w).alloc (Nat.le_refl _) ob) hb hf

theorem after2 {w w1 : World} {x0 x1 : Value} {T : TypeId} {o2 : Obj} {row : Option Nat} (h : ((w.alloc (.cells #[x0, x1] T)).alloc o2).grownBy w1 row) (hr : row = some (w.heap.size + 1)) :
    w1.cell? ⟨w.heap.size, 0, none⟩ = some x0 ∧ w1.cell? ⟨w.heap.size, 1, none⟩ = some x1 ∧ w1.frozen? ⟨w.heap.size, 0, none⟩ = false ∧ w1.frozen? ⟨w.heap.size, 1, none⟩ = false ∧ Below w.heap.size w w1 ∧ w.heap.size + 1 < w1.heap.size := by
  subst hr
  have hb : Below (w.heap.size + 1) ((w.alloc (.cells #[x0, x1] T)).alloc o2) w1 :=
    ⟨h.os, h.tape, h.output, h.size, fun k hk => h.block k (by simp; omega) (by simp; omega)⟩
  have f : ∀ j, ((w.alloc (.cells #[x0, x1] T)).alloc o2).frozen? ⟨w.heap.size, j, none⟩ = false := fun j =>
    (((Below.refl (w.alloc (.cells #[x0, x1] T)).heap.size _).alloc (Nat.le_refl _) o2).frozen (p := ⟨w.heap.size, j, none⟩) (by simp)).trans (by simp)
  have hs := h.size
  simp at hs
  refine ⟨keep hb (by omega) (keepA _ (by simp) (by simp)), keep hb (by omega) (keepA _ (by simp) (by simp)), (hb.frozen (p := ⟨w.heap.size, 0, none⟩) (by simp)).trans (f 0), (hb.frozen (p := ⟨w.heap.size, 1, none⟩) (by simp)).trans (f 1), ?_, by omega⟩
  exact (((Below.refl w.heap.size w).alloc (Nat.le_refl _) _).alloc (by simp) _).trans (hb.mono (by omega))

theorem Mine.allocM {w : World} {B U : Nat} {a : Option Addr} {cap : Nat} {zs : List Int} (h : Mine w B U a cap zs) (o : Obj) : Mine (w.alloc o) B U a cap zs := h.below ((Below.refl w.heap.size w).alloc (Nat.le_refl _) o)
theorem Mine.setC {w : World} {B U : Nat} {a : Option Addr} {cap : Nat} {zs : List Int} (h : Mine w B U a cap zs) {p : Addr} (hp : p.block < B) (u : Value) : Mine (w.setCell p u) B U a cap zs :=
  h.only (Only.setCell (Only.refl (fun b => b = p.block) w) (.inl rfl) u) (fun b h1 _ => by omega)

theorem openY_len (zs : List Int) (L b t : Nat) (hL : zs.length = L + 1) : (openY zs L b t).length = (8 * L + b + 7) / 8 ∨ 8 ≤ b := by
  by_cases hb : b = 0
  · left
    rw [openY, if_pos hb, List.length_take, hL, hb]
    omega
  · by_cases h8 : b < 8
    · left
      rw [openY, if_neg hb, List.length_set, hL]
      omega
    · right; omega

theorem okB_open (zs : List Int) (L b t : Nat) (hL : zs.length = L + 1) (h1 : 2 ^ b ≤ t) (h2 : t < 2 ^ (b + 1)) (hb : b < 8) :
    okB ((8 * L + b : Nat) : Int) (openY zs L b t) = decide (8 * L + b ≤ 4096) := by
  have hlen : (openY zs L b t).length = (8 * L + b + 7) / 8 := (openY_len zs L b t hL).resolve_right (by omega)
  by_cases hn : 8 * L + b ≤ 4096
  · rw [decide_eq_true hn]
    by_cases hb0 : b = 0
    · subst hb0
      exact okB_full (by omega) (by omega) (by rw [hlen]; omega) (by omega)
    · rw [okB_last (by omega) (by omega) (by rw [hlen]; omega) (by omega), hlen]
      rw [show (8 * L + b + 7) / 8 - 1 = L from by omega, show (((8 * L + b : Nat) : Int) % 8).toNat = b from by omega]
      have hg : (openY zs L b t).getD L 0 = ((t - 2 ^ b : Nat) : Int) := by
        rw [openY, if_neg hb0]
        simp [hL]
      rw [hg]
      have hz : (t - 2 ^ b) / 2 ^ b = 0 := by
        rw [Nat.pow_succ] at h2
        exact Nat.div_eq_of_lt (by omega)
      have e : (((t - 2 ^ b : Nat) : Int) / 2 ^ b) = (((t - 2 ^ b) / 2 ^ b : Nat) : Int) := by
        have : ((2 : Int) ^ b) = ((2 ^ b : Nat) : Int) := by simp
        rw [this]; rfl
      rw [e, hz]
      rfl
  · rw [decide_eq_false hn]
    exact okB_big (by omega)

end Go.Proofs.YtdhnlbekkicjcaaDoor
