/-
  Small functions of the program over places: sectorOk, isNowhere, right, has, placeOf.
-/
import Derived.Test.YtnelpioadpdphaaMpM
namespace Go.Proofs.Ytnelpioadpdphaa
open Go.RowKit
set_option linter.unusedVariables false
set_option linter.unusedSimpArgs false

theorem sectorOk_any (x : Int) (w : World) :
    Calls Try.prog 33 #[.int .i64 x] w fun e w' => e = .returned (.bool (decide (2 ≤ x ∧ x ≤ 23))) ∧ w' = w := by
  have key : (2 ≤ x ∧ x < 24) ∨ x < 2 ∨ (2 ≤ x ∧ 24 ≤ x) := by omega
  rcases key with ⟨h1, h2⟩ | h1 | ⟨h1, h2⟩
  · rw [decide_eq_true (show 2 ≤ x ∧ x ≤ 23 by omega)]
    go_enter Try.func33, Try.ntmps33
    go_wp2
    go_ret
    exact ⟨by simp [h1, h2], rfl⟩
  · rw [decide_eq_false (show ¬ (2 ≤ x ∧ x ≤ 23) by omega)]
    go_enter Try.func33, Try.ntmps33
    go_wp2
    go_ret
    exact ⟨rfl, rfl⟩
  · rw [decide_eq_false (show ¬ (2 ≤ x ∧ x ≤ 23) by omega)]
    have h3 : ¬ x < 24 := by omega
    go_enter Try.func33, Try.ntmps33
    go_wp2
    go_ret
    exact ⟨by simp [h3], rfl⟩

set_option maxHeartbeats 800000 in
theorem isNowhere_any (x y : Int) (w : World) :
    Calls Try.prog 29 #[.agg #[.int .i64 x, .int .i64 y]] w fun e w' => e = .returned (.bool (nwh (x, y))) ∧ Below w.heap.size w w' := by
  have key : (x = 0 ∧ y = 0) ∨ (x = 0 ∧ ¬ y = 0) ∨ ¬ x = 0 := by omega
  rcases key with ⟨rfl, rfl⟩ | ⟨rfl, h⟩ | h
  · go_enter Try.func29, Try.ntmps29
    go_wp2
    go_ret
    exact ⟨rfl, (Below.refl _ _).alloc (Nat.le_refl _) _⟩
  · rw [show nwh (0, y) = false from by unfold nwh; simp [h]]
    go_enter Try.func29, Try.ntmps29
    go_wp2
    go_ret
    exact ⟨rfl, (Below.refl _ _).alloc (Nat.le_refl _) _⟩
  · rw [show nwh (x, y) = false from by unfold nwh; simp [h]]
    go_enter Try.func29, Try.ntmps29
    go_wp2
    go_ret
    exact ⟨rfl, (Below.refl _ _).alloc (Nat.le_refl _) _⟩

set_option maxHeartbeats 800000 in
theorem right_any (x y : Int) (w : World) :
    Calls Try.prog 30 #[.agg #[.int .i64 x, .int .i64 y]] w fun e w' => e = .returned (.bool (rgt (x, y))) ∧ Below w.heap.size w w' := by
  have hw : Below w.heap.size w (w.alloc (Obj.cells #[Value.int IntKind.i64 x, Value.int IntKind.i64 y] 49)) := (Below.refl _ _).alloc (Nat.le_refl _) _
  have key : (2 ≤ x ∧ x ≤ 23) ∨ ¬ (2 ≤ x ∧ x ≤ 23) := by omega
  rcases key with h | h
  · have kk : (0 ≤ y ∧ y < 16) ∨ ¬ (0 ≤ y) ∨ (0 ≤ y ∧ ¬ y < 16) := by omega
    rcases kk with ⟨h1, h2⟩ | h1 | ⟨h1, h2⟩
    · rw [show rgt (x, y) = true from decide_eq_true ⟨h.1, h.2, h1, by simp only; omega⟩]
      go_enter Try.func30, Try.ntmps30
      go_wp2_with fail
      refine (sectorOk_any x _).mono ?_
      rintro e w1 ⟨rfl, rfl⟩
      rw [decide_eq_true h]
      go_wp2
      go_ret
      exact ⟨by simp [h1, h2], hw⟩
    · rw [show rgt (x, y) = false from decide_eq_false (fun hh => h1 hh.2.2.1)]
      go_enter Try.func30, Try.ntmps30
      go_wp2_with fail
      refine (sectorOk_any x _).mono ?_
      rintro e w1 ⟨rfl, rfl⟩
      rw [decide_eq_true h]
      go_wp2
      go_ret
      exact ⟨by simp [h1], hw⟩
    · rw [show rgt (x, y) = false from decide_eq_false (fun hh => h2 (by have := hh.2.2.2; simp only at this; omega))]
      go_enter Try.func30, Try.ntmps30
      go_wp2_with fail
      refine (sectorOk_any x _).mono ?_
      rintro e w1 ⟨rfl, rfl⟩
      rw [decide_eq_true h]
      go_wp2
      go_ret
      exact ⟨by simp [h1, h2], hw⟩
  · rw [show rgt (x, y) = false from decide_eq_false (fun hh => h ⟨hh.1, hh.2.1⟩)]
    go_enter Try.func30, Try.ntmps30
    go_wp2_with fail
    refine (sectorOk_any x _).mono ?_
    rintro e w1 ⟨rfl, rfl⟩
    rw [decide_eq_false h]
    go_wp2
    go_ret
    exact ⟨rfl, hw⟩

theorem hasP_any (a : Option Addr) (n c : Nat) (x : Int) (w : World) (hn : n ≤ 1048576) :
    Calls Try.prog 32 #[.slice a n c, .int .i64 x] w fun e w' => e = .returned (.bool (decide (0 ≤ x ∧ x < n))) ∧ w' = w := by
  have key : (0 ≤ x ∧ x < n) ∨ ¬ 0 ≤ x ∨ (0 ≤ x ∧ ¬ x < n) := by omega
  rcases key with ⟨h1, h2⟩ | h1 | ⟨h1, h2⟩
  · rw [decide_eq_true ⟨h1, h2⟩]
    go_enter Try.func32, Try.ntmps32
    go_wp2
    go_ret
    exact ⟨by simp [h1, h2], rfl⟩
  · rw [decide_eq_false (fun hh => h1 hh.1)]
    go_enter Try.func32, Try.ntmps32
    go_wp2
    go_ret
    exact ⟨by simp [h1], rfl⟩
  · rw [decide_eq_false (fun hh => h2 hh.2)]
    go_enter Try.func32, Try.ntmps32
    go_wp2
    go_ret
    exact ⟨by simp [h1, h2], rfl⟩

/-- The place of an address; nowhere for who is none. -/
def plcO (ps : List (Int × Int)) (x : Int) : Int × Int := if 0 ≤ x ∧ x < ps.length then ps.getD x.toNat dp else dp

set_option maxHeartbeats 800000 in
theorem placeOf_any (a : Option Addr) (c : Nat) (ps : List (Int × Int)) (x : Int) (w : World) (hb : Pls w a ps) (hn : ps.length ≤ 1048576) :
    Calls Try.prog 28 #[.slice a ps.length c, .int .i64 x] w fun e w' => e = .returned (.agg #[.int .i64 (plcO ps x).1, .int .i64 (plcO ps x).2]) ∧ Below w.heap.size w w' := by
  have hw : Below w.heap.size w (w.alloc (Obj.cells #[Value.int IntKind.i64 0, Value.int IntKind.i64 0] 49)) := (Below.refl _ _).alloc (Nat.le_refl _) _
  by_cases h : 0 ≤ x ∧ x < ps.length
  · obtain ⟨k, rfl⟩ := Int.eq_ofNat_of_zero_le h.1
    have hk : k < ps.length := by omega
    have he : plcO ps (k : Nat) = ps.getD k dp := by unfold plcO; rw [if_pos h, Int.toNat_natCast]
    rw [he]
    obtain ⟨b, off, rfl, hb1, hc1⟩ := (hb.alloc (Obj.cells #[Value.int IntKind.i64 0, Value.int IntKind.i64 0] 49)).len_pos k hk
    obtain ⟨c0, c1⟩ := hc1 k hk
    have hbw : b < w.heap.size := by
      obtain ⟨b', off', e, hb', _⟩ := hb.2 (by omega)
      simp at e
      omega
    clear hc1 he hb
    generalize ps.getD k dp = p at *
    generalize ps.length = n at *
    obtain ⟨x, y⟩ := p
    simp only at c0 c1 ⊢
    go_enter Try.func28, Try.ntmps28
    go_wp2_with fail
    refine (hasP_any _ n c k _ hn).mono ?_
    rintro e w1 ⟨rfl, rfl⟩
    rw [decide_eq_true h]
    go_wp2
    refine bodyPost_ret (v := .agg #[.int .i64 x, .int .i64 y]) (by simp [results, Try.results28, go_sem]) rfl ⟨rfl, ?_⟩
    repeat (refine Below.setCell ?_ (by first | (simp; done) | (simp; omega)) _)
    first | exact hw | exact (Below.refl _ _).alloc (Nat.le_refl _) _
  · have he : plcO ps x = dp := by unfold plcO; rw [if_neg h]
    rw [he]
    clear he hb
    go_enter Try.func28, Try.ntmps28
    go_wp2_with fail
    refine (hasP_any a ps.length c x _ hn).mono ?_
    rintro e w1 ⟨rfl, rfl⟩
    rw [decide_eq_false h]
    go_wp2
    refine bodyPost_ret (v := .agg #[.int .i64 0, .int .i64 0]) (by simp [results, Try.results28, go_sem]) rfl ⟨rfl, ?_⟩
    repeat (refine Below.setCell ?_ (by first | (simp; done) | (simp; omega)) _)
    first | exact hw | exact (Below.refl _ _).alloc (Nat.le_refl _) _
theorem plcO_in (ps : List (Int × Int)) (k : Nat) (h : k < ps.length) : plcO ps k = ps.getD k dp := by unfold plcO; rw [if_pos (by omega), Int.toNat_natCast]
theorem plcO_out (ps : List (Int × Int)) (x : Int) (h : ¬ (0 ≤ x ∧ x < ps.length)) : plcO ps x = dp := by unfold plcO; rw [if_neg h]
theorem plcO_rng {ps : List (Int × Int)} (h : ∀ p ∈ ps, rP p) (x : Int) : rP (plcO ps x) := by
  unfold plcO
  split
  · rename_i hx
    exact h _ (getD_memP (by omega))
  · exact rP_dp
end Go.Proofs.Ytnelpioadpdphaa
