/-
  MapNew of the program.
-/
import Derived.Test.YtnelpioadpdphaaPlP
namespace Go.Proofs.Ytnelpioadpdphaa
open Go.RowKit
set_option linter.unusedVariables false

/-- How many places MapNew makes, and whether it does. -/
def nwN (n : Int) : Nat := if 1 ≤ n ∧ n ≤ 16 then n.toNat else 0
def nwB (n : Int) : Bool := decide (1 ≤ n ∧ n ≤ 16)
theorem nwN_le (n : Int) : nwN n ≤ 16 := by
  unfold nwN
  split <;> omega
theorem nwN_yes (n : Nat) (h : 1 ≤ n) (h2 : n ≤ 16) : nwN n = n ∧ nwB n = true := by
  unfold nwN nwB
  rw [if_pos (by omega), decide_eq_true (by omega)]
  exact ⟨by omega, rfl⟩
theorem nwN_no (n : Int) (h : ¬ (1 ≤ n ∧ n ≤ 16)) : nwN n = 0 ∧ nwB n = false := by
  unfold nwN nwB
  rw [if_neg h, decide_eq_false h]
  exact ⟨rfl, rfl⟩

set_option maxHeartbeats 1000000 in
theorem implMapNew_any (n : Int) (w : World) :
    Calls Try.prog 11 #[.int .i64 n] w fun e w' => (∃ a c, e = .returned (.tuple #[.agg #[.slice a (nwN n) c], .bool (nwB n)]) ∧ MinP w' w.heap.size w'.heap.size a c (List.replicate (nwN n) dp)) ∧ Below w.heap.size w w' := by
  by_cases h : 1 ≤ n ∧ n ≤ 16
  · obtain ⟨m, rfl⟩ := Int.eq_ofNat_of_zero_le (show 0 ≤ n by omega)
    have h1 : 1 ≤ m := by omega
    have h2 : m ≤ 16 := by omega
    rw [(nwN_yes m h1 h2).1, (nwN_yes m h1 h2).2]
    clear h
    obtain ⟨i0, hi, hz0, hz1, hz2⟩ := info_parts Try.infoPl
    go_enter Try.func11, Try.ntmps11
    have HW : Hid (Below w.heap.size w (w.alloc (Obj.cells #[Value.slice none 0 0] 25)) ∧ (w.alloc (Obj.cells #[Value.slice none 0 0] 25)).heap.size = w.heap.size + 1) := ⟨(Below.refl _ _).alloc (Nat.le_refl _) _, by simp⟩
    go_wp2_with (at_make; refine wpList_make_full _ rfl _ _ 23 rfl (w.alloc (Obj.cells #[Value.slice none 0 0] 25)).heap.size 49 i0 (.agg #[.int .i64 0, .int .i64 0]) 2 Try.underlying23 hi hz0 hz1 .i64 .i64 _ _ m rfl rfl rfl rfl (by rw [hz2]; omega) (by unfold maxLen; omega) (Nat.le_refl _) ?_; intro w1 hown hgrow; have hbw : Below (w.alloc (Obj.cells #[Value.slice none 0 0] 25)).heap.size (w.alloc (Obj.cells #[Value.slice none 0 0] 25)) w1 := (Below.refl _ _).grown hgrow (Nat.le_refl _) (by intro k hk; cases hk); have x0 : w1.cell? ⟨w.heap.size, 0, none⟩ = some (.slice none 0 0) := keep hbw (by simp) (by simp); have x1 : w1.frozen? ⟨w.heap.size, 0, none⟩ = false := ((hbw.frozen (p := ⟨w.heap.size, 0, none⟩) (by simp)).trans (by simp)))
    have hmade := OwP.made hown
    have HM : Hid (OwP (w1.setCell ⟨w.heap.size, 0, none⟩ (.slice (some ⟨w.heap.size + 1, 0, none⟩) m m)) w.heap.size (w.heap.size + 1) m (List.replicate m dp)) := by
      have := hmade
      rw [HW.out.2] at this
      exact OVp.weak (this.other (by simp) _) (by omega)
    have HB : Hid (Below w.heap.size w (w1.setCell ⟨w.heap.size, 0, none⟩ (.slice (some ⟨w.heap.size + 1, 0, none⟩) m m))) := (HW.out.1.trans (hbw.mono HW.out.1.size)).setCell (p := ⟨w.heap.size, 0, none⟩) (Nat.le_refl _) _
    clear hown hgrow hmade hbw
    exact bodyPost_ret (v := .tuple #[.agg #[.slice (some ⟨w.heap.size + 1, 0, none⟩) m m], .bool true]) (by simp [results, Try.results11, go_sem, x0]) rfl ⟨⟨_, _, rfl, .inr ⟨_, rfl, HM.out.lt.1, HM.out.lt.2, HM.out⟩⟩, HB.out⟩
  · rw [(nwN_no n h).1, (nwN_no n h).2]
    have key : n < 1 ∨ (1 ≤ n ∧ 16 < n) := by omega
    have HW : Hid (Below w.heap.size w (w.alloc (Obj.cells #[Value.slice none 0 0] 25))) := (Below.refl _ _).alloc (Nat.le_refl _) _
    clear h
    rcases key with h | ⟨h, h2⟩
    all_goals
      go_enter Try.func11, Try.ntmps11
      go_wp2
      exact bodyPost_ret (v := .tuple #[.agg #[.slice none 0 0], .bool false]) (by simp [results, Try.results11, go_sem]) rfl ⟨⟨_, _, rfl, .inl ⟨rfl, rfl, rfl⟩⟩, HW.out⟩
end Go.Proofs.Ytnelpioadpdphaa
