/-
  What the program's put refuses.
-/
import Derived.Test.YtdhnlbekkicjcaaDoorPut4
namespace Go.Proofs.YtdhnlbekkicjcaaDoor
open Go.RowKit
set_option linter.unusedVariables false

set_option maxHeartbeats 1600000 in
theorem wput_no (R : Nat) (v : Value) (n : Nat) (x width room : Int) (w : World) (hR : w.heap[R]? = some (.cells #[v, .int .i64 n, .int .i64 room] 65 (0, 0))) (hn : n ≤ 4104) (hr0 : 0 ≤ room) (hroom : room ≤ 5000)
    (s0 : Sent w 0) (s1 : Sent w 1) (h : ¬ (0 ≤ width ∧ width ≤ 30 ∧ 0 ≤ x ∧ x < 2 ^ width.toNat ∧ width ≤ room - n)) :
    Calls Tryd.prog 44 #[.pointer (some ⟨R, 0, none⟩), .int .i64 x, .int .i64 width] w fun e w' => (∃ T y, e = .returned (.iface T y)) ∧ ∃ m, w' = w.drewN m := by
  obtain ⟨T0, x0, g0⟩ := s0
  obtain ⟨T1, x1, g1⟩ := s1
  have c1 : w.cell? ⟨R, 1, none⟩ = some (.int .i64 n) := cellR (j := 1) hR rfl
  have c2 : w.cell? ⟨R, 2, none⟩ = some (.int .i64 room) := cellR (j := 2) hR rfl
  have key : (width < 0 ∨ 30 < width) ∨ (0 ≤ width ∧ width ≤ 30 ∧ x < 0) ∨ (0 ≤ width ∧ width ≤ 30 ∧ 0 ≤ x ∧ wrap64 (2 ^ width.toNat) ≤ x) ∨ (0 ≤ width ∧ width ≤ 30 ∧ 0 ≤ x ∧ x < wrap64 (2 ^ width.toNat) ∧ room - n < width) := by
    by_cases c1 : 0 ≤ width
    · by_cases c2 : width ≤ 30
      · rw [wrap_pow _ (by omega)]
        by_cases c3 : 0 ≤ x
        · by_cases c4 : x < 2 ^ width.toNat
          · have c5 : ¬ width ≤ room - n := fun h' => h ⟨c1, c2, c3, c4, h'⟩
            exact .inr (.inr (.inr ⟨c1, c2, c3, c4, by omega⟩))
          · exact .inr (.inr (.inl ⟨c1, c2, c3, Int.not_lt.1 c4⟩))
        · exact .inr (.inl ⟨c1, c2, by omega⟩)
      · exact .inl (.inr (by omega))
    · exact .inl (.inl (by omega))
  clear h hR
  rcases key with hh | ⟨k1, k2, k3⟩ | ⟨k1, k2, k3, k4⟩ | ⟨k1, k2, k3, k4, k5⟩
  · have hd : Hid (decide (0 ≤ width ∧ width ≤ 30) = false) := by simp [Hid]; omega
    go_enter Tryd.func44, Tryd.ntmps44
    go_wp2_with fail
    refine (widthOk_any width _).mono ?_
    rintro e w1 ⟨rfl, rfl⟩
    rw [hd.out]
    go_wp2
    go_ret
    exact ⟨⟨_, _, rfl⟩, 0, rfl⟩
  · have hd : Hid (decide (0 ≤ width ∧ width ≤ 30) = true) := by simp [Hid]; omega
    go_enter Tryd.func44, Tryd.ntmps44
    go_wp2_with fail
    refine (widthOk_any width _).mono ?_
    rintro e w1 ⟨rfl, rfl⟩
    rw [hd.out]
    go_wp2
    go_ret
    exact ⟨⟨_, _, rfl⟩, 0, rfl⟩
  · have hd : Hid (decide (0 ≤ width ∧ width ≤ 30) = true) := by simp [Hid]; omega
    go_enter Tryd.func44, Tryd.ntmps44
    go_wp2_with fail
    refine (widthOk_any width _).mono ?_
    rintro e w1 ⟨rfl, rfl⟩
    rw [hd.out]
    go_wp2
    go_ret
    exact ⟨⟨_, _, rfl⟩, 0, rfl⟩
  · have hd : Hid (decide (0 ≤ width ∧ width ≤ 30) = true) := by simp [Hid]; omega
    go_enter Tryd.func44, Tryd.ntmps44
    go_wp2_with fail
    refine (widthOk_any width _).mono ?_
    rintro e w1 ⟨rfl, rfl⟩
    rw [hd.out]
    go_wp2
    go_quiet (fail)
    go_wp2
    go_ret
    exact ⟨⟨_, _, rfl⟩, _, rfl⟩

end Go.Proofs.YtdhnlbekkicjcaaDoor
