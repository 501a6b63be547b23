/-
  What writing marks into a row of bytes does, and that they are found again.
-/
import Derived.Test.YtbkmdgceobilkaaMkB
import Derived.Test.YtbkmdgceobilkaaOnly
namespace Go.Proofs.Ytbkmdgceobilkaa
open Go.RowKit
set_option linter.unusedVariables false

set_option maxHeartbeats 400000 in
theorem heldByteS_any (a : Option Addr) (cap n : Nat) (k : Int) (w : World) (h : Byt w a (marks k n)) (hn : n ≤ 2097152) (h0 : 0 ≤ k) (h1 : k ≤ 2097152) :
    Calls Try.prog 22 #[.slice a n cap, .int .i64 k] w fun e w' => e = .returned (.int .i64 (k + n)) ∧ w' = w := by
  have hl := marks_len k n
  have HB : Hid (Byt w a (marks k n)) := h
  clear h
  go_enter Try.func22, Try.ntmps22
  go_wp2
  go_loop [1, 5] (fun q i => ∃ j : Nat, j ≤ n ∧ i = .int .i64 j ∧ q = .int .i64 (k + j)) (fun _ i => n - (intOf i).toNat)
  case atStart => exact ⟨0, Nat.zero_le _, rfl, by simp⟩
  case round =>
    obtain ⟨j, hj, rfl, rfl⟩ := hrel
    by_cases hlt : j < n
    · obtain ⟨b, off, rfl, hbl, hc⟩ := HB.out.len_pos j (by rw [hl]; exact hlt)
      have hs := hc j (by rw [hl]; exact hlt)
      rw [marks_get k n j hlt] at hs
      have hq : ((k + j) % 256 != (k + j) % 256) = false := by simp
      clear hc hl
      go_wp2
      go_round
      case rel => exact ⟨j + 1, by omega, by go_num, by go_num⟩
      case measure => simp [intOf]; omega
    · have hjn : j = n := by omega
      subst hjn
      go_wp2
      go_ret
      exact ⟨rfl, rfl⟩
end Go.Proofs.Ytbkmdgceobilkaa
