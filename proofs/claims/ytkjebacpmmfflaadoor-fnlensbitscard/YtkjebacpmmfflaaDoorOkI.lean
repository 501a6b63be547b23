/-
  What BitsOk answers, in the program: the same.
-/
import Derived.Test.YtkjebacpmmfflaaDoorIBase
import Derived.Test.YtkjebacpmmfflaaDoorPut3
namespace Go.Proofs.YtkjebacpmmfflaaDoor
open Go.RowKit
set_option linter.unusedVariables false

set_option maxHeartbeats 400000 in
theorem bytesFor_any (n : Int) (w : World) (h0 : 0 ≤ n) (h1 : n ≤ 4103) :
    Calls Tryd.prog 64 #[.int .i64 n] w fun e w' => e = .returned (.int .i64 ((n + 7) / 8)) ∧ w' = w := by
  go_enter Tryd.func64, Tryd.ntmps64
  go_wp2
  go_ret
  exact ⟨rfl, rfl⟩

set_option maxHeartbeats 400000 in
theorem implOk_any (a : Option Addr) (cap : Nat) (zs : List Int) (N : Int) (w : World) (hb : Byt w a zs) (hn : zs.length ≤ 281474976710656) :
    Calls Tryd.prog 44 #[.agg #[.slice a zs.length cap, .int .i64 N]] w fun e w' => e = .returned (.bool (okB N zs)) ∧ Below w.heap.size w w' := by
  have hw : Below w.heap.size w (w.alloc (Obj.cells #[Value.slice a zs.length cap, Value.int IntKind.i64 N] 36)) := (Below.refl _ _).alloc (Nat.le_refl _) _
  by_cases h0 : N < 0
  · have hE : okB N zs = false := okB_neg h0
    have hd0 : decide (N < 0) = true := by simpa using h0
    rw [hE]
    clear hE
    go_enter Tryd.func44, Tryd.ntmps44
    go_wp2
    go_quiet ((go_at_call 64; exact Calls.quiet_of_same (bytesFor_any _ _ (by omega) (by omega))))
    go_wp2
    go_ret
    exact ⟨rfl, below_drewN hw _⟩
  · have hd0 : decide (N < 0) = false := by simpa using h0
    by_cases h1 : 4096 < N
    · have hE : okB N zs = false := okB_big h1
      have hd1 : decide (4096 < N) = true := by simpa using h1
      rw [hE]
      clear hE
      go_enter Tryd.func44, Tryd.ntmps44
      go_wp2
      go_quiet ((go_at_call 64; exact Calls.quiet_of_same (bytesFor_any _ _ (by omega) (by omega))))
      go_wp2
      go_ret
      exact ⟨rfl, below_drewN hw _⟩
    · have hd1 : decide (4096 < N) = false := by simpa using h1
      by_cases h2 : (zs.length : Int) = (N + 7) / 8
      · generalize hlz : zs.length = n at *
        have HL : Hid (zs.length = n) := hlz
        clear hlz
        have h2' : ((n : Int) != (N + 7) / 8) = false := by simpa using h2
        have H2 : Hid ((n : Int) = (N + 7) / 8) := h2
        clear h2
        by_cases h3 : N % 8 = 0
        · have hE : okB N zs = true := okB_full (by omega) (by omega) (by rw [HL.out]; exact H2.out) h3
          have h3' : (N % 8 == 0) = true := by simpa using h3
          rw [hE]
          clear hE h3
          go_enter Tryd.func44, Tryd.ntmps44
          go_wp2
          go_quiet ((go_at_call 64; exact Calls.quiet_of_same (bytesFor_any _ _ (by omega) (by omega))))
          go_wp2
          go_ret
          exact ⟨rfl, below_drewN hw _⟩
        · have hn1 : 1 ≤ n := by have := H2.out; omega
          have h3' : (N % 8 == 0) = false := by simpa using h3
          obtain ⟨b, off, rfl, hbl, hc⟩ := hb.len_pos (n - 1) (by rw [HL.out]; omega)
          have hlast := hc (n - 1) (by rw [HL.out]; omega)
          have hr := getD_rng hb.1 (n - 1)
          have hE : okB N zs = (zs.getD (n - 1) 0 / 2 ^ (N % 8).toNat == 0) := by
            rw [okB_last (by omega) (by omega) (by rw [HL.out]; exact H2.out) h3, HL.out]
          rw [hE]
          clear hE
          generalize zs.getD (n - 1) 0 = z at *
          go_enter Tryd.func44, Tryd.ntmps44
          go_wp2
          go_quiet ((go_at_call 64; exact Calls.quiet_of_same (bytesFor_any _ _ (by omega) (by omega))))
          go_wp2
          go_ret
          exact ⟨rfl, below_drewN hw _⟩
      · have hE : okB N zs = false := okB_len h2
        have h2' : ((zs.length : Int) != (N + 7) / 8) = true := by rw [bne_iff_ne]; exact h2
        rw [hE]
        clear hE h2
        go_enter Tryd.func44, Tryd.ntmps44
        go_wp2
        go_quiet ((go_at_call 64; exact Calls.quiet_of_same (bytesFor_any _ _ (by omega) (by omega))))
        go_wp2
        go_ret
        exact ⟨rfl, below_drewN hw _⟩

end Go.Proofs.YtkjebacpmmfflaaDoor
