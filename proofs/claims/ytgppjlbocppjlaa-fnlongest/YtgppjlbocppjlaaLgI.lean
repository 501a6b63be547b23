/-
  Longest of the program, at any place.
-/
import Derived.Test.YtgppjlbocppjlaaLzT
namespace Go.Proofs.Ytgppjlbocppjlaa
open Go.RowKit
set_option linter.unusedVariables false
set_option linter.unusedSimpArgs false

/-- What Longest answers at the place x. -/
def lgR (ys : List Int) (x : Int) : Nat × Nat := if ys.length ≤ 64 ∧ 0 ≤ x ∧ x < ys.length then lzA ys x.toNat else (0, 0)

set_option maxHeartbeats 1000000 in
theorem implLongest_any (a : Option Addr) (c : Nat) (ys : List Int) (x : Int) (w : World) (hb : Byt w a ys) (hcap : ys.length ≤ c) :
    Calls Try.prog 5 #[.slice a ys.length c, .int .i64 x] w fun e w' => e = .returned (.tuple #[.int .i64 (lgR ys x).1, .int .i64 (lgR ys x).2]) ∧ Below w.heap.size w w' := by
  by_cases hc : ys.length ≤ 64 ∧ 0 ≤ x ∧ x < ys.length
  · obtain ⟨h1, h2, h3⟩ := hc
    obtain ⟨p, rfl⟩ := Int.eq_ofNat_of_zero_le h2
    have HR : Hid (lgR ys (p : Int) = lzP ys p p) := by unfold Hid lgR; rw [if_pos ⟨h1, h2, h3⟩, lzP_lzA]; simp
    have HC := historyOf_any a c ys w hb h1 hcap
    have HLO : Hid (∀ (R M : Nat) (W : World), Below w.heap.size w W → Hst W R M a ys.length c → LivL W M ys.length (lpl ys ys.length) → Calls Try.prog 11 #[.pointer (some ⟨R, 0, none⟩), .int .i64 p] W fun e w' => e = .returned (.agg #[.int .i64 (lzP ys p p).1, .int .i64 (lzP ys p p).2]) ∧ Below W.heap.size W w') := fun R M W hW hh hl => longest_any R M a c ys p W hh hl (hb.below hW (Nat.le_refl _)) h1 (by omega) hcap
    have d1 : ¬ (64 : Int) < (ys.length : Int) := by omega
    have d2 : ¬ (p : Int) < 0 := by omega
    have d3 : ¬ (ys.length : Int) ≤ (p : Int) := by omega
    rw [HR.out]
    clear hb
    generalize lzP ys p p = r at *
    go_enter Try.func5, Try.ntmps5
    go_wp2_with fail
    refine HC.mono ?_
    clear HC
    rintro e w1 ⟨R, M, rfl, hM, hR, hh, hl, hb1⟩
    have HC2 := HLO.out R M w1 hb1 hh hl
    clear hh hl
    go_wp2_with fail
    refine HC2.mono ?_
    clear HC2
    rintro e w2 ⟨rfl, hb2⟩
    have HB2 : Hid (Below w.heap.size w w2) := hb1.trans (hb2.mono hb1.size)
    clear hb1 hb2
    go_wp2
    have HB3 : Hid (Below w.heap.size w (w2.alloc (Obj.cells #[Value.int IntKind.i64 r.1, Value.int IntKind.i64 r.2] 35))) := HB2.out.alloc HB2.out.size _
    have hn3 := heap_alloc_new w2 (Obj.cells #[Value.int IntKind.i64 r.1, Value.int IntKind.i64 r.2] 35)
    have c0 := blk_cellI (j := 0) hn3 rfl
    have c1 := blk_cellI (j := 1) hn3 rfl
    have hl3 : w2.heap.size < (w2.alloc (Obj.cells #[Value.int IntKind.i64 r.1, Value.int IntKind.i64 r.2] 35)).heap.size := by simp
    clear hn3
    generalize w2.alloc (Obj.cells #[Value.int IntKind.i64 r.1, Value.int IntKind.i64 r.2] 35) = W3 at *
    have HBD : Hid (∀ nq, Below w.heap.size w (W3.drewN nq)) := fun nq => ⟨HB3.out.os, HB3.out.tape, HB3.out.output, HB3.out.size, HB3.out.block⟩
    go_quiet (fail)
    go_wp2
    go_ret2
    exact ⟨rfl, HBD.out _⟩
  · have HR : Hid (lgR ys x = (0, 0)) := by unfold Hid lgR; rw [if_neg hc]
    rw [HR.out]
    by_cases h1 : (64 : Int) < (ys.length : Int)
    · go_enter Try.func5, Try.ntmps5
      go_wp2
      go_ret2
      exact ⟨rfl, Below.refl _ _⟩
    · by_cases h2 : x < 0
      · go_enter Try.func5, Try.ntmps5
        go_wp2
        go_ret2
        exact ⟨rfl, Below.refl _ _⟩
      · have h3 : (ys.length : Int) ≤ x := by omega
        clear hc
        go_enter Try.func5, Try.ntmps5
        go_wp2
        go_ret2
        exact ⟨rfl, Below.refl _ _⟩
end Go.Proofs.Ytgppjlbocppjlaa
