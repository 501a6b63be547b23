/-
  The law on Longest returns true, whatever is handed in, and writes nothing that was there.
-/
import Derived.Test.YtbkmdgceobilkaaLzS
import Derived.Test.YtbkmdgceobilkaaLzT
import Derived.Test.YtbkmdgceobilkaaCopy
import Derived.Test.YtbkmdgceobilkaaEqS
namespace Go.Proofs.Ytbkmdgceobilkaa
open Go.RowKit
set_option linter.unusedVariables false
set_option linter.unusedSimpArgs false

/-- What Longest answers at the place x. -/
def lgR (ys : List Int) (x : Int) : Nat × Nat := if ys.length ≤ 64 ∧ 0 ≤ x ∧ x < ys.length then lzA ys x.toNat else (0, 0)

set_option maxHeartbeats 1000000 in
theorem specLongest_any (a : Option Addr) (c : Nat) (ys : List Int) (x : Int) (w : World) (hb : Byt w a ys) :
    Calls Try.prog 5 #[.slice a ys.length c, .int .i64 x] w fun e w' => e = .returned (.tuple #[.int .i64 (lgR ys x).1, .int .i64 (lgR ys x).2]) ∧ Below w.heap.size w w' := by
  by_cases hc : ys.length ≤ 64 ∧ 0 ≤ x ∧ x < ys.length
  · obtain ⟨h1, h2, h3⟩ := hc
    obtain ⟨p, rfl⟩ := Int.eq_ofNat_of_zero_le h2
    have HR : Hid (lgR ys (p : Int) = lzA ys p) := by unfold Hid lgR; rw [if_pos ⟨h1, h2, h3⟩]; simp
    have HC := l4longest_any a c ys p w hb h1 (by omega)
    have d1 : ¬ (64 : Int) < (ys.length : Int) := by omega
    have d2 : ¬ (p : Int) < 0 := by omega
    have d3 : ¬ (ys.length : Int) ≤ (p : Int) := by omega
    rw [HR.out]
    go_enter Try.func5, Try.ntmps5
    go_wp2_with fail
    refine HC.mono ?_
    clear HC
    rintro e w1 ⟨rfl, hb1⟩
    go_wp2
    go_ret2
    exact ⟨rfl, hb1⟩
  · have HR : Hid (lgR ys x = (0, 0)) := by unfold Hid lgR; rw [if_neg hc]
    rw [HR.out]
    by_cases h1 : (64 : Int) < (ys.length : Int)
    · go_enter Try.func5, Try.ntmps5
      go_wp2
      go_ret2
      exact ⟨rfl, Below.refl _ _⟩
    · by_cases h2 : x < 0
      · go_enter Try.func5, Try.ntmps5
        go_wp2
        go_ret2
        exact ⟨rfl, Below.refl _ _⟩
      · have h3 : (ys.length : Int) ≤ x := by omega
        clear hc
        go_enter Try.func5, Try.ntmps5
        go_wp2
        go_ret2
        exact ⟨rfl, Below.refl _ _⟩
set_option maxHeartbeats 1000000 in
theorem implLongest_any (a : Option Addr) (c : Nat) (ys : List Int) (x : Int) (w : World) (hb : Byt w a ys) (hcap : ys.length ≤ c) :
    Calls Try.prog 7 #[.slice a ys.length c, .int .i64 x] w fun e w' => e = .returned (.tuple #[.int .i64 (lgR ys x).1, .int .i64 (lgR ys x).2]) ∧ Below w.heap.size w w' := by
  by_cases hc : ys.length ≤ 64 ∧ 0 ≤ x ∧ x < ys.length
  · obtain ⟨h1, h2, h3⟩ := hc
    obtain ⟨p, rfl⟩ := Int.eq_ofNat_of_zero_le h2
    have HR : Hid (lgR ys (p : Int) = lzP ys p p) := by unfold Hid lgR; rw [if_pos ⟨h1, h2, h3⟩, lzP_lzA]; simp
    have HC := historyOf_any a c ys w hb h1 hcap
    have HLO : Hid (∀ (R M : Nat) (W : World), Below w.heap.size w W → Hst W R M a ys.length c → LivL W M ys.length (lpl ys ys.length) → Calls Try.prog 17 #[.pointer (some ⟨R, 0, none⟩), .int .i64 p] W fun e w' => e = .returned (.agg #[.int .i64 (lzP ys p p).1, .int .i64 (lzP ys p p).2]) ∧ Below W.heap.size W w') := fun R M W hW hh hl => longest_any R M a c ys p W hh hl (hb.below hW (Nat.le_refl _)) h1 (by omega) hcap
    have d1 : ¬ (64 : Int) < (ys.length : Int) := by omega
    have d2 : ¬ (p : Int) < 0 := by omega
    have d3 : ¬ (ys.length : Int) ≤ (p : Int) := by omega
    rw [HR.out]
    clear hb
    generalize lzP ys p p = r at *
    go_enter Try.func7, Try.ntmps7
    go_wp2_with fail
    refine HC.mono ?_
    clear HC
    rintro e w1 ⟨R, M, rfl, hM, hR, hh, hl, hb1⟩
    have HC2 := HLO.out R M w1 hb1 hh hl
    clear hh hl
    go_wp2_with fail
    refine HC2.mono ?_
    clear HC2
    rintro e w2 ⟨rfl, hb2⟩
    have HB2 : Hid (Below w.heap.size w w2) := hb1.trans (hb2.mono hb1.size)
    clear hb1 hb2
    go_wp2
    have HB3 : Hid (Below w.heap.size w (w2.alloc (Obj.cells #[Value.int IntKind.i64 r.1, Value.int IntKind.i64 r.2] 36))) := HB2.out.alloc HB2.out.size _
    have hn3 := heap_alloc_new w2 (Obj.cells #[Value.int IntKind.i64 r.1, Value.int IntKind.i64 r.2] 36)
    have c0 := blk_cellI (j := 0) hn3 rfl
    have c1 := blk_cellI (j := 1) hn3 rfl
    have hl3 : w2.heap.size < (w2.alloc (Obj.cells #[Value.int IntKind.i64 r.1, Value.int IntKind.i64 r.2] 36)).heap.size := by simp
    clear hn3
    generalize w2.alloc (Obj.cells #[Value.int IntKind.i64 r.1, Value.int IntKind.i64 r.2] 36) = W3 at *
    have HBD : Hid (∀ nq, Below w.heap.size w (W3.drewN nq)) := fun nq => ⟨HB3.out.os, HB3.out.tape, HB3.out.output, HB3.out.size, HB3.out.block⟩
    go_quiet (fail)
    go_wp2
    go_ret2
    exact ⟨rfl, HBD.out _⟩
  · have HR : Hid (lgR ys x = (0, 0)) := by unfold Hid lgR; rw [if_neg hc]
    rw [HR.out]
    by_cases h1 : (64 : Int) < (ys.length : Int)
    · go_enter Try.func7, Try.ntmps7
      go_wp2
      go_ret2
      exact ⟨rfl, Below.refl _ _⟩
    · by_cases h2 : x < 0
      · go_enter Try.func7, Try.ntmps7
        go_wp2
        go_ret2
        exact ⟨rfl, Below.refl _ _⟩
      · have h3 : (ys.length : Int) ≤ x := by omega
        clear hc
        go_enter Try.func7, Try.ntmps7
        go_wp2
        go_ret2
        exact ⟨rfl, Below.refl _ _⟩

set_option maxRecDepth 20000 in
set_option maxHeartbeats 4000000 in
theorem lawLongest_any (a : Option Addr) (cap : Nat) (zs : List Int) (x : Int) (w : World) (hb : Byt w a zs) (hm : zs.length ≤ maxLen) :
    Calls Try.prog 3 #[.slice a zs.length cap, .int .i64 x] w fun e w' => e = .returned (.bool true) ∧ Below w.heap.size w w' := by
  by_cases hn : zs.length ≤ 1048576
  · have HTO : Hid (∀ W, Below w.heap.size w W → Calls Try.prog 6 #[.slice a zs.length cap] W fun e w' =>
        e = .returned (.slice (some ⟨W.heap.size, 0, none⟩) zs.length zs.length) ∧ Own w' W.heap.size W.heap.size zs.length zs ∧ Below W.heap.size W w') := fun W hW => toByteS_any a cap zs W (hb.below hW (Nat.le_refl _)) hn
    have HSP : Hid (∀ (g : Nat) (W : World), Own W g g zs.length zs → Calls Try.prog 5 #[.slice (some ⟨g, 0, none⟩) zs.length zs.length, .int .i64 x] W fun e w' => e = .returned (.tuple #[.int .i64 (lgR zs x).1, .int .i64 (lgR zs x).2]) ∧ Below W.heap.size W w') := fun g W h => specLongest_any _ _ zs x W h.byt
    have HIM : Hid (∀ (g : Nat) (W : World), Own W g g zs.length zs → Calls Try.prog 7 #[.slice (some ⟨g, 0, none⟩) zs.length zs.length, .int .i64 x] W fun e w' => e = .returned (.tuple #[.int .i64 (lgR zs x).1, .int .i64 (lgR zs x).2]) ∧ Below W.heap.size W w') := fun g W h => implLongest_any _ _ zs x W h.byt (Nat.le_refl _)
    have d1 : ¬ (1048576 : Int) < (zs.length : Int) := by omega
    have H1 := HTO.out w (Below.refl _ _)
    clear hb
    generalize lgR zs x = r at *
    go_enter Try.func3, Try.ntmps3
    go_wp2_with fail
    refine H1.mono ?_
    clear H1
    rintro e w1 ⟨rfl, ho1, hb1⟩
    have H2 := HSP.out _ w1 ho1
    clear ho1
    go_wp2_with fail
    refine H2.mono ?_
    clear H2
    rintro e w2 ⟨rfl, hb2⟩
    have HB2 : Hid (Below w.heap.size w w2) := hb1.trans (hb2.mono hb1.size)
    clear hb1 hb2
    have H3 := HTO.out w2 HB2.out
    go_wp2_with fail
    refine H3.mono ?_
    clear H3
    rintro e w3 ⟨rfl, ho3, hb3⟩
    have HB3 : Hid (Below w.heap.size w w3) := HB2.out.trans (hb3.mono HB2.out.size)
    have HO3 : Hid (Own w3 w2.heap.size w2.heap.size zs.length zs) := ho3
    clear hb3 ho3
    have H4 := HIM.out _ w3 HO3.out
    go_wp2_with fail
    refine H4.mono ?_
    clear H4
    rintro e w4 ⟨rfl, hb4⟩
    have HB4 : Hid (Below w.heap.size w w4) := HB3.out.trans (hb4.mono HB3.out.size)
    have HBY4 : Hid (Byt w4 (some ⟨w2.heap.size, 0, none⟩) zs) := HO3.out.byt.below hb4 (Nat.le_refl _)
    clear hb4 HO3
    have H5 := HTO.out w4 HB4.out
    go_wp2_with fail
    refine H5.mono ?_
    clear H5
    rintro e w5 ⟨rfl, ho5, hb5⟩
    have HB5 : Hid (Below w.heap.size w w5) := HB4.out.trans (hb5.mono HB4.out.size)
    have H6 := eqByteS_yes (some ⟨w2.heap.size, 0, none⟩) (some ⟨w4.heap.size, 0, none⟩) zs.length zs.length zs w5 (HBY4.out.below hb5 (Nat.le_refl _)) ho5.byt (by omega)
    clear hb5 ho5
    go_wp2_with fail
    refine H6.mono ?_
    clear H6
    rintro e w6 ⟨rfl, nq, rfl⟩
    have HB6 : Hid (Below w.heap.size w (w5.drewN nq)) := ⟨HB5.out.os, HB5.out.tape, HB5.out.output, HB5.out.size, HB5.out.block⟩
    go_wp2
    go_ret
    exact ⟨rfl, HB6.out⟩
  · have d1 : (1048576 : Int) < (zs.length : Int) := by omega
    go_enter Try.func3, Try.ntmps3
    go_wp2
    go_ret
    exact ⟨rfl, Below.refl _ _⟩
end Go.Proofs.Ytbkmdgceobilkaa
