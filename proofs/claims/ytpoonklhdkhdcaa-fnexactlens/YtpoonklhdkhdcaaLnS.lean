/-
  Lens of the model: right arguments and others. (Typed by wip/mklns.py.)
-/
import Derived.Test.YtpoonklhdkhdcaaISome
import Derived.Test.YtpoonklhdkhdcaaICnt
import Derived.Test.YtpoonklhdkhdcaaEkL
namespace Go.Proofs.Ytpoonklhdkhdcaa
open Go.RowKit
set_option linter.unusedVariables false
set_option linter.unusedSimpArgs false

theorem coins_sum (zs : List Int) : ∀ k, k ≤ zs.length → sumF one (zs.take k) = ((coinsL zs k).length : Nat)
  | 0, _ => by simp [sumF, coinsL]
  | k + 1, h => by
    rw [sumF_succ one zs k (by omega), coins_sum zs k (by omega)]
    simp only [coinsL, one]
    split <;> simp
theorem some_len (zs : List Int) : sumF one zs = ((coinsS zs).length : Nat) := by
  rw [coinsS_len, ← coins_sum zs zs.length (Nat.le_refl _), List.take_length]
theorem cntB_len80 {zs : List Int} (h : cntB zs = true) : zs.length ≤ 80 := by
  simp only [cntB, decide_eq_true_eq] at h
  exact h.2.1
theorem below_dL {B : Nat} {a b : World} (h : Below B a b) (n : Nat) : Below B a (b.drewN n) := ⟨h.os, h.tape, h.output, h.size, h.block⟩

set_option maxRecDepth 20000 in
set_option maxHeartbeats 4000000 in
theorem specLens_no (a : Option Addr) (cap : Nat) (cs : List Int) (x : Int) (w : World) (hb : Ins w a cs) (hn : cs.length ≤ 281474976710656) (hno : ¬ lensOkB cs x) :
    Calls Try.prog 4 #[.slice a cs.length cap, .int .i64 x] w fun e w' => e = .returned (.tuple #[.slice none 0 0, .bool false]) ∧ Below w.heap.size w w' := by
  have HT : Hid (∀ W, Below w.heap.size w W → Calls Try.prog 10 #[.slice a cs.length cap] W fun e w' => e = .returned (.bool (cntB cs)) ∧ Below w.heap.size w w') := fun W hW => (specCnt_any a cap cs W (hb.below hW (Nat.le_refl _)) hn).mono (by rintro e w' ⟨h1, n, rfl⟩; exact ⟨h1, below_dL hW n⟩)
  by_cases hc : cntB cs = true
  · have hn2 := cntB_len80 hc
    have HSM : Hid (∀ W, Below w.heap.size w W → Calls Try.prog 11 #[.slice a cs.length cap] W fun e w' => e = .returned (.int .i64 (sumF one cs)) ∧ Below w.heap.size w w') := fun W hW => (l2some_any a cap cs W (hb.below hW (Nat.le_refl _)) hn2).mono (by rintro e w' ⟨h1, rfl⟩; exact ⟨h1, hW⟩)
    rw [some_len] at HSM
    have HNO : ¬ lensOkB cs x := hno
    rw [hc] at HT
    unfold lensOkB at HNO
    obtain ⟨S, hS⟩ : ∃ S, S = (coinsS cs).length := ⟨_, rfl⟩
    rw [← hS] at HSM HNO
    have hNO : ¬ (1 ≤ x ∧ x ≤ 12 ∧ 1 ≤ S ∧ S ≤ 2 ^ x.toNat) := fun h => HNO ⟨hc, h⟩
    clear hc hno hS HNO
    by_cases h1 : x < 1
    · have d1 : decide (x < 1) = true := by simp [h1]
      clear hNO
      go_enter Try.func4, Try.ntmps4
      go_wp2_with fail
      refine wp_region_cut (S := fun W => Below w.heap.size w W) 23 (by kernel_rfl) (by kernel_rfl) (by exact (Below.refl w.heap.size w).drew) (fun hHeld => ?_)
      refine tk 0 (v := ?_) ?_ ?_
      rotate_left 1
      · (intro w hSw; (try dsimp only at hSw); go_simp; try (with_reducible rfl))
      try simp only [tkS]
      refine wpAnyH_ready (rs := [1]) (by kernel_rfl) (by simp) ?_
      refine AllReadyH.cons rfl (fun K hK => ?_) AllReadyH.nil
      go_simp
      refine (HT.out _ (by exact hHeld)).mono ?_
      rintro e v1 ⟨rfl, hb1⟩
      refine hK.out _ _ (by exact hb1) (fun hHeld1 => ?_)
      clear hK K
      try simp only [tkS]
      refine tk 2 (v := ?_) ?_ ?_
      rotate_left 1
      · (intro w hSw; (try dsimp only at hSw); go_simp; try (with_reducible rfl))
      try simp only [tkS]
      refine tk 3 (v := ?_) ?_ ?_
      rotate_left 1
      · (intro w hSw; (try dsimp only at hSw); go_simp; try (with_reducible rfl))
      try simp only [tkS]
      refine tk 4 (v := ?_) ?_ ?_
      rotate_left 1
      · (intro w hSw; (try dsimp only at hSw); go_simp; try (with_reducible rfl))
      try simp only [tkS]
      refine tk 5 (v := ?_) ?_ ?_
      rotate_left 1
      · (intro w hSw; (try dsimp only at hSw); go_simp; try (with_reducible rfl))
      try simp only [tkS]
      refine tk 6 (v := ?_) ?_ ?_
      rotate_left 1
      · (intro w hSw; (try dsimp only at hSw); go_simp; try (with_reducible rfl))
      try simp only [tkS]
      refine tk 7 (v := ?_) ?_ ?_
      rotate_left 1
      · (intro w hSw; (try dsimp only at hSw); go_simp; try (with_reducible rfl))
      try simp only [tkS]
      refine tu 8 ?_
      try simp only [tkS]
      refine tu 9 ?_
      try simp only [tkS]
      refine tk 10 (v := ?_) ?_ ?_
      rotate_left 1
      · (intro w hSw; (try dsimp only at hSw); go_simp; try (with_reducible rfl))
      try simp only [tkS]
      refine tk 11 (v := ?_) ?_ ?_
      rotate_left 1
      · (intro w hSw; (try dsimp only at hSw); go_simp; try (with_reducible rfl))
      try simp only [tkS]
      refine tu 12 ?_
      try simp only [tkS]
      refine tu 13 ?_
      try simp only [tkS]
      refine tu 14 ?_
      try simp only [tkS]
      refine tk 15 (v := ?_) ?_ ?_
      rotate_left 1
      · (intro w hSw; (try dsimp only at hSw); go_simp; try (with_reducible rfl))
      try simp only [tkS]
      refine tk 16 (v := ?_) ?_ ?_
      rotate_left 1
      · (intro w hSw; (try dsimp only at hSw); go_simp; try (with_reducible rfl))
      try simp only [tkS]
      refine tu 17 ?_
      try simp only [tkS]
      refine tu 18 ?_
      try simp only [tkS]
      refine tu 19 ?_
      try simp only [tkS]
      refine tu 20 ?_
      try simp only [tkS]
      refine tu 21 ?_
      try simp only [tkS]
      refine tk 22 (v := ?_) ?_ ?_
      rotate_left 1
      · (intro w hSw; (try dsimp only at hSw); go_simp; try (with_reducible rfl))
      try simp only [tkS]
      refine wpAnyH_done (by kernel_rfl) ?_ _
      simp only [cutQ, List.drop_succ_cons, List.drop_zero, List.drop_nil]
      go_wp2
      go_ret2
      exact ⟨rfl, hb1⟩
    · have d1 : decide (x < 1) = false := by simp [h1]
      by_cases h2 : 12 < x
      · have d2 : decide (12 < x) = true := by simp [h2]
        clear hNO
        go_enter Try.func4, Try.ntmps4
        go_wp2_with fail
        refine wp_region_cut (S := fun W => Below w.heap.size w W) 23 (by kernel_rfl) (by kernel_rfl) (by exact (Below.refl w.heap.size w).drew) (fun hHeld => ?_)
        refine tk 0 (v := ?_) ?_ ?_
        rotate_left 1
        · (intro w hSw; (try dsimp only at hSw); go_simp; try (with_reducible rfl))
        try simp only [tkS]
        refine wpAnyH_ready (rs := [1]) (by kernel_rfl) (by simp) ?_
        refine AllReadyH.cons rfl (fun K hK => ?_) AllReadyH.nil
        go_simp
        refine (HT.out _ (by exact hHeld)).mono ?_
        rintro e v1 ⟨rfl, hb1⟩
        refine hK.out _ _ (by exact hb1) (fun hHeld1 => ?_)
        clear hK K
        try simp only [tkS]
        refine tk 2 (v := ?_) ?_ ?_
        rotate_left 1
        · (intro w hSw; (try dsimp only at hSw); go_simp; try (with_reducible rfl))
        try simp only [tkS]
        refine tk 3 (v := ?_) ?_ ?_
        rotate_left 1
        · (intro w hSw; (try dsimp only at hSw); go_simp; try (with_reducible rfl))
        try simp only [tkS]
        refine tk 4 (v := ?_) ?_ ?_
        rotate_left 1
        · (intro w hSw; (try dsimp only at hSw); go_simp; try (with_reducible rfl))
        try simp only [tkS]
        refine tk 5 (v := ?_) ?_ ?_
        rotate_left 1
        · (intro w hSw; (try dsimp only at hSw); go_simp; try (with_reducible rfl))
        try simp only [tkS]
        refine tk 6 (v := ?_) ?_ ?_
        rotate_left 1
        · (intro w hSw; (try dsimp only at hSw); go_simp; try (with_reducible rfl))
        try simp only [tkS]
        refine tk 7 (v := ?_) ?_ ?_
        rotate_left 1
        · (intro w hSw; (try dsimp only at hSw); go_simp; try (with_reducible rfl))
        try simp only [tkS]
        refine tk 8 (v := ?_) ?_ ?_
        rotate_left 1
        · (intro w hSw; (try dsimp only at hSw); go_simp; try (with_reducible rfl))
        try simp only [tkS]
        refine tk 9 (v := ?_) ?_ ?_
        rotate_left 1
        · (intro w hSw; (try dsimp only at hSw); go_simp; try (with_reducible rfl))
        try simp only [tkS]
        refine tk 10 (v := ?_) ?_ ?_
        rotate_left 1
        · (intro w hSw; (try dsimp only at hSw); go_simp; try (with_reducible rfl))
        try simp only [tkS]
        refine tk 11 (v := ?_) ?_ ?_
        rotate_left 1
        · (intro w hSw; (try dsimp only at hSw); go_simp; try (with_reducible rfl))
        try simp only [tkS]
        refine tu 12 ?_
        try simp only [tkS]
        refine tu 13 ?_
        try simp only [tkS]
        refine tu 14 ?_
        try simp only [tkS]
        refine tk 15 (v := ?_) ?_ ?_
        rotate_left 1
        · (intro w hSw; (try dsimp only at hSw); go_simp; try (with_reducible rfl))
        try simp only [tkS]
        refine tk 16 (v := ?_) ?_ ?_
        rotate_left 1
        · (intro w hSw; (try dsimp only at hSw); go_simp; try (with_reducible rfl))
        try simp only [tkS]
        refine tu 17 ?_
        try simp only [tkS]
        refine tu 18 ?_
        try simp only [tkS]
        refine tu 19 ?_
        try simp only [tkS]
        refine tu 20 ?_
        try simp only [tkS]
        refine tu 21 ?_
        try simp only [tkS]
        refine tk 22 (v := ?_) ?_ ?_
        rotate_left 1
        · (intro w hSw; (try dsimp only at hSw); go_simp; try (with_reducible rfl))
        try simp only [tkS]
        refine wpAnyH_done (by kernel_rfl) ?_ _
        simp only [cutQ, List.drop_succ_cons, List.drop_zero, List.drop_nil]
        go_wp2
        go_ret2
        exact ⟨rfl, hb1⟩
      · have d2 : decide (12 < x) = false := by simp [h2]
        obtain ⟨L, hL⟩ : ∃ L : Nat, x = (L : Int) := ⟨x.toNat, by omega⟩
        subst hL
        rw [Int.toNat_natCast] at hNO
        have hL2 : L ≤ 12 := by omega
        obtain ⟨P2, hP2⟩ : ∃ P2, P2 = 2 ^ L := ⟨_, rfl⟩
        have hpw : wrap64 (2 ^ L) = ((P2 : Nat) : Int) := by rw [hP2]; exact lens_pow hL2
        have hP2b : P2 ≤ 4096 := by rw [hP2]; exact Nat.pow_le_pow_right (by omega) hL2
        have hpi : IntKind.i64.wrap (2 ^ L) = ((P2 : Nat) : Int) := by rw [show (2 : Int) ^ L = ((P2 : Nat) : Int) from by rw [hP2]; simp, IntKind.wrap_i64]; omega
        rw [← hP2] at hNO
        clear hP2
        by_cases h3 : S < 1
        · have h3i : (S : Int) < 1 := by omega
          have d3 : decide ((S : Int) < 1) = true := by simp [h3i]
          have d3' : decide (S < 1) = true := by simp [h3]
          clear hNO
          go_enter Try.func4, Try.ntmps4
          go_wp2_with fail
          refine wp_region_cut (S := fun W => Below w.heap.size w W) 23 (by kernel_rfl) (by kernel_rfl) (by exact (Below.refl w.heap.size w).drew) (fun hHeld => ?_)
          refine tk 0 (v := ?_) ?_ ?_
          rotate_left 1
          · (intro w hSw; (try dsimp only at hSw); go_simp; try (with_reducible rfl))
          try simp only [tkS]
          refine wpAnyH_ready (rs := [1]) (by kernel_rfl) (by simp) ?_
          refine AllReadyH.cons rfl (fun K hK => ?_) AllReadyH.nil
          go_simp
          refine (HT.out _ (by exact hHeld)).mono ?_
          rintro e v1 ⟨rfl, hb1⟩
          refine hK.out _ _ (by exact hb1) (fun hHeld1 => ?_)
          clear hK K
          try simp only [tkS]
          refine tk 2 (v := ?_) ?_ ?_
          rotate_left 1
          · (intro w hSw; (try dsimp only at hSw); go_simp; try (with_reducible rfl))
          try simp only [tkS]
          refine tk 3 (v := ?_) ?_ ?_
          rotate_left 1
          · (intro w hSw; (try dsimp only at hSw); go_simp; try (with_reducible rfl))
          try simp only [tkS]
          refine tk 4 (v := ?_) ?_ ?_
          rotate_left 1
          · (intro w hSw; (try dsimp only at hSw); go_simp; try (with_reducible rfl))
          try simp only [tkS]
          refine tk 5 (v := ?_) ?_ ?_
          rotate_left 1
          · (intro w hSw; (try dsimp only at hSw); go_simp; try (with_reducible rfl))
          try simp only [tkS]
          refine tk 6 (v := ?_) ?_ ?_
          rotate_left 1
          · (intro w hSw; (try dsimp only at hSw); go_simp; try (with_reducible rfl))
          try simp only [tkS]
          refine tk 7 (v := ?_) ?_ ?_
          rotate_left 1
          · (intro w hSw; (try dsimp only at hSw); go_simp; try (with_reducible rfl))
          try simp only [tkS]
          refine tk 8 (v := ?_) ?_ ?_
          rotate_left 1
          · (intro w hSw; (try dsimp only at hSw); go_simp; try (with_reducible rfl))
          try simp only [tkS]
          refine tk 9 (v := ?_) ?_ ?_
          rotate_left 1
          · (intro w hSw; (try dsimp only at hSw); go_simp; try (with_reducible rfl))
          try simp only [tkS]
          refine tk 10 (v := ?_) ?_ ?_
          rotate_left 1
          · (intro w hSw; (try dsimp only at hSw); go_simp; try (with_reducible rfl))
          try simp only [tkS]
          refine tk 11 (v := ?_) ?_ ?_
          rotate_left 1
          · (intro w hSw; (try dsimp only at hSw); go_simp; try (with_reducible rfl))
          try simp only [tkS]
          refine tk 12 (v := ?_) ?_ ?_
          rotate_left 1
          · (intro w hSw; (try dsimp only at hSw); go_simp; try (with_reducible rfl))
          try simp only [tkS]
          refine wpAnyH_ready (rs := [13]) (by kernel_rfl) (by simp) ?_
          refine AllReadyH.cons rfl (fun K hK => ?_) AllReadyH.nil
          go_simp
          refine (HSM.out _ (by exact hHeld1)).mono ?_
          rintro e v13 ⟨rfl, hb13⟩
          refine hK.out _ _ (by exact hb13) (fun hHeld13 => ?_)
          clear hK K
          try simp only [tkS]
          refine tk 14 (v := ?_) ?_ ?_
          rotate_left 1
          · (intro w hSw; (try dsimp only at hSw); go_simp; try (with_reducible rfl))
          try simp only [tkS]
          refine tk 15 (v := ?_) ?_ ?_
          rotate_left 1
          · (intro w hSw; (try dsimp only at hSw); go_simp; try (with_reducible rfl))
          try simp only [tkS]
          refine tk 16 (v := ?_) ?_ ?_
          rotate_left 1
          · (intro w hSw; (try dsimp only at hSw); go_simp; try (with_reducible rfl))
          try simp only [tkS]
          refine tu 17 ?_
          try simp only [tkS]
          refine tu 18 ?_
          try simp only [tkS]
          refine tu 19 ?_
          try simp only [tkS]
          refine tu 20 ?_
          try simp only [tkS]
          refine tu 21 ?_
          try simp only [tkS]
          refine tk 22 (v := ?_) ?_ ?_
          rotate_left 1
          · (intro w hSw; (try dsimp only at hSw); go_simp; try (with_reducible rfl))
          try simp only [tkS]
          refine wpAnyH_done (by kernel_rfl) ?_ _
          simp only [cutQ, List.drop_succ_cons, List.drop_zero, List.drop_nil]
          go_wp2
          go_ret2
          exact ⟨rfl, hb13⟩
        · have h3i : ¬ (S : Int) < 1 := by omega
          have d3 : decide ((S : Int) < 1) = false := by simp [h3i]
          have d3' : decide (S < 1) = false := by simp [h3]
          have h4i : (P2 : Int) < (S : Int) := by omega
          have h4 : P2 < S := by omega
          have d4 : decide ((P2 : Int) < (S : Int)) = true := by simp [h4i]
          have d4' : decide (P2 < S) = true := by simp [h4]
          clear hNO
          go_enter Try.func4, Try.ntmps4
          go_wp2_with fail
          refine wp_region_cut (S := fun W => Below w.heap.size w W) 23 (by kernel_rfl) (by kernel_rfl) (by exact (Below.refl w.heap.size w).drew) (fun hHeld => ?_)
          refine tk 0 (v := ?_) ?_ ?_
          rotate_left 1
          · (intro w hSw; (try dsimp only at hSw); go_simp; try (with_reducible rfl))
          try simp only [tkS]
          refine wpAnyH_ready (rs := [1]) (by kernel_rfl) (by simp) ?_
          refine AllReadyH.cons rfl (fun K hK => ?_) AllReadyH.nil
          go_simp
          refine (HT.out _ (by exact hHeld)).mono ?_
          rintro e v1 ⟨rfl, hb1⟩
          refine hK.out _ _ (by exact hb1) (fun hHeld1 => ?_)
          clear hK K
          try simp only [tkS]
          refine tk 2 (v := ?_) ?_ ?_
          rotate_left 1
          · (intro w hSw; (try dsimp only at hSw); go_simp; try (with_reducible rfl))
          try simp only [tkS]
          refine tk 3 (v := ?_) ?_ ?_
          rotate_left 1
          · (intro w hSw; (try dsimp only at hSw); go_simp; try (with_reducible rfl))
          try simp only [tkS]
          refine tk 4 (v := ?_) ?_ ?_
          rotate_left 1
          · (intro w hSw; (try dsimp only at hSw); go_simp; try (with_reducible rfl))
          try simp only [tkS]
          refine tk 5 (v := ?_) ?_ ?_
          rotate_left 1
          · (intro w hSw; (try dsimp only at hSw); go_simp; try (with_reducible rfl))
          try simp only [tkS]
          refine tk 6 (v := ?_) ?_ ?_
          rotate_left 1
          · (intro w hSw; (try dsimp only at hSw); go_simp; try (with_reducible rfl))
          try simp only [tkS]
          refine tk 7 (v := ?_) ?_ ?_
          rotate_left 1
          · (intro w hSw; (try dsimp only at hSw); go_simp; try (with_reducible rfl))
          try simp only [tkS]
          refine tk 8 (v := ?_) ?_ ?_
          rotate_left 1
          · (intro w hSw; (try dsimp only at hSw); go_simp; try (with_reducible rfl))
          try simp only [tkS]
          refine tk 9 (v := ?_) ?_ ?_
          rotate_left 1
          · (intro w hSw; (try dsimp only at hSw); go_simp; try (with_reducible rfl))
          try simp only [tkS]
          refine tk 10 (v := ?_) ?_ ?_
          rotate_left 1
          · (intro w hSw; (try dsimp only at hSw); go_simp; try (with_reducible rfl))
          try simp only [tkS]
          refine tk 11 (v := ?_) ?_ ?_
          rotate_left 1
          · (intro w hSw; (try dsimp only at hSw); go_simp; try (with_reducible rfl))
          try simp only [tkS]
          refine tk 12 (v := ?_) ?_ ?_
          rotate_left 1
          · (intro w hSw; (try dsimp only at hSw); go_simp; try (with_reducible rfl))
          try simp only [tkS]
          refine wpAnyH_ready (rs := [13]) (by kernel_rfl) (by simp) ?_
          refine AllReadyH.cons rfl (fun K hK => ?_) AllReadyH.nil
          go_simp
          refine (HSM.out _ (by exact hHeld1)).mono ?_
          rintro e v13 ⟨rfl, hb13⟩
          refine hK.out _ _ (by exact hb13) (fun hHeld13 => ?_)
          clear hK K
          try simp only [tkS]
          refine tk 14 (v := ?_) ?_ ?_
          rotate_left 1
          · (intro w hSw; (try dsimp only at hSw); go_simp; try (with_reducible rfl))
          try simp only [tkS]
          refine tk 15 (v := ?_) ?_ ?_
          rotate_left 1
          · (intro w hSw; (try dsimp only at hSw); go_simp; try (with_reducible rfl))
          try simp only [tkS]
          refine tk 16 (v := ?_) ?_ ?_
          rotate_left 1
          · (intro w hSw; (try dsimp only at hSw); go_simp; try (with_reducible rfl))
          try simp only [tkS]
          refine tk 17 (v := ?_) ?_ ?_
          rotate_left 1
          · (intro w hSw; (try dsimp only at hSw); go_simp; try (with_reducible rfl))
          try simp only [tkS]
          refine tk 19 (v := ?_) ?_ ?_
          rotate_left 1
          · (intro w hSw; (try dsimp only at hSw); go_simp; try (with_reducible rfl))
          try simp only [tkS]
          refine tk 20 (v := ?_) ?_ ?_
          rotate_left 1
          · (intro w hSw; (try dsimp only at hSw); go_simp; try (with_reducible rfl))
          try simp only [tkS]
          refine wpAnyH_ready (rs := [18]) (by kernel_rfl) (by simp) ?_
          refine AllReadyH.cons rfl (fun K hK => ?_) AllReadyH.nil
          go_simp
          refine (HSM.out _ (by exact hHeld13)).mono ?_
          rintro e v18 ⟨rfl, hb18⟩
          refine hK.out _ _ (by exact hb18) (fun hHeld18 => ?_)
          clear hK K
          try simp only [tkS]
          refine tk 21 (v := ?_) ?_ ?_
          rotate_left 1
          · (intro w hSw; (try dsimp only at hSw); go_simp; try (with_reducible rfl))
          try simp only [tkS]
          refine tk 22 (v := ?_) ?_ ?_
          rotate_left 1
          · (intro w hSw; (try dsimp only at hSw); go_simp; try (with_reducible rfl))
          try simp only [tkS]
          refine wpAnyH_done (by kernel_rfl) ?_ _
          simp only [cutQ, List.drop_succ_cons, List.drop_zero, List.drop_nil]
          go_wp2
          go_ret2
          exact ⟨rfl, hb18⟩
  · have hc : cntB cs = false := by simpa using hc
    rw [hc] at HT
    go_enter Try.func4, Try.ntmps4
    go_wp2_with fail
    refine wp_region_cut (S := fun W => Below w.heap.size w W) 23 (by kernel_rfl) (by kernel_rfl) (by exact (Below.refl w.heap.size w).drew) (fun hHeld => ?_)
    refine tk 0 (v := ?_) ?_ ?_
    rotate_left 1
    · (intro w hSw; (try dsimp only at hSw); go_simp; try (with_reducible rfl))
    try simp only [tkS]
    refine wpAnyH_ready (rs := [1]) (by kernel_rfl) (by simp) ?_
    refine AllReadyH.cons rfl (fun K hK => ?_) AllReadyH.nil
    go_simp
    refine (HT.out _ (by exact hHeld)).mono ?_
    rintro e v1 ⟨rfl, hb1⟩
    refine hK.out _ _ (by exact hb1) (fun hHeld1 => ?_)
    clear hK K
    try simp only [tkS]
    refine tk 2 (v := ?_) ?_ ?_
    rotate_left 1
    · (intro w hSw; (try dsimp only at hSw); go_simp; try (with_reducible rfl))
    try simp only [tkS]
    refine tk 3 (v := ?_) ?_ ?_
    rotate_left 1
    · (intro w hSw; (try dsimp only at hSw); go_simp; try (with_reducible rfl))
    try simp only [tkS]
    refine tu 4 ?_
    try simp only [tkS]
    refine tu 5 ?_
    try simp only [tkS]
    refine tk 6 (v := ?_) ?_ ?_
    rotate_left 1
    · (intro w hSw; (try dsimp only at hSw); go_simp; try (with_reducible rfl))
    try simp only [tkS]
    refine tk 7 (v := ?_) ?_ ?_
    rotate_left 1
    · (intro w hSw; (try dsimp only at hSw); go_simp; try (with_reducible rfl))
    try simp only [tkS]
    refine tu 8 ?_
    try simp only [tkS]
    refine tu 9 ?_
    try simp only [tkS]
    refine tk 10 (v := ?_) ?_ ?_
    rotate_left 1
    · (intro w hSw; (try dsimp only at hSw); go_simp; try (with_reducible rfl))
    try simp only [tkS]
    refine tk 11 (v := ?_) ?_ ?_
    rotate_left 1
    · (intro w hSw; (try dsimp only at hSw); go_simp; try (with_reducible rfl))
    try simp only [tkS]
    refine tu 12 ?_
    try simp only [tkS]
    refine tu 13 ?_
    try simp only [tkS]
    refine tu 14 ?_
    try simp only [tkS]
    refine tk 15 (v := ?_) ?_ ?_
    rotate_left 1
    · (intro w hSw; (try dsimp only at hSw); go_simp; try (with_reducible rfl))
    try simp only [tkS]
    refine tk 16 (v := ?_) ?_ ?_
    rotate_left 1
    · (intro w hSw; (try dsimp only at hSw); go_simp; try (with_reducible rfl))
    try simp only [tkS]
    refine tu 17 ?_
    try simp only [tkS]
    refine tu 18 ?_
    try simp only [tkS]
    refine tu 19 ?_
    try simp only [tkS]
    refine tu 20 ?_
    try simp only [tkS]
    refine tu 21 ?_
    try simp only [tkS]
    refine tk 22 (v := ?_) ?_ ?_
    rotate_left 1
    · (intro w hSw; (try dsimp only at hSw); go_simp; try (with_reducible rfl))
    try simp only [tkS]
    refine wpAnyH_done (by kernel_rfl) ?_ _
    simp only [cutQ, List.drop_succ_cons, List.drop_zero, List.drop_nil]
    go_wp2
    go_ret2
    exact ⟨rfl, hb1⟩

set_option maxRecDepth 20000 in
set_option maxHeartbeats 4000000 in
theorem specLens_yes (a : Option Addr) (cap : Nat) (cs : List Int) (L : Nat) (w : World) (hb : Ins w a cs) (hok : lensOkB cs (L : Int)) :
    Calls Try.prog 4 #[.slice a cs.length cap, .int .i64 L] w fun e w' => (∃ g, e = .returned (.tuple #[.slice (some ⟨g, 0, none⟩) cs.length cs.length, .bool true]) ∧ OwI w' w.heap.size g cs.length (lensV cs L)) ∧ Below w.heap.size w w' := by
  have hok' := hok
  obtain ⟨hc, h1', h2', h3', h4'⟩ := hok'
  rw [Int.toNat_natCast] at h4'
  have hn2 := cntB_len80 hc
  have hn : cs.length ≤ 281474976710656 := by omega
  have HT : Hid (∀ W, Below w.heap.size w W → Calls Try.prog 10 #[.slice a cs.length cap] W fun e w' => e = .returned (.bool (cntB cs)) ∧ Below w.heap.size w w') := fun W hW => (specCnt_any a cap cs W (hb.below hW (Nat.le_refl _)) hn).mono (by rintro e w' ⟨h1, n, rfl⟩; exact ⟨h1, below_dL hW n⟩)
  rw [hc] at HT
  have HSM : Hid (∀ W, Below w.heap.size w W → Calls Try.prog 11 #[.slice a cs.length cap] W fun e w' => e = .returned (.int .i64 (sumF one cs)) ∧ Below w.heap.size w w') := fun W hW => (l2some_any a cap cs W (hb.below hW (Nat.le_refl _)) hn2).mono (by rintro e w' ⟨h1, rfl⟩; exact ⟨h1, hW⟩)
  rw [some_len] at HSM
  have HLL : Hid (∀ W, Below w.heap.size w W → Calls Try.prog 12 #[.slice a cs.length cap, .int .i64 L] W fun e w' => (∃ g, e = .returned (.slice (some ⟨g, 0, none⟩) cs.length cs.length) ∧ OwI w' w.heap.size g cs.length (lensV cs L)) ∧ Below w.heap.size w w') := fun W hW => (l2lens_any a cap cs L W (hb.below hW (Nat.le_refl _)) hok).mono (by rintro e w' ⟨⟨g, h1, h2⟩, h3⟩; exact ⟨⟨g, h1, h2.mono hW.size⟩, hW.trans (h3.mono hW.size)⟩)
  obtain ⟨S, hS⟩ : ∃ S, S = (coinsS cs).length := ⟨_, rfl⟩
  rw [← hS] at HSM h3' h4'
  obtain ⟨P2, hP2⟩ : ∃ P2, P2 = 2 ^ L := ⟨_, rfl⟩
  have hL2 : L ≤ 12 := by omega
  have hpw : wrap64 (2 ^ L) = ((P2 : Nat) : Int) := by rw [hP2]; exact lens_pow hL2
  have hP2b : P2 ≤ 4096 := by rw [hP2]; exact Nat.pow_le_pow_right (by omega) hL2
  have hpi : IntKind.i64.wrap (2 ^ L) = ((P2 : Nat) : Int) := by rw [show (2 : Int) ^ L = ((P2 : Nat) : Int) from by rw [hP2]; simp, IntKind.wrap_i64]; omega
  rw [← hP2] at h4'
  have h1i : ¬ (L : Int) < 1 := by omega
  have h2i : ¬ (12 : Int) < (L : Int) := by omega
  have h3i : ¬ (S : Int) < 1 := by omega
  have h3 : ¬ S < 1 := by omega
  have h4i : ¬ (P2 : Int) < (S : Int) := by omega
  have h4 : ¬ P2 < S := by omega
  have d1 : decide ((L : Int) < 1) = false := by simp [h1i]
  have d2 : decide ((12 : Int) < (L : Int)) = false := by simp [h2i]
  have d3 : decide ((S : Int) < 1) = false := by simp [h3i]
  have d3' : decide (S < 1) = false := by simp [h3]
  have d4 : decide ((P2 : Int) < (S : Int)) = false := by simp [h4i]
  have d4' : decide (P2 < S) = false := by simp [h4]
  clear hP2 hS hc hok
  go_enter Try.func4, Try.ntmps4
  go_wp2_with fail
  refine wp_region_cut (S := fun W => Below w.heap.size w W) 23 (by kernel_rfl) (by kernel_rfl) (by exact (Below.refl w.heap.size w).drew) (fun hHeld => ?_)
  refine tk 0 (v := ?_) ?_ ?_
  rotate_left 1
  · (intro w hSw; (try dsimp only at hSw); go_simp; try (with_reducible rfl))
  try simp only [tkS]
  refine wpAnyH_ready (rs := [1]) (by kernel_rfl) (by simp) ?_
  refine AllReadyH.cons rfl (fun K hK => ?_) AllReadyH.nil
  go_simp
  refine (HT.out _ (by exact hHeld)).mono ?_
  rintro e v1 ⟨rfl, hb1⟩
  refine hK.out _ _ (by exact hb1) (fun hHeld1 => ?_)
  clear hK K
  try simp only [tkS]
  refine tk 2 (v := ?_) ?_ ?_
  rotate_left 1
  · (intro w hSw; (try dsimp only at hSw); go_simp; try (with_reducible rfl))
  try simp only [tkS]
  refine tk 3 (v := ?_) ?_ ?_
  rotate_left 1
  · (intro w hSw; (try dsimp only at hSw); go_simp; try (with_reducible rfl))
  try simp only [tkS]
  refine tk 4 (v := ?_) ?_ ?_
  rotate_left 1
  · (intro w hSw; (try dsimp only at hSw); go_simp; try (with_reducible rfl))
  try simp only [tkS]
  refine tk 5 (v := ?_) ?_ ?_
  rotate_left 1
  · (intro w hSw; (try dsimp only at hSw); go_simp; try (with_reducible rfl))
  try simp only [tkS]
  refine tk 6 (v := ?_) ?_ ?_
  rotate_left 1
  · (intro w hSw; (try dsimp only at hSw); go_simp; try (with_reducible rfl))
  try simp only [tkS]
  refine tk 7 (v := ?_) ?_ ?_
  rotate_left 1
  · (intro w hSw; (try dsimp only at hSw); go_simp; try (with_reducible rfl))
  try simp only [tkS]
  refine tk 8 (v := ?_) ?_ ?_
  rotate_left 1
  · (intro w hSw; (try dsimp only at hSw); go_simp; try (with_reducible rfl))
  try simp only [tkS]
  refine tk 9 (v := ?_) ?_ ?_
  rotate_left 1
  · (intro w hSw; (try dsimp only at hSw); go_simp; try (with_reducible rfl))
  try simp only [tkS]
  refine tk 10 (v := ?_) ?_ ?_
  rotate_left 1
  · (intro w hSw; (try dsimp only at hSw); go_simp; try (with_reducible rfl))
  try simp only [tkS]
  refine tk 11 (v := ?_) ?_ ?_
  rotate_left 1
  · (intro w hSw; (try dsimp only at hSw); go_simp; try (with_reducible rfl))
  try simp only [tkS]
  refine tk 12 (v := ?_) ?_ ?_
  rotate_left 1
  · (intro w hSw; (try dsimp only at hSw); go_simp; try (with_reducible rfl))
  try simp only [tkS]
  refine wpAnyH_ready (rs := [13]) (by kernel_rfl) (by simp) ?_
  refine AllReadyH.cons rfl (fun K hK => ?_) AllReadyH.nil
  go_simp
  refine (HSM.out _ (by exact hHeld1)).mono ?_
  rintro e v13 ⟨rfl, hb13⟩
  refine hK.out _ _ (by exact hb13) (fun hHeld13 => ?_)
  clear hK K
  try simp only [tkS]
  refine tk 14 (v := ?_) ?_ ?_
  rotate_left 1
  · (intro w hSw; (try dsimp only at hSw); go_simp; try (with_reducible rfl))
  try simp only [tkS]
  refine tk 15 (v := ?_) ?_ ?_
  rotate_left 1
  · (intro w hSw; (try dsimp only at hSw); go_simp; try (with_reducible rfl))
  try simp only [tkS]
  refine tk 16 (v := ?_) ?_ ?_
  rotate_left 1
  · (intro w hSw; (try dsimp only at hSw); go_simp; try (with_reducible rfl))
  try simp only [tkS]
  refine tk 17 (v := ?_) ?_ ?_
  rotate_left 1
  · (intro w hSw; (try dsimp only at hSw); go_simp; try (with_reducible rfl))
  try simp only [tkS]
  refine tk 19 (v := ?_) ?_ ?_
  rotate_left 1
  · (intro w hSw; (try dsimp only at hSw); go_simp; try (with_reducible rfl))
  try simp only [tkS]
  refine tk 20 (v := ?_) ?_ ?_
  rotate_left 1
  · (intro w hSw; (try dsimp only at hSw); go_simp; try (with_reducible rfl))
  try simp only [tkS]
  refine wpAnyH_ready (rs := [18]) (by kernel_rfl) (by simp) ?_
  refine AllReadyH.cons rfl (fun K hK => ?_) AllReadyH.nil
  go_simp
  refine (HSM.out _ (by exact hHeld13)).mono ?_
  rintro e v18 ⟨rfl, hb18⟩
  refine hK.out _ _ (by exact hb18) (fun hHeld18 => ?_)
  clear hK K
  try simp only [tkS]
  refine tk 21 (v := ?_) ?_ ?_
  rotate_left 1
  · (intro w hSw; (try dsimp only at hSw); go_simp; try (with_reducible rfl))
  try simp only [tkS]
  refine tk 22 (v := ?_) ?_ ?_
  rotate_left 1
  · (intro w hSw; (try dsimp only at hSw); go_simp; try (with_reducible rfl))
  try simp only [tkS]
  refine wpAnyH_done (by kernel_rfl) ?_ _
  simp only [cutQ, List.drop_succ_cons, List.drop_zero, List.drop_nil]
  go_wp2_with fail
  refine (HLL.out _ hb18).mono ?_
  rintro e w3 ⟨⟨g, rfl, ho⟩, hb3⟩
  go_wp2
  go_ret2
  exact ⟨⟨g, rfl, ho⟩, hb3⟩
end Go.Proofs.Ytpoonklhdkhdcaa
