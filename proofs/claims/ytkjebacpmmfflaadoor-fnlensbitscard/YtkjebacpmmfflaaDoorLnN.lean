/-
  Lens of the program for other arguments.
-/
import Derived.Test.YtkjebacpmmfflaaDoorPcV
import Derived.Test.YtkjebacpmmfflaaDoorILensC
import Derived.Test.YtkjebacpmmfflaaDoorPcA
namespace Go.Proofs.YtkjebacpmmfflaaDoor
open Go.RowKit
set_option linter.unusedVariables false
set_option linter.unusedSimpArgs false

theorem coins_sum (zs : List Int) : ∀ k, k ≤ zs.length → sumF one (zs.take k) = ((coinsL zs k).length : Nat)
  | 0, _ => by simp [sumF, coinsL]
  | k + 1, h => by
    rw [sumF_succ one zs k (by omega), coins_sum zs k (by omega)]
    simp only [coinsL, one]
    split <;> simp
theorem some_len (zs : List Int) : sumF one zs = ((coinsS zs).length : Nat) := by
  rw [coinsS_len, ← coins_sum zs zs.length (Nat.le_refl _), List.take_length]
theorem cntB_len80 {zs : List Int} (h : cntB zs = true) : zs.length ≤ 80 := by
  simp only [cntB, decide_eq_true_eq] at h
  exact h.2.1
theorem below_dL {B : Nat} {a b : World} (h : Below B a b) (n : Nat) : Below B a (b.drewN n) := ⟨h.os, h.tape, h.output, h.size, h.block⟩

set_option maxRecDepth 20000 in
set_option maxHeartbeats 4000000 in
theorem implLens_no (a : Option Addr) (c : Nat) (zs : List Int) (x : Int) (w : World) (hb : Ins w a zs) (hn : zs.length ≤ 281474976710656) (hno : ¬ lensOkB zs x) :
    Calls Tryd.prog 9 #[.slice a zs.length c, .int .i64 x] w fun e w' => e = .returned (.tuple #[.slice none 0 0, .bool false]) ∧ Below w.heap.size w w' := by
  have HCNT := implCnt_any a c zs w hb hn
  by_cases hc : cntB zs = true
  · have hcnt := hc
    simp only [cntB, decide_eq_true_eq] at hcnt
    obtain ⟨hn1, hn2, hzr⟩ := hcnt
    rw [hc] at HCNT
    by_cases h1 : x < 1
    · clear hno
      go_enter Tryd.func9, Tryd.ntmps9
      go_wp2_with fail
      refine HCNT.mono ?_
      clear HCNT
      rintro e w0 ⟨rfl, rfl⟩
      go_wp2
      go_ret2
      exact ⟨rfl, Below.refl _ _⟩
    · by_cases h2 : 12 < x
      · clear hno
        go_enter Tryd.func9, Tryd.ntmps9
        go_wp2_with fail
        refine HCNT.mono ?_
        clear HCNT
        rintro e w0 ⟨rfl, rfl⟩
        go_wp2
        go_ret2
        exact ⟨rfl, Below.refl _ _⟩
      · obtain ⟨L, hL⟩ : ∃ L : Nat, x = (L : Int) := ⟨x.toNat, by omega⟩
        subst hL
        have hL2 : L ≤ 12 := by omega
        obtain ⟨m, hm⟩ : ∃ m, m = (coinsL zs zs.length).length := ⟨_, rfl⟩
        have hmS : (coinsS zs).length = m := by rw [coinsS_len, hm]
        obtain ⟨P2, hP2⟩ : ∃ P2, P2 = 2 ^ L := ⟨_, rfl⟩
        have hNO : ¬ (1 ≤ m ∧ m ≤ P2) := fun h => hno ⟨hc, by omega, by omega, by rw [hmS]; exact h.1, by rw [hmS, Int.toNat_natCast, ← hP2]; exact h.2⟩
        have HP2 : Hid (wrap64 (2 ^ L) = ((P2 : Nat) : Int) ∧ True) := by rw [hP2]; exact ⟨lens_pow hL2, trivial⟩
        have hP2b : P2 ≤ 4096 := by rw [hP2]; exact Nat.pow_le_pow_right (by omega) hL2
        have HCO := coinsOf_any a c zs w hb (by omega) (fun z h => (hzr z h).1)
        have HM : Hid (m = (coinsL zs zs.length).length ∧ True) := ⟨hm, trivial⟩
        have hpw := HP2.out.1
        clear hno hP2 hzr hm hmS hc
        by_cases h3 : m < 1
        · have h3i : (m : Int) < 1 := by omega
          clear hNO
          go_enter Tryd.func9, Tryd.ntmps9
          go_wp2_with fail
          refine HCNT.mono ?_
          clear HCNT
          rintro e w0 ⟨rfl, rfl⟩
          go_wp2_with fail
          refine HCO.mono ?_
          clear HCO
          rintro e w1 ⟨v, rfl, hov, hb1⟩
          obtain ⟨la, lc, hv, -, -⟩ := hov.slice
          rw [← HM.out.1] at hv
          subst hv
          clear hov
          go_wp2
          go_ret2
          exact ⟨rfl, hb1⟩
        · have h3i : ¬ (m : Int) < 1 := by omega
          have h4i : (P2 : Int) < (m : Int) := by omega
          clear hNO
          go_enter Tryd.func9, Tryd.ntmps9
          go_wp2_with fail
          refine HCNT.mono ?_
          clear HCNT
          rintro e w0 ⟨rfl, rfl⟩
          go_wp2_with fail
          refine HCO.mono ?_
          clear HCO
          rintro e w1 ⟨v, rfl, hov, hb1⟩
          obtain ⟨la, lc, hv, -, -⟩ := hov.slice
          rw [← HM.out.1] at hv
          subst hv
          clear hov
          go_wp2
          go_ret2
          exact ⟨rfl, hb1⟩
  · have hc : cntB zs = false := by simpa using hc
    rw [hc] at HCNT
    go_enter Tryd.func9, Tryd.ntmps9
    go_wp2_with fail
    refine HCNT.mono ?_
    clear HCNT
    rintro e w0 ⟨rfl, rfl⟩
    go_wp2
    go_ret2
    exact ⟨rfl, Below.refl _ _⟩
end Go.Proofs.YtkjebacpmmfflaaDoor
