/-
  Lens of the program for other arguments; both sides together.
-/
import Derived.Test.YtpoonklhdkhdcaaLnS
import Derived.Test.YtpoonklhdkhdcaaICopy
namespace Go.Proofs.Ytpoonklhdkhdcaa
open Go.RowKit
set_option linter.unusedVariables false
set_option linter.unusedSimpArgs false

set_option maxRecDepth 20000 in
set_option maxHeartbeats 4000000 in
theorem implLens_no (a : Option Addr) (c : Nat) (zs : List Int) (x : Int) (w : World) (hb : Ins w a zs) (hn : zs.length ≤ 281474976710656) (hno : ¬ lensOkB zs x) :
    Calls Try.prog 6 #[.slice a zs.length c, .int .i64 x] w fun e w' => e = .returned (.tuple #[.slice none 0 0, .bool false]) ∧ Below w.heap.size w w' := by
  have HCNT := implCnt_any a c zs w hb hn
  by_cases hc : cntB zs = true
  · have hcnt := hc
    simp only [cntB, decide_eq_true_eq] at hcnt
    obtain ⟨hn1, hn2, hzr⟩ := hcnt
    rw [hc] at HCNT
    by_cases h1 : x < 1
    · clear hno
      go_enter Try.func6, Try.ntmps6
      go_wp2_with fail
      refine HCNT.mono ?_
      clear HCNT
      rintro e w0 ⟨rfl, rfl⟩
      go_wp2
      go_ret2
      exact ⟨rfl, Below.refl _ _⟩
    · by_cases h2 : 12 < x
      · clear hno
        go_enter Try.func6, Try.ntmps6
        go_wp2_with fail
        refine HCNT.mono ?_
        clear HCNT
        rintro e w0 ⟨rfl, rfl⟩
        go_wp2
        go_ret2
        exact ⟨rfl, Below.refl _ _⟩
      · obtain ⟨L, hL⟩ : ∃ L : Nat, x = (L : Int) := ⟨x.toNat, by omega⟩
        subst hL
        have hL2 : L ≤ 12 := by omega
        obtain ⟨m, hm⟩ : ∃ m, m = (coinsL zs zs.length).length := ⟨_, rfl⟩
        have hmS : (coinsS zs).length = m := by rw [coinsS_len, hm]
        obtain ⟨P2, hP2⟩ : ∃ P2, P2 = 2 ^ L := ⟨_, rfl⟩
        have hNO : ¬ (1 ≤ m ∧ m ≤ P2) := fun h => hno ⟨hc, by omega, by omega, by rw [hmS]; exact h.1, by rw [hmS, Int.toNat_natCast, ← hP2]; exact h.2⟩
        have HP2 : Hid (wrap64 (2 ^ L) = ((P2 : Nat) : Int) ∧ True) := by rw [hP2]; exact ⟨lens_pow hL2, trivial⟩
        have hP2b : P2 ≤ 4096 := by rw [hP2]; exact Nat.pow_le_pow_right (by omega) hL2
        have HCO := coinsOf_any a c zs w hb (by omega) (fun z h => (hzr z h).1)
        have HM : Hid (m = (coinsL zs zs.length).length ∧ True) := ⟨hm, trivial⟩
        have hpw := HP2.out.1
        clear hno hP2 hzr hm hmS hc
        by_cases h3 : m < 1
        · have h3i : (m : Int) < 1 := by omega
          clear hNO
          go_enter Try.func6, Try.ntmps6
          go_wp2_with fail
          refine HCNT.mono ?_
          clear HCNT
          rintro e w0 ⟨rfl, rfl⟩
          go_wp2_with fail
          refine HCO.mono ?_
          clear HCO
          rintro e w1 ⟨v, rfl, hov, hb1⟩
          obtain ⟨la, lc, hv, -, -⟩ := hov.slice
          rw [← HM.out.1] at hv
          subst hv
          clear hov
          go_wp2
          go_ret2
          exact ⟨rfl, hb1⟩
        · have h3i : ¬ (m : Int) < 1 := by omega
          have h4i : (P2 : Int) < (m : Int) := by omega
          clear hNO
          go_enter Try.func6, Try.ntmps6
          go_wp2_with fail
          refine HCNT.mono ?_
          clear HCNT
          rintro e w0 ⟨rfl, rfl⟩
          go_wp2_with fail
          refine HCO.mono ?_
          clear HCO
          rintro e w1 ⟨v, rfl, hov, hb1⟩
          obtain ⟨la, lc, hv, -, -⟩ := hov.slice
          rw [← HM.out.1] at hv
          subst hv
          clear hov
          go_wp2
          go_ret2
          exact ⟨rfl, hb1⟩
  · have hc : cntB zs = false := by simpa using hc
    rw [hc] at HCNT
    go_enter Try.func6, Try.ntmps6
    go_wp2_with fail
    refine HCNT.mono ?_
    clear HCNT
    rintro e w0 ⟨rfl, rfl⟩
    go_wp2
    go_ret2
    exact ⟨rfl, Below.refl _ _⟩

/-- The model and the program answer alike. -/
theorem lens_both (cs : List Int) (x : Int) (hl : cs.length ≤ 1048576) : ∃ (ys : List Int) (ok : Bool), ys.length ≤ 1048576 ∧
    (∀ (a : Option Addr) (cap : Nat) (w : World), Ins w a cs → Calls Try.prog 4 #[.slice a cs.length cap, .int .i64 x] w fun e w' =>
      ∃ a' cp, e = .returned (.tuple #[.slice a' ys.length cp, .bool ok]) ∧ MinI w' w.heap.size w'.heap.size a' cp ys ∧ Below w.heap.size w w') ∧
    (∀ (a : Option Addr) (cap : Nat) (w : World), Ins w a cs → Calls Try.prog 6 #[.slice a cs.length cap, .int .i64 x] w fun e w' =>
      ∃ a' cp, e = .returned (.tuple #[.slice a' ys.length cp, .bool ok]) ∧ MinI w' w.heap.size w'.heap.size a' cp ys ∧ Below w.heap.size w w') := by
  by_cases hok : lensOkB cs x
  · obtain ⟨L, hL⟩ : ∃ L : Nat, x = (L : Int) := ⟨x.toNat, by have := hok.2.1; omega⟩
    subst hL
    have hsl := lensV_len cs L
    refine ⟨lensV cs L, true, by rw [hsl]; omega, ?_, ?_⟩
    · intro a cap w hb
      refine (specLens_yes a cap cs L w hb hok).mono ?_
      rintro e w' ⟨⟨g, rfl, ho⟩, hbb⟩
      exact ⟨_, cs.length, by rw [hsl], ho.mine, hbb⟩
    · intro a cap w hb
      refine (implLens_yes a cap cs L w hb hok).mono ?_
      rintro e w' ⟨⟨g, rfl, ho⟩, hbb⟩
      exact ⟨_, cs.length, by rw [hsl], ho.mine, hbb⟩
  · refine ⟨[], false, by simp, ?_, ?_⟩
    · intro a cap w hb
      refine (specLens_no a cap cs x w hb (by omega) hok).mono ?_
      rintro e w' ⟨rfl, hbb⟩
      exact ⟨none, 0, rfl, .inl ⟨rfl, rfl, rfl⟩, hbb⟩
    · intro a cap w hb
      refine (implLens_no a cap cs x w hb (by omega) hok).mono ?_
      rintro e w' ⟨rfl, hbb⟩
      exact ⟨none, 0, rfl, .inl ⟨rfl, rfl, rfl⟩, hbb⟩
end Go.Proofs.Ytpoonklhdkhdcaa
