/-
  What eqByteS answers.
-/
import Derived.Test.YtbkmdgceobilkaaBase
namespace Go.Proofs.Ytbkmdgceobilkaa
open Go.RowKit
set_option linter.unusedVariables false

set_option maxHeartbeats 800000 in
theorem eqByteS_any (a b : Option Addr) (ca cb : Nat) (xs ys : List Int) (w : World) (ha : Byt w a xs) (hb : Byt w b ys) (hx : xs.length ≤ 281474976710656) (hy : ys.length ≤ 281474976710656) :
    Calls Try.prog 8 #[.slice a xs.length ca, .slice b ys.length cb] w fun e w' => e = .returned (.bool (decide (xs = ys))) ∧ ∃ n, w' = w.drewN n := by
  by_cases hl : xs.length = ys.length
  · generalize hlx : xs.length = n at *
    have HX : Hid (xs.length = n) := hlx
    have HY : Hid (ys.length = n) := hl.symm
    rw [← hl]
    have hnn : ((n : Int) != (n : Int)) = false := by simp
    clear hlx hl hy
    go_enter Try.func8, Try.ntmps8
    go_wp2
    go_loopw [5] (fun i wr => ∃ k m : Nat, k ≤ n ∧ i = .int .i64 k ∧ wr = w.drewN m ∧ xs.take k = ys.take k) (fun i _ => n - (intOf i).toNat)
    case atStart => exact ⟨0, 0, Nat.zero_le _, rfl, rfl, by simp⟩
    case round =>
      obtain ⟨k, m, hk, rfl, rfl, htk⟩ := hrel
      have HT : Hid (xs.take k = ys.take k) := htk
      clear htk
      by_cases hlt : k < n
      · obtain ⟨b1, o1, rfl, hb1, hc1⟩ := ha.len_pos k (by rw [HX.out]; exact hlt)
        obtain ⟨b2, o2, rfl, hb2, hc2⟩ := hb.len_pos k (by rw [HY.out]; exact hlt)
        have hs1 := hc1 k (by rw [HX.out]; exact hlt)
        have hs2 := hc2 k (by rw [HY.out]; exact hlt)
        have g1 := getD_rng ha.1 k
        have g2 := getD_rng hb.1 k
        clear hc1 hc2 ha hb
        generalize hx1 : xs.getD k 0 = x1 at *
        generalize hy1 : ys.getD k 0 = y1 at *
        have HX1 : Hid (xs.getD k 0 = x1) := hx1
        have HY1 : Hid (ys.getD k 0 = y1) := hy1
        clear hx1 hy1
        by_cases hxy : x1 = y1
        · subst hxy
          have hq : (x1 != x1) = false := by simp
          have HT' : Hid (xs.take (k + 1) = ys.take (k + 1)) := take_eq_succ HT.out (by rw [HX.out]; exact hlt) (by rw [HY.out]; exact hlt) (by rw [HX1.out, HY1.out])
          go_wp2
          go_quiet (fail)
          go_wp2
          go_roundw
          case rel => exact ⟨k + 1, _, by omega, by go_num, rfl, HT'.out⟩
          case measure => simp [intOf]; omega
        · have hq : (x1 != y1) = true := by rw [bne_iff_ne]; exact hxy
          have HN : Hid (decide (xs = ys) = false) := by
            have : xs ≠ ys := ne_of_getD (k := k) (by rw [HX1.out, HY1.out]; exact hxy)
            simpa [Hid] using this
          clear hxy
          go_wp2
          go_quiet (fail)
          go_wp2
          go_ret
          exact ⟨by rw [HN.out]; rfl, _, World.drewN_drewN ..⟩
      · have HE : Hid (decide (xs = ys) = true) := by
          have h1 := HT.out
          rw [List.take_of_length_le (by rw [HX.out]; omega), List.take_of_length_le (by rw [HY.out]; omega)] at h1
          simpa [Hid] using h1
        go_wp2
        go_ret
        exact ⟨by rw [HE.out]; rfl, _, rfl⟩
  · have hne : decide (xs = ys) = false := by simp; intro h; exact hl (by rw [h])
    have hl' : ((xs.length : Int) != (ys.length : Int)) = true := by rw [bne_iff_ne]; omega
    rw [hne]
    go_enter Try.func8, Try.ntmps8
    go_wp2
    go_ret
    exact ⟨rfl, 0, rfl⟩

theorem eqByteS_yes (a b : Option Addr) (ca cb : Nat) (xs : List Int) (w : World) (ha : Byt w a xs) (hb : Byt w b xs) (hx : xs.length ≤ 281474976710656) :
    Calls Try.prog 8 #[.slice a xs.length ca, .slice b xs.length cb] w fun e w' => e = .returned (.bool true) ∧ ∃ n, w' = w.drewN n := by
  refine (eqByteS_any a b ca cb xs xs w ha hb hx hx).mono ?_
  rintro e w' ⟨rfl, h⟩
  exact ⟨by simp, h⟩

end Go.Proofs.Ytbkmdgceobilkaa
