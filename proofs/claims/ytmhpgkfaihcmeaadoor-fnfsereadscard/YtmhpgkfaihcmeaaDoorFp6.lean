/-
  l3has and l3put of the model.
-/
import Derived.Test.YtmhpgkfaihcmeaaDoorSp3
import Derived.Test.YtmhpgkfaihcmeaaDoorFp3
import Derived.Test.YtmhpgkfaihcmeaaDoorInR
import Derived.Test.YtmhpgkfaihcmeaaDoorWCells
namespace Go.Proofs.YtmhpgkfaihcmeaaDoor
open Go.RowKit
set_option linter.unusedVariables false

theorem lt_powP {pp z bb : Nat} (h : pp - z < 2 ^ bb) (hz : z ≤ pp) : (pp : Int) - (z : Int) < 2 ^ ((bb : Int)).toNat := by
  have e : ((2 : Int) ^ bb) = ((2 ^ bb : Nat) : Int) := by simp
  rw [Int.toNat_natCast, e]
  generalize 2 ^ bb = P at *
  omega
set_option maxHeartbeats 2000000 in
theorem l3has_any (a : Option Addr) (ca : Nat) (ls : List Int) (b : Option Addr) (cb : Nat) (ts : List Int) (w : World) (ha : Ins w a ls) (hb : Ins w b ts) (hl : ls.length ≤ 80) (htl : ts.length ≤ 300) (hts : ∀ k, k < ts.length → 0 ≤ ts.getD k 0 ∧ ts.getD k 0 < ls.length) :
    Calls Tryd.prog 46 #[.slice a ls.length ca, .slice b ts.length cb] w fun e w' => e = .returned (.bool (decide (shd ls ts))) ∧ w' = w := by
  have HP : Hid (Ins w a ls ∧ Ins w b ts ∧ ∀ k, k < ts.length → 0 ≤ ts.getD k 0 ∧ ts.getD k 0 < ls.length) := ⟨ha, hb, hts⟩
  clear ha hb hts
  generalize hD : decide (shd ls ts) = d
  have HD : Hid (decide (shd ls ts) = d ∧ True) := ⟨hD, trivial⟩
  clear hD
  go_enter Tryd.func46, Tryd.ntmps46
  go_wp2
  go_loop [5] (fun i => ∃ k : Nat, k ≤ ts.length ∧ i = .int .i64 k ∧ ∀ j, j < k → ls.getD (ts.getD j 0).toNat 0 ≠ 0) (fun i => ts.length - (intOf i).toNat)
  case atStart => exact ⟨0, Nat.zero_le _, rfl, fun j hj => by omega⟩
  case round =>
    obtain ⟨k, hk, rfl, hn⟩ := hrel
    have HN : Hid (∀ j, j < k → ls.getD (ts.getD j 0).toNat 0 ≠ 0) := hn
    clear hn
    by_cases hlt : k < ts.length
    · have hsr := HP.out.2.2 k hlt
      obtain ⟨b1, o1, rfl, hb1, hc1⟩ := HP.out.2.1.len_pos k hlt
      have hs0 := hc1 k hlt
      obtain ⟨s, hse⟩ := Int.eq_ofNat_of_zero_le hsr.1
      rw [hse] at hs0 hsr
      have hsl : s < ls.length := by omega
      obtain ⟨b2, o2, rfl, hb2, hc2⟩ := HP.out.1.len_pos s hsl
      have hl0 := hc2 s hsl
      have HS : Hid (ts.getD k 0 = (s : Int) ∧ True) := ⟨hse, trivial⟩
      clear hc1 hc2 hse
      by_cases h0 : ls.getD s 0 = 0
      · have HF : Hid (¬ shd ls ts) := fun h => h k hlt (by rw [HS.out.1, Int.toNat_natCast]; exact h0)
        rw [h0] at hl0
        clear h0
        go_wp2
        go_ret
        exact ⟨by rw [← HD.out.1, decide_eq_false HF.out]; rfl, rfl⟩
      · have HN2 : Hid (∀ j, j < k + 1 → ls.getD (ts.getD j 0).toNat 0 ≠ 0) := by
          intro j hj
          by_cases e : j = k
          · subst e; rw [HS.out.1, Int.toNat_natCast]; exact h0
          · exact HN.out j (by omega)
        have hne : (ls.getD s 0 == 0) = false := by simpa using h0
        generalize ls.getD s 0 = v at *
        clear h0
        go_wp2
        go_round
        case rel => exact ⟨k + 1, by omega, by go_num, HN2.out⟩
        case measure => simp [intOf]; omega
    · have HF : Hid (shd ls ts) := fun j hj => HN.out j (by omega)
      go_wp2
      go_ret
      exact ⟨by rw [← HD.out.1, decide_eq_true HF.out]; rfl, rfl⟩

end Go.Proofs.YtmhpgkfaihcmeaaDoor
