/-
  Norm of the program: the symbol that gets one more; all shares.
-/
import Derived.Test.YtmhpgkfaihcmeaaDoorICntI
import Derived.Test.YtmhpgkfaihcmeaaDoorINorm2
namespace Go.Proofs.YtmhpgkfaihcmeaaDoor
open Go.RowKit
set_option linter.unusedVariables false

set_option maxHeartbeats 1600000 in
theorem needy_any (a : Option Addr) (cap : Nat) (cs : List Int) (b : Option Addr) (cb : Nat) (ns : List Int) (j : Nat) (w : World) (ha : Ins w a cs) (hb : Ins w b ns) (hn : cs.length ≤ 80) (hc : ∀ i, i < cs.length → 0 ≤ cs.getD i 0 ∧ cs.getD i 0 ≤ 1000000) (hj : j ≤ 64) (hf : Fair cs ns j) :
    Calls Tryd.prog 29 #[.slice a cs.length cap, .slice b cs.length cb] w fun e w' => e = .returned (.int .i64 (pick cs ns cs.length)) ∧ ∃ m, w' = w.drewN m := by
  have HF : Hid (Fair cs ns j) := hf
  have HC : Hid (∀ i, i < cs.length → 0 ≤ cs.getD i 0 ∧ cs.getD i 0 ≤ 1000000) := hc
  have HQ : Hid (ns.length = cs.length) := hf.1
  clear hf hc
  generalize hlen : cs.length = n at *
  have HL : Hid (cs.length = n) := hlen
  clear hlen
  go_enter Tryd.func29, Tryd.ntmps29
  go_wp2
  go_loopw [5, 10] (fun x i wr => ∃ k m : Nat, k ≤ n ∧ i = .int .i64 k ∧ x = .int .i64 (pick cs ns k) ∧ wr = w.drewN m) (fun _ i _ => n - (intOf i).toNat)
  case atStart => exact ⟨0, 0, Nat.zero_le _, rfl, rfl, rfl⟩
  case round =>
    obtain ⟨k, m, hk, rfl, rfl, rfl⟩ := hrel
    by_cases hlt : k < n
    · obtain ⟨b1, o1, rfl, hb1, hc1⟩ := ha.len_pos k (by rw [HL.out]; exact hlt)
      obtain ⟨b2, o2, rfl, hb2, hc2⟩ := hb.len_pos k (by rw [HQ.out]; exact hlt)
      have hs1 := hc1 k (by rw [HL.out]; exact hlt)
      have hs2 := hc2 k (by rw [HQ.out]; exact hlt)
      have hx := HC.out k hlt
      have hy := HF.out.bnd k
      have hfk := HF.out.2 k (by rw [HL.out]; exact hlt)
      have hp := pick_rng cs ns k
      by_cases hsh : ns.getD k 0 = 0
      · have hno : ¬ ahead cs ns (pick cs ns k) k := fun h => by have := hfk.1 h.1; omega
        have HP : Hid (pick cs ns (k + 1) = pick cs ns k) := pick_no hno
        clear hno hfk hc1 hc2 hx
        rw [hsh] at hs2
        clear hsh hy
        generalize pick cs ns k = p at *
        go_wp2
        go_roundw
        case rel => exact ⟨k + 1, _, by omega, by go_num, by rw [HP.out], rfl⟩
        case measure => simp [intOf]; omega
      · have hpos : 0 < cs.getD k 0 := by
          by_cases h : 0 < cs.getD k 0
          · exact h
          · exact absurd (hfk.2 h) hsh
        by_cases hpn : pick cs ns k < 0
        · have HP : Hid (pick cs ns (k + 1) = k) := pick_yes ⟨hpos, .inl hpn⟩
          clear hfk hc1 hc2
          generalize pick cs ns k = p at *
          generalize cs.getD k 0 = x at *
          generalize ns.getD k 0 = y at *
          go_wp2
          go_quiet (fail)
          go_wp2
          go_roundw
          case rel => exact ⟨k + 1, _, by omega, by go_num, by rw [HP.out], rfl⟩
          case measure => simp [intOf]; omega
        · have HPY : Hid _ := @pick_yes cs ns k
          have HPN : Hid _ := @pick_no cs ns k
          have HPP : Hid (ahead cs ns (pick cs ns k) k ↔ cs.getD (pick cs ns k).toNat 0 * ns.getD k 0 < cs.getD k 0 * ns.getD (pick cs ns k).toNat 0) := by
            unfold Hid ahead
            constructor
            · rintro ⟨_, h | h⟩
              · exact absurd h hpn
              · exact h
            · exact fun h => ⟨hpos, .inr h⟩
          clear hfk
          generalize pick cs ns k = p at *
          obtain ⟨q, rfl⟩ : ∃ q : Nat, p = q := ⟨p.toNat, by omega⟩
          simp only [Int.toNat_natCast] at HPP
          have hs3 := hc1 q (by rw [HL.out]; omega)
          have hs4 := hc2 q (by rw [HQ.out]; omega)
          have hu := HC.out q (by omega)
          have hqn : q < n := by omega
          have hv := HF.out.bnd q
          clear hc1 hc2 hp hpn
          generalize cs.getD k 0 = x at *
          generalize ns.getD k 0 = y at *
          generalize cs.getD q 0 = u at *
          generalize ns.getD q 0 = v at *
          have m1 := mulb hx (show 0 ≤ v ∧ v ≤ 65 by omega)
          have m2 := mulb hu (show 0 ≤ y ∧ y ≤ 65 by omega)
          have hw1 : IntKind.i64.wrap (x * v) = x * v := IntWalk.i64_in _ (by omega)
          have hw2 : IntKind.i64.wrap (u * y) = u * y := IntWalk.i64_in _ (by omega)
          by_cases hcmp : u * y < x * v
          · have HP : Hid (pick cs ns (k + 1) = k) := HPY.out (HPP.out.2 hcmp)
            clear HPY HPN HPP
            go_wp2
            go_quiet (fail)
            go_wp2
            go_roundw
            case rel => exact ⟨k + 1, _, by omega, by go_num, by rw [HP.out], rfl⟩
            case measure => simp [intOf]; omega
          · have HP : Hid (pick cs ns (k + 1) = q) := HPN.out (fun h => hcmp (HPP.out.1 h))
            clear HPY HPN HPP
            go_wp2
            go_quiet (fail)
            go_wp2
            go_roundw
            case rel => exact ⟨k + 1, _, by omega, by go_num, by rw [HP.out], rfl⟩
            case measure => simp [intOf]; omega
    · have hkn : k = n := by omega
      subst hkn
      go_wp2
      go_ret
      exact ⟨rfl, _, rfl⟩
end Go.Proofs.YtmhpgkfaihcmeaaDoor
