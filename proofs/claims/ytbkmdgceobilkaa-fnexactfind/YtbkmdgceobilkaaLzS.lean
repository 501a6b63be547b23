/-
  Longest of the model.
-/
import Derived.BigQuiet
import Derived.Test.YtbkmdgceobilkaaBase
import Derived.Test.YtbkmdgceobilkaaLzM
namespace Go.Proofs.Ytbkmdgceobilkaa
open Go.RowKit
set_option linter.unusedVariables false
set_option linter.unusedSimpArgs false

set_option maxRecDepth 20000 in
set_option maxHeartbeats 8000000 in
theorem l4longest_any (a : Option Addr) (c : Nat) (ys : List Int) (p : Nat) (w : World) (hb : Byt w a ys) (hn : ys.length ≤ 64) (hp : p < ys.length) :
    Calls Try.prog 15 #[.slice a ys.length c, .int .i64 p] w fun e w' => e = .returned (.tuple #[.int .i64 (lzA ys p).1, .int .i64 (lzA ys p).2]) ∧ Below w.heap.size w w' := by
  obtain ⟨b1, o1, rfl, hb1, hc1⟩ := hb.2 (by omega)
  have HC : Hid (∀ i, i < ys.length → w.cell? ⟨b1, o1 + i, none⟩ = some (.int .u8 (ys.getD i 0))) := hc1
  have HIS : Hid (∀ d m, d ≤ p → p + m ≤ ys.length → (∀ j, j < m → ys.getD (p - d + j) 0 = ys.getD (p + j) 0) → (p + m < ys.length → ys.getD (p - d + m) 0 ≠ ys.getD (p + m) 0) → alk ys (p - d) p = m) := fun d m _ h1 h2 h3 => alk_is ys _ _ m h1 h2 h3
  have HD : Hid (∀ k, lzD ys p (k + 1) = if (lzD ys p k).1 < alk ys (p - (k + 1)) p then (alk ys (p - (k + 1)) p, k + 1) else lzD ys p k) := fun k => rfl
  have HA : Hid (lzA ys p = if (lzD ys p p).1 < 3 then (0, 0) else lzD ys p p) := rfl
  have HB : Hid (∀ k, (lzD ys p k).1 ≤ ys.length) := fun k => by
    rcases (lzD_spec ys p k).2 with h | ⟨d, _, _, h, _⟩
    · rw [h]; exact Nat.zero_le _
    · rw [h]; have := alk_le ys (p - d) p; simp only; omega
  clear hb hc1
  generalize hL : ys.length = n at *
  have HL : Hid (ys.length = n ∧ True) := ⟨hL, trivial⟩
  clear hL
  go_enter Try.func15, Try.ntmps15
  go_wp2
  go_loopw [6, 7, 8] (fun bs bd dd W => ∃ (k x y : Nat), k ≤ p ∧ lzD ys p k = (x, y) ∧ bs = .int .i64 x ∧ bd = .int .i64 y ∧ dd = .int .i64 ((k + 1 : Nat) : Int) ∧ Below w.heap.size w W) (fun _ _ dd _ => p + 1 - (intOf dd).toNat)
  case atStart => exact ⟨0, 0, 0, Nat.zero_le _, rfl, rfl, rfl, rfl, Below.refl _ _⟩
  case round =>
    obtain ⟨k, x, y, hk, hxy, rfl, rfl, rfl, hbel⟩ := hrel
    have HR : Hid (lzD ys p k = (x, y) ∧ Below w.heap.size w wr) := ⟨hxy, hbel⟩
    have hxn : x ≤ n := by have := HB.out k; rw [hxy] at this; exact this
    clear hxy hbel
    by_cases hlt : k < p
    · have hlt2 : ((k + 1 : Nat) : Int) ≤ (p : Int) := by omega
      go_wp2
      go_loopw [9] (fun mm W => ∃ m : Nat, p + m ≤ n ∧ mm = .int .i64 m ∧ (∀ j, j < m → ys.getD (p - (k + 1) + j) 0 = ys.getD (p + j) 0) ∧ Below w.heap.size w W) (fun mm _ => n - (intOf mm).toNat)
      case atStart => exact ⟨0, by omega, rfl, fun j hj => by omega, HR.out.2⟩
      case round =>
        obtain ⟨m, hm, rfl, hal, hbel2⟩ := hrel
        have HM : Hid ((∀ j, j < m → ys.getD (p - (k + 1) + j) 0 = ys.getD (p + j) 0) ∧ Below w.heap.size w wr) := ⟨hal, hbel2⟩
        have HBD : Hid (∀ nq, Below w.heap.size w (wr.drewN nq)) := fun nq => ⟨hbel2.os, hbel2.tape, hbel2.output, hbel2.size, hbel2.block⟩
        clear hal hbel2
        by_cases hlm : p + m < n
        · obtain ⟨q, hq⟩ : ∃ q : Nat, q = p + m := ⟨_, rfl⟩
          obtain ⟨r, hr⟩ : ∃ r : Nat, r = p - (k + 1) + m := ⟨_, rfl⟩
          have c0 := keep HM.out.2 hb1 (HC.out q (by omega))
          have c1 := keep HM.out.2 hb1 (HC.out r (by omega))
          have hb1w : b1 < wr.heap.size := by have := HM.out.2.size; omega
          have hqi : (p : Int) + (m : Int) = (q : Int) := by omega
          have hri : (q : Int) - ((k : Int) + 1) = (r : Int) := by omega
          have hql : (q : Int) < (n : Int) := by omega
          have hrl : (r : Int) < (n : Int) := by omega
          have HQR : Hid (q = p + m ∧ r = p - (k + 1) + m) := ⟨hq, hr⟩
          clear hq hr
          obtain ⟨z0, hz0⟩ : ∃ z, ys.getD q 0 = z := ⟨_, rfl⟩
          obtain ⟨z1, hz1⟩ : ∃ z, ys.getD r 0 = z := ⟨_, rfl⟩
          have HZ : Hid (ys.getD q 0 = z0 ∧ ys.getD r 0 = z1) := ⟨hz0, hz1⟩
          rw [hz0] at c0
          rw [hz1] at c1
          clear hz0 hz1
          by_cases he : z0 = z1
          · subst he
            have hd : (z0 == z0) = true := by simp
            have HN : Hid (∀ j, j < m + 1 → ys.getD (p - (k + 1) + j) 0 = ys.getD (p + j) 0) := fun j hj => by
              rcases Nat.lt_or_ge j m with h | h
              · exact HM.out.1 j h
              · rw [show j = m by omega, ← HQR.out.1, ← HQR.out.2, HZ.out.1, HZ.out.2]
            go_wp2
            go_quiet (fail)
            go_wp2
            go_roundw
            case rel => exact ⟨m + 1, by omega, by go_num, HN.out, HBD.out _⟩
            case measure => simp [intOf]; omega
          · have hd : (z0 == z1) = false := by simp; exact he
            have HN : Hid (ys.getD (p - (k + 1) + m) 0 ≠ ys.getD (p + m) 0) := by
              unfold Hid
              rw [← HQR.out.1, ← HQR.out.2, HZ.out.1, HZ.out.2]
              exact fun e => he e.symm
            have HE : Hid (alk ys (p - (k + 1)) p = m) := HIS.out (k + 1) m (by omega) hm HM.out.1 (fun _ => HN.out)
            have hm2 : m ≤ n := by omega
            by_cases hxm : x < m
            · have hxm2 : (x : Int) < (m : Int) := by omega
              have HL2 : Hid (lzD ys p (k + 1) = (m, k + 1)) := by unfold Hid; rw [HD.out k, HR.out.1, HE.out, if_pos hxm]
              go_wp2
              go_quiet (fail)
              go_wp2
              go_roundw
              case rel => exact ⟨k + 1, m, k + 1, by omega, HL2.out, rfl, rfl, by go_num, HBD.out _⟩
              case measure => simp [intOf]; omega
            · have hxm2 : ¬ (x : Int) < (m : Int) := by omega
              have HL2 : Hid (lzD ys p (k + 1) = (x, y)) := by unfold Hid; rw [HD.out k, HR.out.1, HE.out, if_neg hxm]
              go_wp2
              go_quiet (fail)
              go_wp2
              go_roundw
              case rel => exact ⟨k + 1, x, y, by omega, HL2.out, rfl, rfl, by go_num, HBD.out _⟩
              case measure => simp [intOf]; omega
        · have hql : ¬ (p : Int) + (m : Int) < (n : Int) := by omega
          have hd : decide ((p : Int) + (m : Int) < (n : Int)) = false := decide_eq_false hql
          have HE : Hid (alk ys (p - (k + 1)) p = m) := HIS.out (k + 1) m (by omega) hm HM.out.1 (fun h => absurd h hlm)
          have hm2 : m ≤ n := by omega
          by_cases hxm : x < m
          · have hxm2 : (x : Int) < (m : Int) := by omega
            have HL2 : Hid (lzD ys p (k + 1) = (m, k + 1)) := by unfold Hid; rw [HD.out k, HR.out.1, HE.out, if_pos hxm]
            go_wp2
            go_quiet (fail)
            go_wp2
            go_roundw
            case rel => exact ⟨k + 1, m, k + 1, by omega, HL2.out, rfl, rfl, by go_num, HBD.out _⟩
            case measure => simp [intOf]; omega
          · have hxm2 : ¬ (x : Int) < (m : Int) := by omega
            have HL2 : Hid (lzD ys p (k + 1) = (x, y)) := by unfold Hid; rw [HD.out k, HR.out.1, HE.out, if_neg hxm]
            go_wp2
            go_quiet (fail)
            go_wp2
            go_roundw
            case rel => exact ⟨k + 1, x, y, by omega, HL2.out, rfl, rfl, by go_num, HBD.out _⟩
            case measure => simp [intOf]; omega
    · have hkp : k = p := by omega
      subst hkp
      have hlt2 : ¬ ((k + 1 : Nat) : Int) ≤ (k : Int) := by omega
      by_cases h3 : x < 3
      · have h32 : (x : Int) < 3 := by omega
        have HE : Hid (lzA ys k = (0, 0)) := by unfold Hid; rw [HA.out, HR.out.1, if_pos h3]
        go_wp2
        refine bodyPost_ret (v := .tuple #[.int .i64 0, .int .i64 0]) (by simp [results, Try.results15, go_sem]) rfl ⟨?_, HR.out.2⟩
        rw [HE.out]
        rfl
      · have h32 : ¬ (x : Int) < 3 := by omega
        have HE : Hid (lzA ys k = (x, y)) := by unfold Hid; rw [HA.out, HR.out.1, if_neg h3]
        go_wp2
        refine bodyPost_ret (v := .tuple #[.int .i64 x, .int .i64 y]) (by simp [results, Try.results15, go_sem]) rfl ⟨?_, HR.out.2⟩
        rw [HE.out]
end Go.Proofs.Ytbkmdgceobilkaa
