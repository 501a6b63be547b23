/-
  math/bits.Reverse16.
-/
import Derived.Test.YtkjebacpmmfflaaDoorHGet6
import Derived.Test.YtkjebacpmmfflaaDoorILensC
import Derived.Test.YtkjebacpmmfflaaDoorIBase
import Derived.Laws.BitsAllLaws
import Derived.BigQuiet
namespace Go.Proofs.YtkjebacpmmfflaaDoor
open Go.RowKit
set_option linter.unusedVariables false

theorem cv_grows (zs : List Int) (L : Nat) : ∀ d, 2 ^ d * cv zs (sbL zs L) L ≤ cv zs (sbL zs (L + d)) (L + d)
  | 0 => by simp
  | d + 1 => by
    have ih := cv_grows zs L d
    have e := cv_full zs (L + d)
    have e2 := fcd_succ zs (L + d)
    show _ ≤ cv zs (sbL zs (L + d + 1)) (L + d + 1)
    rw [e, e2, Nat.pow_succ, Nat.mul_comm (2 ^ d) 2, Nat.mul_assoc]
    omega
theorem atL_less (zs : List Int) (L i k : Nat) (h : i < k) (hz : zs.getD i 0 = (L : Int)) : (atL zs L i).length + 1 ≤ (atL zs L k).length := by
  have h1 := atL_mono zs L (i + 1) k h
  rw [atL_yes zs L i hz] at h1
  simpa using h1
/-- What Codes answers. -/
def csv (zs : List Int) : List Int := (crun zs (sbL zs 12)).2.2
theorem csv_at {zs : List Int} {M s : Nat} (h1 : 1 ≤ M) (h2 : M ≤ 12) (hs : s < zs.length) (hz : zs.getD s 0 = (M : Int)) : (csv zs).getD s 0 = ((fcd zs M + (atL zs M s).length : Nat) : Int) := code_at zs M s h1 h2 hs hz
theorem csv_free {zs : List Int} {L M i k : Nat} (h1 : 1 ≤ L) (hL : L ≤ M) (h2 : M ≤ 12) (hi : i < zs.length) (hk : k < zs.length) (hzi : zs.getD i 0 = (L : Int)) (hzk : zs.getD k 0 = (M : Int)) (hne : i ≠ k) : (csv zs).getD k 0 / 2 ^ (M - L) ≠ (csv zs).getD i 0 := by
  rw [csv_at h1 (by omega) hi hzi, csv_at (by omega) h2 hk hzk]
  intro he
  have he2 : (fcd zs M + (atL zs M k).length) / 2 ^ (M - L) = fcd zs L + (atL zs L i).length := by
    have : ((((fcd zs M + (atL zs M k).length) / 2 ^ (M - L) : Nat)) : Int) = ((fcd zs L + (atL zs L i).length : Nat) : Int) := by simpa using he
    exact Int.ofNat.inj this
  by_cases hML : M = L
  · subst hML
    simp only [Nat.sub_self, Nat.pow_zero, Nat.div_one] at he2
    rcases Nat.lt_or_gt_of_ne hne with h | h
    · have := atL_less zs M i k h hzi
      omega
    · have := atL_less zs M k i h hzk
      omega
  · obtain ⟨d, rfl⟩ : ∃ d, M = L + d + 1 := ⟨M - L - 1, by omega⟩
    have g := cv_grows zs L d
    have e2 := fcd_succ zs (L + d)
    have hc : cv zs (sbL zs L) L = fcd zs L + (atL zs L zs.length).length := by
      obtain ⟨l, rfl⟩ : ∃ l, L = l + 1 := ⟨L - 1, by omega⟩
      exact cv_full zs l
    have hlt := atL_less zs L i zs.length hi hzi
    rw [show L + d + 1 - L = d + 1 by omega] at he2
    have hle : (fcd zs L + (atL zs L i).length + 1) * 2 ^ (d + 1) ≤ fcd zs (L + d + 1) + (atL zs (L + d + 1) k).length := by
      have h3 : (fcd zs L + (atL zs L i).length + 1) * 2 ^ d ≤ cv zs (sbL zs L) L * 2 ^ d := Nat.mul_le_mul_right _ (by omega)
      rw [Nat.mul_comm _ (2 ^ d), Nat.mul_comm _ (2 ^ d)] at h3
      rw [Nat.pow_succ, Nat.mul_comm _ (2 ^ d * 2), Nat.mul_assoc, Nat.mul_left_comm, e2]
      omega
    have h4 := (Nat.le_div_iff_mul_le (Nat.two_pow_pos (d + 1))).2 hle
    omega
/-- The first j bits of the code c of L bits, from its highest on, as a number that has the first one lowest. -/
def rvp (c L : Nat) : Nat → Nat
  | 0 => 0
  | j + 1 => rvp c L j + (c / 2 ^ (L - 1 - j) % 2) * 2 ^ j
theorem rvp_lt (c L j : Nat) : rvp c L j < 2 ^ j := by
  induction j with
  | zero => simp [rvp]
  | succ j ih =>
    simp only [rvp]
    have h1 : c / 2 ^ (L - 1 - j) % 2 ≤ 1 := by omega
    have h2 : (c / 2 ^ (L - 1 - j) % 2) * 2 ^ j ≤ 1 * 2 ^ j := Nat.mul_le_mul_right _ h1
    rw [Nat.pow_succ]
    omega
theorem rvp_congr {c d L M j : Nat} (h : ∀ i, i < j → c / 2 ^ (L - 1 - i) % 2 = d / 2 ^ (M - 1 - i) % 2) : rvp c L j = rvp d M j := by
  induction j with
  | zero => rfl
  | succ j ih =>
    simp only [rvp]
    rw [ih (fun i hi => h i (by omega)), h j (by omega)]
theorem rvp_split (x a b j : Nat) (hj : j ≤ b) : rvp x (a + b) (a + j) = rvp x (a + b) a + 2 ^ a * rvp x b j := by
  induction j with
  | zero => simp [rvp]
  | succ j ih =>
    rw [show a + (j + 1) = (a + j) + 1 from rfl]
    simp only [rvp]
    rw [ih (by omega), show a + b - 1 - (a + j) = b - 1 - j from by omega, Nat.pow_add, Nat.mul_add]
    have e : x / 2 ^ (b - 1 - j) % 2 * (2 ^ a * 2 ^ j) = 2 ^ a * (x / 2 ^ (b - 1 - j) % 2 * 2 ^ j) := by rw [Nat.mul_left_comm]
    rw [e]
    omega
theorem rvp_shift (x L : Nat) (h : L ≤ 16) : rvp x 16 16 / 2 ^ (16 - L) = rvp x L L := by
  have h1 := rvp_split x (16 - L) L L (Nat.le_refl _)
  rw [show 16 - L + L = 16 from by omega] at h1
  rw [h1, Nat.add_mul_div_left _ _ (Nat.pow_pos (by omega)), Nat.div_eq_of_lt (rvp_lt _ _ _), Nat.zero_add]
theorem bit_mod (c k i : Nat) (h : i < k) : c % 2 ^ k / 2 ^ i % 2 = c / 2 ^ i % 2 := by
  have e : 2 ^ k = 2 ^ i * 2 ^ (k - i) := by rw [← Nat.pow_add]; congr 1; omega
  rw [e, Nat.mod_mul_right_div_self]
  have d : 2 ∣ 2 ^ (k - i) := ⟨2 ^ (k - i - 1), by rw [← Nat.pow_succ']; congr 1; omega⟩
  exact Nat.mod_mod_of_dvd _ d
theorem rvp_mod (c L k : Nat) (h : L ≤ k) : rvp (c % 2 ^ k) L L = rvp c L L := rvp_congr (fun i hi => bit_mod c k (L - 1 - i) (by omega))
theorem rvp_16 (x : Nat) : rvp x 16 16 = rvp (x / 256) 8 8 + 256 * rvp (x % 256) 8 8 := by
  have h1 := rvp_split x 8 8 8 (Nat.le_refl _)
  have h2 : rvp x (8 + 8) 8 = rvp (x / 256) 8 8 := rvp_congr (fun i hi => by
    rw [show 8 + 8 - 1 - i = 8 + (8 - 1 - i) from by omega, Nat.pow_add, ← Nat.div_div_eq_div_mul])
  have h3 := rvp_mod x 8 8 (Nat.le_refl _)
  rw [show (8 : Nat) + 8 = 16 from rfl] at h1 h2
  rw [h1, h2, show 256 = 2 ^ 8 from rfl, h3]
theorem u16_and (a : Nat) (h : a < 65536) : bits .and .u16 (a : Int) 255 = ((a % 256 : Nat) : Int) := by
  have e : bits .and .u16 (a : Int) 255 = IntKind.u16.wrap ((BitVec.ofInt 16 (a : Int) &&& BitVec.ofInt 16 255).toNat : Int) := rfl
  rw [e, BitVec.toNat_and]
  have e1 : (BitVec.ofInt 16 (a : Int)).toNat = a := by rw [BitVec.ofInt_natCast, BitVec.toNat_ofNat]; exact Nat.mod_eq_of_lt (by omega)
  have e2 : (BitVec.ofInt 16 255).toNat = 2 ^ 8 - 1 := by decide
  rw [e1, e2, Nat.and_two_pow_sub_one_eq_mod]
  exact IntWalk.u16_in _ (by omega)
theorem u16_or (a b : Nat) (ha : a < 256) (hb : b < 256) : bits .or .u16 (a : Int) ((b * 256 : Nat) : Int) = ((a + 256 * b : Nat) : Int) := by
  have e : bits .or .u16 (a : Int) ((b * 256 : Nat) : Int) = IntKind.u16.wrap ((BitVec.ofInt 16 (a : Int) ||| BitVec.ofInt 16 ((b * 256 : Nat) : Int)).toNat : Int) := rfl
  rw [e, BitVec.toNat_or]
  have e1 : (BitVec.ofInt 16 (a : Int)).toNat = a := by rw [BitVec.ofInt_natCast, BitVec.toNat_ofNat]; exact Nat.mod_eq_of_lt (by omega)
  have e2 : (BitVec.ofInt 16 ((b * 256 : Nat) : Int)).toNat = b * 256 := by rw [BitVec.ofInt_natCast, BitVec.toNat_ofNat]; exact Nat.mod_eq_of_lt (by omega)
  have e3 : a ||| b * 256 = a + 256 * b := by
    rw [Nat.or_comm, Nat.mul_comm, show 256 = 2 ^ 8 from rfl, ← Nat.two_pow_add_eq_or_of_lt (by omega)]
    omega
  rw [e1, e2, e3]
  exact IntWalk.u16_in _ (by omega)

set_option maxRecDepth 100000 in
set_option maxHeartbeats 3200000 in
theorem rev16_any (y z : Nat) (w : World) (hy : y < 256) (hz : z < 256) :
    Calls Tryd.prog 76 #[.int .u16 ((y * 256 + z : Nat) : Int)] w fun e w' => e = .returned (.int .u16 ((rvp y 8 8 + 256 * rvp z 8 8 : Nat) : Int)) ∧ ∃ m, w' = w.drewN m := by
  have h1 : bits .and .u16 ((y * 256 + z : Nat) : Int) 255 = ((z : Nat) : Int) := by
    rw [u16_and _ (by omega)]
    congr 1
    omega
  have h2 : (((y * 256 + z : Nat) : Int)) / 256 = ((y : Nat) : Int) := by omega
  have hyI : (y : Int) < 256 := by omega
  have hzI : (z : Int) < 256 := by omega
  generalize ((y * 256 + z : Nat) : Int) = x at *
  go_enter Tryd.func76, Tryd.ntmps76
  go_wp2
  go_quiet (fail)
  go_wp2
  go_ret
  refine ⟨ret_int ?_, _, rfl⟩
  have e : ∀ (n : Nat) (S : ByteArray) (h : n < S.size), S[n] = S.data.toList.getD n 0 := by
    intro n S h
    have h' : n < S.data.toList.length := by simpa using h
    rw [List.getD_eq_getElem?_getD, List.getElem?_eq_getElem h']
    rfl
  rw [e y, e z]
  clear e h1 h2 hyI hzI
  have H : ∀ (L : List UInt8), (∀ n : Nat, n < 256 → (L.getD n 0).toNat = rvp n 8 8) → bits .or .u16 (IntKind.u16.wrap ((L.getD y 0).toNat : Int)) (IntKind.u16.wrap (IntKind.u16.wrap ((L.getD z 0).toNat : Int) * 256)) = ((rvp y 8 8 + 256 * rvp z 8 8 : Nat) : Int) := by
    intro L hL
    rw [hL y hy, hL z hz]
    have r1 : rvp y 8 8 < 256 := rvp_lt y 8 8
    have r2 : rvp z 8 8 < 256 := rvp_lt z 8 8
    generalize rvp y 8 8 = p at *
    generalize rvp z 8 8 = q at *
    rw [IntWalk.u16_in (p : Int) (by omega), IntWalk.u16_in (q : Int) (by omega), IntWalk.u16_in ((q : Int) * 256) (by omega), show ((q : Int) * 256) = ((q * 256 : Nat) : Int) from by simp]
    exact u16_or p q r1 r2
  exact H _ (by decide +kernel)

set_option maxHeartbeats 800000 in
theorem rev16_rvp (c : Nat) (w : World) (h : c < 65536) :
    Calls Tryd.prog 76 #[.int .u16 (c : Int)] w fun e w' => e = .returned (.int .u16 ((rvp c 16 16 : Nat) : Int)) ∧ ∃ m, w' = w.drewN m := by
  have := rev16_any (c / 256) (c % 256) w (by omega) (by omega)
  rw [show c / 256 * 256 + c % 256 = c from by omega, ← rvp_16 c] at this
  exact this
end Go.Proofs.YtkjebacpmmfflaaDoor
