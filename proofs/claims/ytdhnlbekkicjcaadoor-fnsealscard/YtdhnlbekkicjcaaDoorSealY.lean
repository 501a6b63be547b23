/-
  What is sealed is opened, and the other way round, as numbers; BitsOpen of the program once more.
-/
import Derived.Test.YtdhnlbekkicjcaaDoorOpen3
import Derived.Test.YtdhnlbekkicjcaaDoorDrD
namespace Go.Proofs.YtdhnlbekkicjcaaDoor
open Go.RowKit
set_option linter.unusedVariables false

theorem val_last (zs : List Int) : ∀ L, zs.length = L + 1 → val zs = val (zs.take L) + 256 ^ L * (zs.getD L 0).toNat := by
  induction zs with
  | nil => intro L h; simp at h
  | cons z zs ih =>
    intro L h
    cases L with
    | zero =>
      have : zs = [] := List.eq_nil_of_length_eq_zero (by simpa using h)
      subst this
      simp [val]
    | succ L =>
      have := ih L (by simpa using h)
      simp only [val, List.take_succ_cons, List.getD_cons_succ]
      rw [this, Nat.pow_succ]
      generalize 256 ^ L = P
      generalize (zs.getD L 0).toNat = x
      rw [Nat.mul_add, show P * 256 * x = 256 * (P * x) from by rw [Nat.mul_comm P 256, Nat.mul_assoc]]
      omega
theorem val_set (zs : List Int) (L : Nat) (x : Int) (h : zs.length = L + 1) : val (zs.set L x) = val (zs.take L) + 256 ^ L * x.toNat := by
  rw [val_last (zs.set L x) L (by rw [List.length_set]; exact h), List.take_set_of_le (Nat.le_refl _)]
  congr 2
  rw [List.getD_eq_getElem?_getD, List.getElem?_set_self (by omega)]
  rfl
theorem open_num (zs : List Int) (L b t : Nat) (hL : zs.length = L + 1) (ht : zs.getD L 0 = (t : Int)) (h1 : 2 ^ b ≤ t) (h2 : t < 2 ^ (b + 1)) : val (openY zs L b t) + 2 ^ (8 * L + b) = val zs := by
  have hv := val_last zs L hL
  rw [ht, Int.toNat_natCast, pow256] at hv
  by_cases hb : b = 0
  · subst hb
    rw [openY, if_pos rfl, hv]
    have : t = 1 := by simp at h1 h2; omega
    subst this
    simp
  · rw [openY, if_neg hb, val_set zs L _ hL, Int.toNat_natCast, hv, pow256, Nat.pow_add]
    generalize 2 ^ (8 * L) = P at *
    generalize 2 ^ b = Q at *
    have e : t = (t - Q) + Q := by omega
    have : P * t = P * (t - Q) + P * Q := by rw [← Nat.mul_add]; congr 1
    omega
theorem top_bitY : ∀ t, t < 256 → 0 < t → ∃ b, b < 8 ∧ 2 ^ b ≤ t ∧ t < 2 ^ (b + 1) := by
  intro t h1 h2
  refine ⟨Nat.log2 t, ?_, Nat.log2_self_le (by omega), Nat.lt_log2_self⟩
  have : Nat.log2 t < 8 := (Nat.log2_lt (by omega)).2 h1
  exact this

theorem open_yesE (a : Option Addr) (cap k V : Nat) (zs : List Int) (w : World) (hV : V < 2 ^ k) (hk : k ≤ 4096) (hz : zs = enc (k + 1) (V + 2 ^ k)) (hb : Byt w a zs) :
    Calls Tryd.prog 18 #[.slice a zs.length cap] w fun e w' => ∃ a' cp, e = .returned (.tuple #[.agg #[.slice a' (enc k V).length cp, .int .i64 k], .bool true]) ∧ Mine w' w.heap.size w'.heap.size a' cp (enc k V) ∧ Below w.heap.size w w' := by
  have hlen : zs.length = k / 8 + 1 := by rw [hz, enc_len]; omega
  have hkb : 8 * (k / 8) + k % 8 = k := by omega
  obtain ⟨t, ht, h1, h2⟩ : ∃ t : Nat, zs.getD (k / 8) 0 = (t : Int) ∧ 2 ^ (k % 8) ≤ t ∧ t < 2 ^ (k % 8 + 1) := by
    refine ⟨(V + 2 ^ k) / 256 ^ (k / 8), ?_, ?_, ?_⟩
    · rw [hz]
      unfold enc
      rw [encL_get _ _ _ (by omega)]
      congr 1
      refine Nat.mod_eq_of_lt ?_
      rw [pow256]
      refine Nat.div_lt_of_lt_mul ?_
      have : V + 2 ^ k < 2 ^ (k + 1) := by rw [Nat.pow_succ]; omega
      refine Nat.lt_of_lt_of_le this ?_
      rw [show 256 = 2 ^ 8 from rfl, ← Nat.pow_add]
      exact Nat.pow_le_pow_right (by omega) (by omega)
    · rw [pow256]
      refine (Nat.le_div_iff_mul_le (Nat.pow_pos (by omega))).2 ?_
      rw [← Nat.pow_add, show k % 8 + 8 * (k / 8) = k from by omega]
      omega
    · rw [pow256]
      refine Nat.div_lt_of_lt_mul ?_
      rw [← Nat.pow_add, show 8 * (k / 8) + (k % 8 + 1) = k + 1 from by omega, Nat.pow_succ]
      omega
  have hn : 8 * (k / 8) + k % 8 ≤ 4096 := by omega
  have HO := implOpen_yes a cap zs (k / 8) (k % 8) t w hb hlen ht h1 h2 (by omega) hn
  have hnum := open_num zs (k / 8) (k % 8) t hlen ht h1 h2
  have hok := okB_open zs (k / 8) (k % 8) t hlen h1 h2 (by omega)
  rw [decide_eq_true hn] at hok
  have hvz : val zs = V + 2 ^ k := by rw [hz]; exact val_encB (k + 1) _ (by rw [Nat.pow_succ]; omega)
  have hrng : ∀ z ∈ openY zs (k / 8) (k % 8) t, 0 ≤ z ∧ z ≤ 255 := by
    intro z hzz
    unfold openY at hzz
    split at hzz
    · exact hb.1 z (List.mem_of_mem_take hzz)
    · rcases List.mem_or_eq_of_mem_set hzz with h | rfl
      · exact hb.1 z h
      · have : 2 ^ (k % 8 + 1) ≤ 2 ^ 8 := Nat.pow_le_pow_right (by omega) (by omega)
        omega
  obtain ⟨m, hm1, hm2, hm3, hm4⟩ := okB_enc hok hrng
  rw [hkb] at hm1 hnum HO
  obtain rfl : k = m := by omega
  have hvo : val (openY zs (k / 8) (k % 8) t) = V := by omega
  rw [hvo] at hm3
  rw [hm3] at HO
  rw [hlen]
  exact HO

theorem open_noE (a : Option Addr) (cap : Nat) (zs : List Int) (w : World) (hb : Byt w a zs) (hl : zs.length ≤ 1048576) (h : ¬ ∃ k V, V < 2 ^ k ∧ k ≤ 4096 ∧ zs = enc (k + 1) (V + 2 ^ k)) :
    Calls Tryd.prog 18 #[.slice a zs.length cap] w fun e w' => e = .returned (.tuple #[.agg #[.slice none 0 0, .int .i64 0], .bool false]) ∧ Below w.heap.size w w' := by
  refine implOpen_no a cap zs w hb hl ?_
  by_cases h0 : zs = [] ∨ zs.getD (zs.length - 1) 0 = 0
  · exact h0.elim .inl (fun h => .inr (.inl h))
  · have hne : zs ≠ [] := fun h => h0 (.inl h)
    have hp : 0 < zs.length := List.length_pos_iff.2 hne
    obtain ⟨L, hL⟩ : ∃ L, zs.length = L + 1 := ⟨zs.length - 1, by omega⟩
    have hrL := getD_rng hb.1 L
    have hnz : zs.getD L 0 ≠ 0 := fun h => h0 (.inr (by rw [show zs.length - 1 = L from by omega]; exact h))
    obtain ⟨t, ht⟩ := Int.eq_ofNat_of_zero_le hrL.1
    rw [ht] at hrL hnz
    obtain ⟨b, hb8, h1, h2⟩ := top_bitY t (by omega) (by omega)
    by_cases hn : 8 * L + b ≤ 4096
    · exfalso
      refine h ⟨8 * L + b, val (openY zs L b t), ?_, hn, ?_⟩
      · have hok := okB_open zs L b t hL h1 h2 hb8
        rw [decide_eq_true hn] at hok
        have hrng : ∀ z ∈ openY zs L b t, 0 ≤ z ∧ z ≤ 255 := by
          intro z hzz
          unfold openY at hzz
          split at hzz
          · exact hb.1 z (List.mem_of_mem_take hzz)
          · rcases List.mem_or_eq_of_mem_set hzz with h | rfl
            · exact hb.1 z h
            · omega
        obtain ⟨m, hm1, hm2, hm3, hm4⟩ := okB_enc hok hrng
        obtain rfl : 8 * L + b = m := by omega
        exact hm4
      · rw [open_num zs L b t hL ht h1 h2]
        unfold enc
        rw [show (8 * L + b + 1 + 7) / 8 = zs.length from by omega, encL_val zs hb.1]
    · exact .inr (.inr ⟨L, b, t, hL, ht, h1, h2, hb8, by omega⟩)
end Go.Proofs.YtdhnlbekkicjcaaDoor
