/-
  Each symbol that has a share is come to in just one way: numbers.
-/
import Derived.Test.YtmhpgkfaihcmeaaDoorOps
namespace Go.Proofs.YtmhpgkfaihcmeaaDoor
open Go.RowKit
set_option linter.unusedVariables false

theorem apart_x : ∀ X, X < 128 → ∀ Y, Y < 128 → (1 ≤ X ∧ X < Y ∧ Y < 2 * X → (X + 1) * 2 ^ wd X ≤ Y * 2 ^ wd Y ∨ (Y + 1) * 2 ^ wd Y ≤ X * 2 ^ wd X) := by decide +kernel
theorem count_lt (l : List Int) (s : Int) (q r : Nat) (hq : q < r) (hr : r ≤ l.length) (hs : l.getD q 0 = s) : (l.take q).count s < (l.take r).count s := by
  have h1 : (l.take (q + 1)).count s = (l.take q).count s + 1 := by
    rw [List.take_succ_eq_append_getElem (by omega), List.count_append]
    rw [List.getD_eq_getElem?_getD, List.getElem?_eq_getElem (by omega)] at hs
    simp at hs
    rw [hs]
    simp
  have h2 : (l.take (q + 1)).count s ≤ (l.take r).count s := by
    have e : l.take (q + 1) = (l.take r).take (q + 1) := by rw [List.take_take, Nat.min_eq_left (by omega)]
    rw [e]
    exact (List.take_sublist _ _).count_le _
  omega
theorem sp_count {zs : List Int} (hn : normB zs = true) (s : Nat) (hs : s < zs.length) : ((pl (fl 0 zs) (plc 64)).count (s : Int) : Int) = zs.getD s 0 := by
  have hz := normB_get hn s hs
  rw [(sp_perm hn).count_eq]
  have := fl_count zs 0 s hs
  rw [Nat.zero_add] at this
  omega
theorem hit_unique {zs : List Int} (hn : normB zs = true) (s p q r : Nat) (hs : s < zs.length) (hp : p < 64) (hq : q < 64) (hr : r < 64) (h1 : hit (tb (pl (fl 0 zs) (plc 64)) zs 64) (s : Int) p q) (h2 : hit (tb (pl (fl 0 zs) (plc 64)) zs 64) (s : Int) p r) : q = r := by
  obtain ⟨a1, a2, a3⟩ := cell_at (zs := zs) q hq
  obtain ⟨b1, b2, b3⟩ := cell_at (zs := zs) r hr
  unfold hit at h1 h2
  rw [a1, a2, a3] at h1
  rw [b1, b2, b3] at h2
  have hX := cX_cnt hn q s hq h1.1 hs
  have hY := cX_cnt hn r s hr h2.1 hs
  have hc := sp_count hn s hs
  have hz := normB_get hn s hs
  have hl : (pl (fl 0 zs) (plc 64)).length = 64 := pl_len _ _
  have cq := count_lt (pl (fl 0 zs) (plc 64)) (s : Int) q 64 hq (by omega) h1.1
  have cr := count_lt (pl (fl 0 zs) (plc 64)) (s : Int) r 64 hr (by omega) h2.1
  have ht : (pl (fl 0 zs) (plc 64)).take 64 = pl (fl 0 zs) (plc 64) := List.take_of_length_le (by omega)
  rw [ht] at cq cr
  have key : ∀ X Y : Nat, X < Y → 1 ≤ X → Y < 128 → Y < 2 * X → X * 2 ^ wd X - 64 ≤ p → p < X * 2 ^ wd X - 64 + 2 ^ wd X → Y * 2 ^ wd Y - 64 ≤ p → p < Y * 2 ^ wd Y - 64 + 2 ^ wd Y → False := by
    intro X Y hXY h1 h128 h2x k1 k2 k3 k4
    have w1 := wd_rng (x := X) h1 (by omega)
    have w2 := wd_rng (x := Y) (by omega) (by omega)
    have := apart_x X (by omega) Y h128 ⟨h1, hXY, h2x⟩
    rw [Nat.add_mul, Nat.one_mul, Nat.add_mul, Nat.one_mul] at this
    generalize X * 2 ^ wd X = A at *
    generalize Y * 2 ^ wd Y = B at *
    generalize 2 ^ wd X = C at *
    generalize 2 ^ wd Y = D at *
    omega
  generalize cX (pl (fl 0 zs) (plc 64)) zs q = X at *
  generalize cX (pl (fl 0 zs) (plc 64)) zs r = Y at *
  have hXY : X = Y := by
    rcases Nat.lt_trichotomy X Y with h | h | h
    · exact (key X Y h (by omega) (by omega) (by omega) h1.2.1 h1.2.2 h2.2.1 h2.2.2).elim
    · exact h
    · exact (key Y X h (by omega) (by omega) (by omega) h2.2.1 h2.2.2 h1.2.1 h1.2.2).elim
  rcases Nat.lt_trichotomy q r with h | h | h
  · have := count_lt (pl (fl 0 zs) (plc 64)) (s : Int) q r h (by omega) h1.1
    omega
  · exact h
  · have := count_lt (pl (fl 0 zs) (plc 64)) (s : Int) r q h (by omega) h2.1
    omega
/-- How many of the first i cells are hit. -/
def hcn (T : List Int) (s : Int) (p : Nat) : Nat → Nat
  | 0 => 0
  | i + 1 => hcn T s p i + if hit T s p i then 1 else 0
theorem hcn_zero {T : List Int} {s : Int} {p : Nat} : ∀ i, (∀ q, q < i → ¬ hit T s p q) → hcn T s p i = 0 := by
  intro i
  induction i with
  | zero => intro _; rfl
  | succ i ih => intro h; rw [hcn, ih (fun q hq => h q (by omega)), if_neg (h i (by omega))]
theorem hcn_one {T : List Int} {s : Int} {p r : Nat} (hr : hit T s p r) : ∀ i, r < i → (∀ q, q < i → hit T s p q → q = r) → hcn T s p i = 1 := by
  intro i
  induction i with
  | zero => intro h; omega
  | succ i ih =>
    intro h hu
    rw [hcn]
    by_cases e : r < i
    · rw [ih e (fun q hq => hu q (by omega)), if_neg (fun hh => by have := hu i (by omega) hh; omega)]
    · obtain rfl : r = i := by omega
      rw [if_pos hr, hcn_zero r (fun q hq hh => by have := hu q (by omega) hh; omega)]
theorem hcn_le {T : List Int} {s : Int} {p : Nat} : ∀ i, hcn T s p i ≤ i := by
  intro i
  induction i with
  | zero => exact Nat.le_refl _
  | succ i ih => rw [hcn]; split <;> omega
/-- What the law asks of a table and its places. -/
structure Way (T SP ls : List Int) : Prop where
  gd : Gd T ls.length
  sl : SP.length = 64
  one : ∀ y p : Nat, y < ls.length → p < 64 → 0 < ls.getD y 0 → hcn T (y : Int) p 64 = 1
  none : ∀ y p : Nat, y < ls.length → p < 64 → ls.getD y 0 = 0 → hcn T (y : Int) p 64 = 0
  nn : ∀ y : Nat, y < ls.length → 0 ≤ ls.getD y 0 ∧ ls.getD y 0 ≤ 64
  cnt : ∀ y : Nat, y < ls.length → (SP.count (y : Int) : Int) = ls.getD y 0
theorem way_tb {ls : List Int} (hn : normB ls = true) : Way (tb (pl (fl 0 ls) (plc 64)) ls 64) (pl (fl 0 ls) (plc 64)) ls := by
  refine ⟨gd_tb hn, pl_len _ _, fun y p hy hp h => ?_, fun y p hy hp h => ?_, fun y hy => normB_get hn y hy, fun y hy => sp_count hn y hy⟩
  · obtain ⟨r, hr, hh⟩ := ex_hit hn y p hy hp (by omega)
    exact hcn_one hh 64 hr (fun q hq hqq => hit_unique hn y p q r hy hp hq hr hqq hh)
  · exact hcn_zero 64 (fun q hq => no_hit hn (y : Int) p (fun k hk => by
      have : y = k := by omega
      subst this
      exact h) q hq)
end Go.Proofs.YtmhpgkfaihcmeaaDoor
