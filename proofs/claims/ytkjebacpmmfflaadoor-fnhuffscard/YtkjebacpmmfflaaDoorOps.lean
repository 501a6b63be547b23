/-
  What the operations on bits come to, as plain numbers.
-/
import Derived.WalkKit
import Derived.Laws.BitsAllLaws
namespace Go.Proofs.YtkjebacpmmfflaaDoor

/-- The number that bytes are, the lowest first. -/
def val : List Int → Nat
  | [] => 0
  | z :: r => z.toNat + 256 * val r

/-- k bytes of a number, the lowest first. -/
def encL : Nat → Nat → List Int
  | 0, _ => []
  | k + 1, v => ((v % 256 : Nat) : Int) :: encL k (v / 256)

/-- As many bytes as n bits want, of a number. -/
def enc (n v : Nat) : List Int := encL ((n + 7) / 8) v

theorem encL_len (k v : Nat) : (encL k v).length = k := by
  induction k generalizing v with
  | zero => rfl
  | succ k ih => simp [encL, ih]

theorem enc_len (n v : Nat) : (enc n v).length = (n + 7) / 8 := encL_len _ _

theorem encL_rng (k v : Nat) : ∀ z ∈ encL k v, 0 ≤ z ∧ z ≤ 255 := by
  induction k generalizing v with
  | zero => intro z hz; cases hz
  | succ k ih =>
    intro z hz
    simp only [encL, List.mem_cons] at hz
    rcases hz with rfl | hz
    · omega
    · exact ih _ z hz

theorem encL_get (k v i : Nat) (h : i < k) : (encL k v).getD i 0 = ((v / 256 ^ i % 256 : Nat) : Int) := by
  induction k generalizing v i with
  | zero => omega
  | succ k ih =>
    cases i with
    | zero => simp [encL]
    | succ i =>
      have := ih (v / 256) i (by omega)
      simp only [encL, List.getD_cons_succ, this]
      rw [Nat.div_div_eq_div_mul, Nat.pow_succ, Nat.mul_comm]

theorem val_encL (k v : Nat) : val (encL k v) = v % 256 ^ k := by
  induction k generalizing v with
  | zero => simp [encL, val, Nat.mod_one]
  | succ k ih =>
    simp only [encL, val, ih, Int.toNat_natCast]
    rw [Nat.pow_succ, Nat.mul_comm (256 ^ k) 256, Nat.mod_mul]

theorem encL_val (zs : List Int) (h : ∀ z ∈ zs, 0 ≤ z ∧ z ≤ 255) : encL zs.length (val zs) = zs := by
  induction zs with
  | nil => rfl
  | cons z r ih =>
    have hz := h z (by simp)
    have hr := ih (fun y hy => h y (by simp [hy]))
    simp only [List.length_cons, encL, val]
    rw [show (z.toNat + 256 * val r) % 256 = z.toNat from by omega, show (z.toNat + 256 * val r) / 256 = val r from by omega, hr]
    congr 1
    omega

theorem val_lt (zs : List Int) (h : ∀ z ∈ zs, 0 ≤ z ∧ z ≤ 255) : val zs < 256 ^ zs.length := by
  induction zs with
  | nil => simp [val]
  | cons z r ih =>
    have hz := h z (by simp)
    have hr := ih (fun y hy => h y (by simp [hy]))
    simp only [List.length_cons, val, Nat.pow_succ]
    omega

theorem encL_mod (k v : Nat) : encL k (v % 256 ^ k) = encL k v := by
  have := encL_val (encL k v) (encL_rng k v)
  rwa [encL_len, val_encL] at this

theorem encL_append (k v : Nat) : encL (k + 1) v = encL k v ++ [((v / 256 ^ k % 256 : Nat) : Int)] := by
  induction k generalizing v with
  | zero => simp [encL]
  | succ k ih =>
    rw [encL, ih (v / 256)]
    simp only [encL, List.cons_append]
    rw [Nat.div_div_eq_div_mul, Nat.pow_succ, Nat.mul_comm (256 ^ k) 256]

theorem pow256 (k : Nat) : 256 ^ k = 2 ^ (8 * k) := by
  rw [Nat.pow_mul]

/-- The bit at place p. -/
theorem enc_bit (n v p : Nat) (hp : p < n) : (((enc n v).getD (p / 8) 0).toNat / 2 ^ (p % 8)) % 2 = v / 2 ^ p % 2 := by
  rw [enc, encL_get _ _ _ (by omega), Int.toNat_natCast, pow256]
  have h1 : v / 2 ^ p = v / 2 ^ (8 * (p / 8)) / 2 ^ (p % 8) := by
    rw [Nat.div_div_eq_div_mul, ← Nat.pow_add]
    congr 2
    omega
  rw [h1]
  generalize v / 2 ^ (8 * (p / 8)) = u
  have hq : p % 8 < 8 := Nat.mod_lt _ (by omega)
  generalize p % 8 = q at hq
  have h256 : 256 = 2 ^ q * 2 ^ (8 - q) := by rw [← Nat.pow_add, show q + (8 - q) = 8 from by omega]
  rw [h256, Nat.mod_mul_right_div_self]
  obtain ⟨r, hr⟩ : ∃ r, 8 - q = r + 1 := ⟨7 - q, by omega⟩
  rw [hr, Nat.pow_succ, Nat.mul_comm (2 ^ r) 2, Nat.mod_mul_right_mod]

/-- Some bits more, in the byte in which the next one lies: used bits of it are taken. -/
theorem enc_step (n v s c : Nat) (hv : v < 2 ^ n) (hc : c < 2 ^ s) (hs : 0 < s) (h8 : n % 8 + s ≤ 8) :
    enc (n + s) (v + c * 2 ^ n) = (if n % 8 = 0 then enc n v ++ [0] else enc n v).set (n / 8) (((v / 256 ^ (n / 8) + c * 2 ^ (n % 8) : Nat) : Int)) := by
  have hk : (n + s + 7) / 8 = n / 8 + 1 := by omega
  have hpow : 2 ^ n = 256 ^ (n / 8) * 2 ^ (n % 8) := by
    rw [pow256, ← Nat.pow_add, show 8 * (n / 8) + n % 8 = n from by omega]
  have hlow : encL (n / 8) (v + c * 2 ^ n) = encL (n / 8) v := by
    rw [← encL_mod, hpow, Nat.mul_left_comm, Nat.add_mul_mod_self_left, encL_mod]
  have hdiv : (v + c * 2 ^ n) / 256 ^ (n / 8) = v / 256 ^ (n / 8) + c * 2 ^ (n % 8) := by
    rw [hpow, Nat.mul_left_comm, Nat.add_mul_div_left _ _ (Nat.pow_pos (by omega))]
  have hvd : v / 256 ^ (n / 8) < 2 ^ (n % 8) := by
    rw [Nat.div_lt_iff_lt_mul (Nat.pow_pos (by omega)), Nat.mul_comm, ← hpow]; exact hv
  have hlt : v / 256 ^ (n / 8) + c * 2 ^ (n % 8) < 256 := by
    have h1 : (c + 1) * 2 ^ (n % 8) ≤ 2 ^ s * 2 ^ (n % 8) := Nat.mul_le_mul_right _ hc
    have h2 : 2 ^ s * 2 ^ (n % 8) ≤ 256 := by
      rw [← Nat.pow_add]
      have h3 : 2 ^ (s + n % 8) ≤ 2 ^ 8 := Nat.pow_le_pow_right (by omega) (by omega)
      omega
    rw [Nat.add_mul, Nat.one_mul] at h1
    omega
  unfold enc
  rw [hk, encL_append, hlow, hdiv, Nat.mod_eq_of_lt hlt]
  by_cases h0 : n % 8 = 0
  · rw [if_pos h0, show (n + 7) / 8 = n / 8 from by omega]
    rw [List.set_append_right _ _ (by rw [encL_len]; exact Nat.le_refl _), encL_len]
    simp
  · rw [if_neg h0, show (n + 7) / 8 = n / 8 + 1 from by omega, encL_append]
    rw [List.set_append_right _ _ (by rw [encL_len]; exact Nat.le_refl _), encL_len]
    simp

theorem enc_last (n v : Nat) (hv : v < 2 ^ n) (h : n % 8 ≠ 0) : (enc n v).getD (n / 8) 0 = ((v / 256 ^ (n / 8) : Nat) : Int) := by
  have hpow : 2 ^ n = 256 ^ (n / 8) * 2 ^ (n % 8) := by
    rw [pow256, ← Nat.pow_add, show 8 * (n / 8) + n % 8 = n from by omega]
  have hvd : v / 256 ^ (n / 8) < 2 ^ (n % 8) := by
    rw [Nat.div_lt_iff_lt_mul (Nat.pow_pos (by omega)), Nat.mul_comm, ← hpow]; exact hv
  have h256 : 2 ^ (n % 8) ≤ 2 ^ 8 := Nat.pow_le_pow_right (by omega) (by omega)
  rw [enc, encL_get _ _ _ (by omega), Nat.mod_eq_of_lt (by omega)]

theorem enc_top (n v : Nat) (hv : v < 2 ^ n) : v / 256 ^ (n / 8) < 2 ^ (n % 8) := by
  have hpow : 2 ^ n = 256 ^ (n / 8) * 2 ^ (n % 8) := by
    rw [pow256, ← Nat.pow_add, show 8 * (n / 8) + n % 8 = n from by omega]
  rw [Nat.div_lt_iff_lt_mul (Nat.pow_pos (by omega)), Nat.mul_comm, ← hpow]; exact hv

/-- Bytes, as many as n bits want, the last one without a bit behind them, are a number below 2 ^ n. -/
theorem val_bits (n : Nat) (zs : List Int) (h : ∀ z ∈ zs, 0 ≤ z ∧ z ≤ 255) (hl : zs.length = (n + 7) / 8) (ht : n % 8 = 0 ∨ (zs.getD (zs.length - 1) 0).toNat < 2 ^ (n % 8)) :
    val zs < 2 ^ n ∧ zs = enc n (val zs) := by
  have he := encL_val zs h
  have hv := val_lt zs h
  refine ⟨?_, by rw [enc, ← hl, he]⟩
  by_cases h0 : n % 8 = 0
  · rw [hl, pow256, show 8 * ((n + 7) / 8) = n from by omega] at hv
    exact hv
  · have ht' := ht.resolve_left h0
    have hk : zs.length = n / 8 + 1 := by omega
    have hlast : zs.getD (zs.length - 1) 0 = ((val zs / 256 ^ (n / 8) % 256 : Nat) : Int) := by
      have := encL_get zs.length (val zs) (n / 8) (by omega)
      rw [he] at this
      rw [show zs.length - 1 = n / 8 from by omega]
      exact this
    rw [hlast, Int.toNat_natCast] at ht'
    have h256 : val zs / 256 ^ (n / 8) < 256 := by
      rw [Nat.div_lt_iff_lt_mul (Nat.pow_pos (by omega)), ← Nat.pow_succ', show (n / 8).succ = zs.length from hk.symm]; exact hv
    rw [Nat.mod_eq_of_lt h256, Nat.div_lt_iff_lt_mul (Nat.pow_pos (by omega)), pow256, ← Nat.pow_add] at ht'
    rw [show n % 8 + 8 * (n / 8) = n from by omega] at ht'
    exact ht'

theorem put_lt (n v s c : Nat) (hv : v < 2 ^ n) (hc : c < 2 ^ s) : v + c * 2 ^ n < 2 ^ (n + s) := by
  have h1 : (c + 1) * 2 ^ n ≤ 2 ^ s * 2 ^ n := Nat.mul_le_mul_right _ hc
  rw [Nat.add_mul, Nat.one_mul, ← Nat.pow_add, Nat.add_comm s n] at h1
  omega

/-- Bits that are put one part behind the other. -/
theorem put_part (n v x i s : Nat) : v + (x % 2 ^ i) * 2 ^ n + (x / 2 ^ i % 2 ^ s) * 2 ^ (n + i) = v + (x % 2 ^ (i + s)) * 2 ^ n := by
  have h : x % 2 ^ (i + s) = x % 2 ^ i + 2 ^ i * (x / 2 ^ i % 2 ^ s) := by rw [Nat.pow_add, Nat.mod_mul]
  rw [h, Nat.add_mul, Nat.pow_add, Nat.add_assoc]
  congr 2
  rw [Nat.mul_comm (2 ^ i), Nat.mul_assoc, Nat.mul_comm (2 ^ i)]

/-- What is got where something was put: the thing itself; ahead of it, what was there. -/
theorem got_put (n v c s : Nat) (hv : v < 2 ^ n) (hc : c < 2 ^ s) : (v + c * 2 ^ n) / 2 ^ n % 2 ^ s = c := by
  rw [Nat.add_mul_div_right _ _ (Nat.pow_pos (by omega)), Nat.div_eq_of_lt hv, Nat.zero_add, Nat.mod_eq_of_lt hc]

theorem got_old (n v c i : Nat) (hi : i < n) : (v + c * 2 ^ n) / 2 ^ i % 2 = v / 2 ^ i % 2 := by
  obtain ⟨d, rfl⟩ : ∃ d, n = i + (d + 1) := ⟨n - i - 1, by omega⟩
  rw [Nat.pow_add, Nat.mul_left_comm, Nat.add_mul_div_left _ _ (Nat.pow_pos (by omega)), Nat.pow_succ, ← Nat.mul_assoc, Nat.add_mul_mod_self_right]

/-- The number of some bits, the highest added last. -/
theorem get_up (v at' i : Nat) : v / 2 ^ at' % 2 ^ (i + 1) = v / 2 ^ at' % 2 ^ i + (v / 2 ^ (at' + i) % 2) * 2 ^ i := by
  rw [Nat.pow_add 2 i 1, Nat.mod_mul, Nat.pow_one, Nat.div_div_eq_div_mul, ← Nat.pow_add, Nat.mul_comm (2 ^ i)]

/-- .. or the lowest added last. -/
theorem get_down (v at' i : Nat) : v / 2 ^ at' % 2 ^ (i + 1) = 2 * (v / 2 ^ (at' + 1) % 2 ^ i) + v / 2 ^ at' % 2 := by
  rw [Nat.pow_succ, Nat.mul_comm (2 ^ i) 2, Nat.mod_mul, Nat.div_div_eq_div_mul, ← Nat.pow_succ, Nat.add_comm]

end Go.Proofs.YtkjebacpmmfflaaDoor
namespace Go.Proofs.YtkjebacpmmfflaaDoor
open Go.RowKit

theorem ofInt_i64 (a : Nat) (ha : a < 9223372036854775808) : (BitVec.ofInt 64 (a : Int)).toNat = a := by
  rw [BitVec.ofInt_natCast, BitVec.toNat_ofNat]; exact Nat.mod_eq_of_lt (by omega)

theorem i64_and_nat (a b : Nat) (ha : a < 9223372036854775808) (hb : b < 9223372036854775808) : bits .and .i64 (a : Int) (b : Int) = ((a &&& b : Nat) : Int) := by
  have hx : a &&& b < 2 ^ 63 := Nat.and_lt_two_pow _ (by omega)
  show IntKind.i64.wrap ((BitVec.ofInt 64 (a : Int) &&& BitVec.ofInt 64 (b : Int)).toNat : Int) = _
  rw [BitVec.toNat_and, ofInt_i64 a ha, ofInt_i64 b hb, IntKind.wrap_i64]
  omega

theorem i64_or_nat (a b : Nat) (ha : a < 9223372036854775808) (hb : b < 9223372036854775808) : bits .or .i64 (a : Int) (b : Int) = ((a ||| b : Nat) : Int) := by
  have hx : a ||| b < 2 ^ 63 := Nat.or_lt_two_pow (by omega) (by omega)
  show IntKind.i64.wrap ((BitVec.ofInt 64 (a : Int) ||| BitVec.ofInt 64 (b : Int)).toNat : Int) = _
  rw [BitVec.toNat_or, ofInt_i64 a ha, ofInt_i64 b hb, IntKind.wrap_i64]
  omega

/-- The bit k of a byte, as an int. -/
theorem bit64 (z : Int) (k : Nat) (h : 0 ≤ z ∧ z ≤ 255) : bits .and .i64 (wrap64 (z / 2 ^ k)) 1 = ((z.toNat / 2 ^ k % 2 : Nat) : Int) := by
  obtain ⟨n, rfl⟩ := Int.eq_ofNat_of_zero_le h.1
  have e : ((n : Int) / 2 ^ k) = ((n / 2 ^ k : Nat) : Int) := by simp
  have hle : n / 2 ^ k ≤ n := Nat.div_le_self _ _
  rw [e, Int.toNat_natCast]
  generalize n / 2 ^ k = m at *
  rw [IntWalk.wrap64_in _ (by omega)]
  have := i64_and_nat m 1 (by omega) (by omega)
  rw [show ((1 : Nat) : Int) = 1 from rfl] at this
  rw [this, nat_mask1]

/-- 'n | bit << i' where n has i bits. -/
theorem or_bit64 (n b i : Nat) (hn : n < 2 ^ i) (hb : b ≤ 1) (hi : i ≤ 31) : bits .or .i64 (n : Int) ((b * 2 ^ i : Nat) : Int) = ((n + b * 2 ^ i : Nat) : Int) := by
  have h1 : 2 ^ i ≤ 2 ^ 31 := Nat.pow_le_pow_right (by omega) hi
  have h2 : b * 2 ^ i ≤ 1 * 2 ^ i := Nat.mul_le_mul_right _ hb
  rw [i64_or_nat n (b * 2 ^ i) (by omega) (by omega)]
  congr 1
  rw [Nat.or_comm, nat_join i _ _ (by simp) hn, Nat.add_comm]

theorem or_step64 (X j k : Nat) (z : Int) (hz : 0 ≤ z ∧ z ≤ 255) (hx : X < 2 ^ j) (hj : j ≤ 31) :
    bits .or .i64 (X : Int) (wrap64 (bits .and .i64 (wrap64 (z / 2 ^ k)) 1 * 2 ^ j)) = ((X + z.toNat / 2 ^ k % 2 * 2 ^ j : Nat) : Int) := by
  rw [bit64 z k hz]
  have hb : z.toNat / 2 ^ k % 2 ≤ 1 := by omega
  generalize z.toNat / 2 ^ k % 2 = bt at *
  have e : ((bt : Nat) : Int) * 2 ^ j = ((bt * 2 ^ j : Nat) : Int) := by simp
  have h1 : 2 ^ j ≤ 2 ^ 31 := Nat.pow_le_pow_right (by omega) hj
  have h2 : bt * 2 ^ j ≤ 1 * 2 ^ j := Nat.mul_le_mul_right _ hb
  have h3 := or_bit64 X bt j hx hb hj
  rw [e]
  generalize bt * 2 ^ j = y at *
  rw [IntWalk.wrap64_in _ (by omega)]
  exact h3

/-- 'old | byte(x)' where old has u bits and x none of them. -/
theorem or_u8 (old x u : Nat) (ho : old < 2 ^ u) (hx : x % 2 ^ u = 0) (h8 : x < 256) (h9 : old < 256) : bits .or .u8 (old : Int) (x : Int) = ((old + x : Nat) : Int) := by
  rw [u8_or_nat old x h9 h8]
  congr 1
  rw [Nat.or_comm, nat_join u _ _ hx ho, Nat.add_comm]

end Go.Proofs.YtkjebacpmmfflaaDoor
