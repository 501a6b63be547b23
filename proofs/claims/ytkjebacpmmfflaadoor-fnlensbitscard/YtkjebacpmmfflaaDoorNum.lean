/-
  Plain mathematics: bytes as a number, a number as bytes; putting bits behind, getting some of them.
-/
import Derived.Test.YtkjebacpmmfflaaDoorIParts
import Derived.Test.YtkjebacpmmfflaaDoorIBase
import Derived.Test.YtkjebacpmmfflaaDoorILens3
import Derived.LaidHandle
import Derived.LaidLaws
import Derived.Deep.AppendLies
import Derived.Deep.RegionLaw
import Derived.BigRegion
import Derived.Deep.RegionHeld3
namespace Go.Proofs.YtkjebacpmmfflaaDoor
open Go.ChangeShapes Go.WideShapes Go.ChangeAt Go.RowKit Go.Joins
set_option linter.unusedVariables false

theorem Tryd.gSyms : Tryd.prog.globalNamed "loop.example/g00528/impl.errSyms" = some 1 := by kernel_rfl
theorem Tryd.gLength : Tryd.prog.globalNamed "loop.example/g00528/impl.errLength" = some 2 := by kernel_rfl
theorem Tryd.gNoCodes : Tryd.prog.globalNamed "loop.example/g00528/impl.errNoCodes" = some 3 := by kernel_rfl
theorem Tryd.gShares : Tryd.prog.globalNamed "loop.example/g00528/impl.errShares" = some 4 := by kernel_rfl
theorem Tryd.gET : Tryd.prog.globalNamed "errors.errorType" = some 0 := by kernel_rfl
theorem Tryd.tSyms : (Tryd.prog.globals[1]?).map (·.type) = some 63 := by kernel_rfl
theorem Tryd.tLength : (Tryd.prog.globals[2]?).map (·.type) = some 63 := by kernel_rfl
theorem Tryd.tNoCodes : (Tryd.prog.globals[3]?).map (·.type) = some 63 := by kernel_rfl
theorem Tryd.tShares : (Tryd.prog.globals[4]?).map (·.type) = some 63 := by kernel_rfl
theorem Tryd.tET : (Tryd.prog.globals[0]?).map (·.type) = some 108 := by kernel_rfl
theorem Tryd.rtN : (Tryd.prog.cutTypes.find? (·.1 == "internal/reflectlite.rtype")).map (·.2) = some 137 := by kernel_rfl
theorem Tryd.nTypes : Tryd.prog.types.size = 188 := by kernel_rfl
theorem Tryd.oneErr : ((List.range 188).filter fun t => Tryd.prog.rowNamed t [101, 114, 114, 111, 114]) = [63] := by kernel_rfl

/-- The variable that holds the handle. -/
theorem handle_cell {l : List (String × DataW Unit)} {W : World} {d : DataW Unit} (h : handlesMet Tryd.prog l W) (hd : ("errors.errorType", d) ∈ l) (hn : d.handleName? = some [101, 114, 114, 111, 114]) (hf : d.funcsIn? = none) :
    W.var? Tryd.prog "errors.errorType" = some #[rtyp 63] := by
  have h1 := h _ hd
  simp only [hf] at h1
  obtain ⟨name, u, ty, e1, e2, e3, e4, e5⟩ := h1
  have en : name = [101, 114, 114, 111, 114] := (Option.some.inj (hn.symm.trans e1)).symm
  subst en
  obtain rfl := Option.some.inj (Tryd.rtN.symm.trans e2)
  have hm : ty ∈ (List.range 188).filter fun t => Tryd.prog.rowNamed t [101, 114, 114, 111, 114] := List.mem_filter.2 ⟨List.mem_range.2 (by rw [← Tryd.nTypes]; exact e3), e4⟩
  rw [Tryd.oneErr] at hm
  obtain rfl := List.mem_singleton.1 hm
  have hh : typeHandle Tryd.prog 63 = .pointer (some ⟨11, 63, none⟩) := by kernel_rfl
  rw [hh] at e5
  exact e5

theorem vars_cons {H : Type} (enc : TypeId × Value → H) {P : Program} {W : World} {n : String} {g : Nat} {t : TypeId} {ms : Array (String × TypeId)} {x : Value} {ns : List String} {ds : List (DataW H)} {ps : List MemPlace} {sp : Nat → Bool}
    (hg : P.globalNamed n = some g) (ht : (P.globals[g]?).map (·.type) = some t) (hi : P.underlying t = some (.interface ms)) (h : W.var? P n = some #[x]) (ix : IsIface x) (hr : DataW.TrodVars enc P W sp ns ds ps) :
    DataW.TrodVars enc P W sp (n :: ns) (tok enc x :: ds) (.cell g 0 :: ps) := ⟨g, t, #[x], 1, [], ps, hg, ht, h, trod_held hi ix 0, hr, rfl⟩
end Go.Proofs.YtkjebacpmmfflaaDoor
namespace Go.Proofs.YtkjebacpmmfflaaDoor
open Go.RowKit
set_option linter.unusedVariables false

theorem addr_add (b off j : Nat) : (⟨b, off, none⟩ : Addr).add j = ⟨b, off + j, none⟩ := by unfold Addr.add; split <;> simp_all

theorem news_of {w : World} {b off : Nat} {zs : List Int} (hc : ∀ i, i < zs.length → w.cell? ⟨b, off + i, none⟩ = some (.int .u8 (zs.getD i 0))) :
    ∀ j u, (zs.map (Value.int .u8))[j]? = some u → w.cell? ((⟨b, off, none⟩ : Addr).add j) = some u := by
  intro j u hu
  have hj : j < zs.length := by
    rcases Nat.lt_or_ge j zs.length with h | h
    · exact h
    · rw [List.getElem?_eq_none (by simpa using h)] at hu; cases hu
  rw [addr_add, hc j hj]
  simp [hj] at hu
  simp [hj, ← hu]

theorem oneCells (zs : List Int) : ∀ u ∈ zs.map (Value.int .u8), u.oneCell' = true := by
  intro u hu
  simp only [List.mem_map] at hu
  obtain ⟨z, _, rfl⟩ := hu
  rfl

end Go.Proofs.YtkjebacpmmfflaaDoor
namespace Go.Proofs.YtkjebacpmmfflaaDoor

/-- The number that bytes are, the lowest first. -/
def val : List Int → Nat
  | [] => 0
  | z :: r => z.toNat + 256 * val r

/-- k bytes of a number, the lowest first. -/
def encL : Nat → Nat → List Int
  | 0, _ => []
  | k + 1, v => ((v % 256 : Nat) : Int) :: encL k (v / 256)

/-- As many bytes as n bits want, of a number. -/
def enc (n v : Nat) : List Int := encL ((n + 7) / 8) v

theorem encL_len (k v : Nat) : (encL k v).length = k := by
  induction k generalizing v with
  | zero => rfl
  | succ k ih => simp [encL, ih]

theorem enc_len (n v : Nat) : (enc n v).length = (n + 7) / 8 := encL_len _ _

theorem encL_rng (k v : Nat) : ∀ z ∈ encL k v, 0 ≤ z ∧ z ≤ 255 := by
  induction k generalizing v with
  | zero => intro z hz; cases hz
  | succ k ih =>
    intro z hz
    simp only [encL, List.mem_cons] at hz
    rcases hz with rfl | hz
    · omega
    · exact ih _ z hz

theorem encL_get (k v i : Nat) (h : i < k) : (encL k v).getD i 0 = ((v / 256 ^ i % 256 : Nat) : Int) := by
  induction k generalizing v i with
  | zero => omega
  | succ k ih =>
    cases i with
    | zero => simp [encL]
    | succ i =>
      have := ih (v / 256) i (by omega)
      simp only [encL, List.getD_cons_succ, this]
      rw [Nat.div_div_eq_div_mul, Nat.pow_succ, Nat.mul_comm]

theorem val_encL (k v : Nat) : val (encL k v) = v % 256 ^ k := by
  induction k generalizing v with
  | zero => simp [encL, val, Nat.mod_one]
  | succ k ih =>
    simp only [encL, val, ih, Int.toNat_natCast]
    rw [Nat.pow_succ, Nat.mul_comm (256 ^ k) 256, Nat.mod_mul]

theorem encL_val (zs : List Int) (h : ∀ z ∈ zs, 0 ≤ z ∧ z ≤ 255) : encL zs.length (val zs) = zs := by
  induction zs with
  | nil => rfl
  | cons z r ih =>
    have hz := h z (by simp)
    have hr := ih (fun y hy => h y (by simp [hy]))
    simp only [List.length_cons, encL, val]
    rw [show (z.toNat + 256 * val r) % 256 = z.toNat from by omega, show (z.toNat + 256 * val r) / 256 = val r from by omega, hr]
    congr 1
    omega

theorem val_lt (zs : List Int) (h : ∀ z ∈ zs, 0 ≤ z ∧ z ≤ 255) : val zs < 256 ^ zs.length := by
  induction zs with
  | nil => simp [val]
  | cons z r ih =>
    have hz := h z (by simp)
    have hr := ih (fun y hy => h y (by simp [hy]))
    simp only [List.length_cons, val, Nat.pow_succ]
    omega

theorem encL_mod (k v : Nat) : encL k (v % 256 ^ k) = encL k v := by
  have := encL_val (encL k v) (encL_rng k v)
  rwa [encL_len, val_encL] at this

theorem encL_append (k v : Nat) : encL (k + 1) v = encL k v ++ [((v / 256 ^ k % 256 : Nat) : Int)] := by
  induction k generalizing v with
  | zero => simp [encL]
  | succ k ih =>
    rw [encL, ih (v / 256)]
    simp only [encL, List.cons_append]
    rw [Nat.div_div_eq_div_mul, Nat.pow_succ, Nat.mul_comm (256 ^ k) 256]

theorem pow256 (k : Nat) : 256 ^ k = 2 ^ (8 * k) := by
  rw [Nat.pow_mul]

/-- The bit at place p. -/
theorem enc_bit (n v p : Nat) (hp : p < n) : (((enc n v).getD (p / 8) 0).toNat / 2 ^ (p % 8)) % 2 = v / 2 ^ p % 2 := by
  rw [enc, encL_get _ _ _ (by omega), Int.toNat_natCast, pow256]
  have h1 : v / 2 ^ p = v / 2 ^ (8 * (p / 8)) / 2 ^ (p % 8) := by
    rw [Nat.div_div_eq_div_mul, ← Nat.pow_add]
    congr 2
    omega
  rw [h1]
  generalize v / 2 ^ (8 * (p / 8)) = u
  have hq : p % 8 < 8 := Nat.mod_lt _ (by omega)
  generalize p % 8 = q at hq
  have h256 : 256 = 2 ^ q * 2 ^ (8 - q) := by rw [← Nat.pow_add, show q + (8 - q) = 8 from by omega]
  rw [h256, Nat.mod_mul_right_div_self]
  obtain ⟨r, hr⟩ : ∃ r, 8 - q = r + 1 := ⟨7 - q, by omega⟩
  rw [hr, Nat.pow_succ, Nat.mul_comm (2 ^ r) 2, Nat.mod_mul_right_mod]

/-- Some bits more, in the byte in which the next one lies: used bits of it are taken. -/
theorem enc_step (n v s c : Nat) (hv : v < 2 ^ n) (hc : c < 2 ^ s) (hs : 0 < s) (h8 : n % 8 + s ≤ 8) :
    enc (n + s) (v + c * 2 ^ n) = (if n % 8 = 0 then enc n v ++ [0] else enc n v).set (n / 8) (((v / 256 ^ (n / 8) + c * 2 ^ (n % 8) : Nat) : Int)) := by
  have hk : (n + s + 7) / 8 = n / 8 + 1 := by omega
  have hpow : 2 ^ n = 256 ^ (n / 8) * 2 ^ (n % 8) := by
    rw [pow256, ← Nat.pow_add, show 8 * (n / 8) + n % 8 = n from by omega]
  have hlow : encL (n / 8) (v + c * 2 ^ n) = encL (n / 8) v := by
    rw [← encL_mod, hpow, Nat.mul_left_comm, Nat.add_mul_mod_self_left, encL_mod]
  have hdiv : (v + c * 2 ^ n) / 256 ^ (n / 8) = v / 256 ^ (n / 8) + c * 2 ^ (n % 8) := by
    rw [hpow, Nat.mul_left_comm, Nat.add_mul_div_left _ _ (Nat.pow_pos (by omega))]
  have hvd : v / 256 ^ (n / 8) < 2 ^ (n % 8) := by
    rw [Nat.div_lt_iff_lt_mul (Nat.pow_pos (by omega)), Nat.mul_comm, ← hpow]; exact hv
  have hlt : v / 256 ^ (n / 8) + c * 2 ^ (n % 8) < 256 := by
    have h1 : (c + 1) * 2 ^ (n % 8) ≤ 2 ^ s * 2 ^ (n % 8) := Nat.mul_le_mul_right _ hc
    have h2 : 2 ^ s * 2 ^ (n % 8) ≤ 256 := by
      rw [← Nat.pow_add]
      have h3 : 2 ^ (s + n % 8) ≤ 2 ^ 8 := Nat.pow_le_pow_right (by omega) (by omega)
      omega
    rw [Nat.add_mul, Nat.one_mul] at h1
    omega
  unfold enc
  rw [hk, encL_append, hlow, hdiv, Nat.mod_eq_of_lt hlt]
  by_cases h0 : n % 8 = 0
  · rw [if_pos h0, show (n + 7) / 8 = n / 8 from by omega]
    rw [List.set_append_right _ _ (by rw [encL_len]; exact Nat.le_refl _), encL_len]
    simp
  · rw [if_neg h0, show (n + 7) / 8 = n / 8 + 1 from by omega, encL_append]
    rw [List.set_append_right _ _ (by rw [encL_len]; exact Nat.le_refl _), encL_len]
    simp

theorem enc_last (n v : Nat) (hv : v < 2 ^ n) (h : n % 8 ≠ 0) : (enc n v).getD (n / 8) 0 = ((v / 256 ^ (n / 8) : Nat) : Int) := by
  have hpow : 2 ^ n = 256 ^ (n / 8) * 2 ^ (n % 8) := by
    rw [pow256, ← Nat.pow_add, show 8 * (n / 8) + n % 8 = n from by omega]
  have hvd : v / 256 ^ (n / 8) < 2 ^ (n % 8) := by
    rw [Nat.div_lt_iff_lt_mul (Nat.pow_pos (by omega)), Nat.mul_comm, ← hpow]; exact hv
  have h256 : 2 ^ (n % 8) ≤ 2 ^ 8 := Nat.pow_le_pow_right (by omega) (by omega)
  rw [enc, encL_get _ _ _ (by omega), Nat.mod_eq_of_lt (by omega)]

theorem enc_top (n v : Nat) (hv : v < 2 ^ n) : v / 256 ^ (n / 8) < 2 ^ (n % 8) := by
  have hpow : 2 ^ n = 256 ^ (n / 8) * 2 ^ (n % 8) := by
    rw [pow256, ← Nat.pow_add, show 8 * (n / 8) + n % 8 = n from by omega]
  rw [Nat.div_lt_iff_lt_mul (Nat.pow_pos (by omega)), Nat.mul_comm, ← hpow]; exact hv

/-- Bytes, as many as n bits want, the last one without a bit behind them, are a number below 2 ^ n. -/
theorem val_bits (n : Nat) (zs : List Int) (h : ∀ z ∈ zs, 0 ≤ z ∧ z ≤ 255) (hl : zs.length = (n + 7) / 8) (ht : n % 8 = 0 ∨ (zs.getD (zs.length - 1) 0).toNat < 2 ^ (n % 8)) :
    val zs < 2 ^ n ∧ zs = enc n (val zs) := by
  have he := encL_val zs h
  have hv := val_lt zs h
  refine ⟨?_, by rw [enc, ← hl, he]⟩
  by_cases h0 : n % 8 = 0
  · rw [hl, pow256, show 8 * ((n + 7) / 8) = n from by omega] at hv
    exact hv
  · have ht' := ht.resolve_left h0
    have hk : zs.length = n / 8 + 1 := by omega
    have hlast : zs.getD (zs.length - 1) 0 = ((val zs / 256 ^ (n / 8) % 256 : Nat) : Int) := by
      have := encL_get zs.length (val zs) (n / 8) (by omega)
      rw [he] at this
      rw [show zs.length - 1 = n / 8 from by omega]
      exact this
    rw [hlast, Int.toNat_natCast] at ht'
    have h256 : val zs / 256 ^ (n / 8) < 256 := by
      rw [Nat.div_lt_iff_lt_mul (Nat.pow_pos (by omega)), ← Nat.pow_succ', show (n / 8).succ = zs.length from hk.symm]; exact hv
    rw [Nat.mod_eq_of_lt h256, Nat.div_lt_iff_lt_mul (Nat.pow_pos (by omega)), pow256, ← Nat.pow_add] at ht'
    rw [show n % 8 + 8 * (n / 8) = n from by omega] at ht'
    exact ht'

theorem put_lt (n v s c : Nat) (hv : v < 2 ^ n) (hc : c < 2 ^ s) : v + c * 2 ^ n < 2 ^ (n + s) := by
  have h1 : (c + 1) * 2 ^ n ≤ 2 ^ s * 2 ^ n := Nat.mul_le_mul_right _ hc
  rw [Nat.add_mul, Nat.one_mul, ← Nat.pow_add, Nat.add_comm s n] at h1
  omega

/-- Bits that are put one part behind the other. -/
theorem put_part (n v x i s : Nat) : v + (x % 2 ^ i) * 2 ^ n + (x / 2 ^ i % 2 ^ s) * 2 ^ (n + i) = v + (x % 2 ^ (i + s)) * 2 ^ n := by
  have h : x % 2 ^ (i + s) = x % 2 ^ i + 2 ^ i * (x / 2 ^ i % 2 ^ s) := by rw [Nat.pow_add, Nat.mod_mul]
  rw [h, Nat.add_mul, Nat.pow_add, Nat.add_assoc]
  congr 2
  rw [Nat.mul_comm (2 ^ i), Nat.mul_assoc, Nat.mul_comm (2 ^ i)]

/-- What is got where something was put: the thing itself; ahead of it, what was there. -/
theorem got_put (n v c s : Nat) (hv : v < 2 ^ n) (hc : c < 2 ^ s) : (v + c * 2 ^ n) / 2 ^ n % 2 ^ s = c := by
  rw [Nat.add_mul_div_right _ _ (Nat.pow_pos (by omega)), Nat.div_eq_of_lt hv, Nat.zero_add, Nat.mod_eq_of_lt hc]

theorem got_old (n v c i : Nat) (hi : i < n) : (v + c * 2 ^ n) / 2 ^ i % 2 = v / 2 ^ i % 2 := by
  obtain ⟨d, rfl⟩ : ∃ d, n = i + (d + 1) := ⟨n - i - 1, by omega⟩
  rw [Nat.pow_add, Nat.mul_left_comm, Nat.add_mul_div_left _ _ (Nat.pow_pos (by omega)), Nat.pow_succ, ← Nat.mul_assoc, Nat.add_mul_mod_self_right]

/-- The number of some bits, the highest added last. -/
theorem get_up (v at' i : Nat) : v / 2 ^ at' % 2 ^ (i + 1) = v / 2 ^ at' % 2 ^ i + (v / 2 ^ (at' + i) % 2) * 2 ^ i := by
  rw [Nat.pow_add 2 i 1, Nat.mod_mul, Nat.pow_one, Nat.div_div_eq_div_mul, ← Nat.pow_add, Nat.mul_comm (2 ^ i)]

/-- .. or the lowest added last. -/
theorem get_down (v at' i : Nat) : v / 2 ^ at' % 2 ^ (i + 1) = 2 * (v / 2 ^ (at' + 1) % 2 ^ i) + v / 2 ^ at' % 2 := by
  rw [Nat.pow_succ, Nat.mul_comm (2 ^ i) 2, Nat.mod_mul, Nat.div_div_eq_div_mul, ← Nat.pow_succ, Nat.add_comm]

end Go.Proofs.YtkjebacpmmfflaaDoor
