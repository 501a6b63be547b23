/-
  The model's l1put: bits put behind others, one by one, the lowest first.
-/
import Derived.Test.YtfeokafkhnbdiaaGreatDoorINorm4
import Derived.Test.YtfeokafkhnbdiaaGreatDoorICntI
import Derived.Laws.BitsAllLaws
import Derived.BigQuiet
import Derived.Deep.AppendLies
import Derived.Deep.RegionLaw
import Derived.BigRegion
import Derived.Deep.RegionHeld3
import Derived.WalkKit
namespace Go.Proofs.YtfeokafkhnbdiaaGreatDoor
open Go.RowKit
set_option linter.unusedVariables false

theorem cross {ci cp ck ni np nk : Int} (h1 : ci * np ≤ cp * ni) (h2 : cp * nk < ck * np) (hi : 0 ≤ ni) (hk : 0 ≤ nk) (hp : 0 < np) : ci * nk ≤ ck * ni := by
  have a1 : ci * np * nk ≤ cp * ni * nk := Int.mul_le_mul_of_nonneg_right h1 hk
  have a2 : cp * nk * ni ≤ ck * np * ni := Int.mul_le_mul_of_nonneg_right (Int.le_of_lt h2) hi
  have e1 : ci * np * nk = ci * nk * np := by rw [Int.mul_assoc, Int.mul_comm np nk, ← Int.mul_assoc]
  have e2 : cp * ni * nk = cp * nk * ni := by rw [Int.mul_assoc, Int.mul_comm ni nk, ← Int.mul_assoc]
  have e3 : ck * np * ni = ck * ni * np := by rw [Int.mul_assoc, Int.mul_comm np ni, ← Int.mul_assoc]
  rw [e1, e2] at a1
  rw [e3] at a2
  exact Int.le_of_mul_le_mul_right (Int.le_trans a1 a2) hp
theorem pick_max {cs ns : List Int} {j : Nat} (hf : Fair cs ns j) (k : Nat) (hk : k ≤ cs.length) : ∀ i, i < k → 0 < cs.getD i 0 → cs.getD i 0 * ns.getD (pick cs ns k).toNat 0 ≤ cs.getD (pick cs ns k).toNat 0 * ns.getD i 0 := by
  induction k with
  | zero => intro i hi; omega
  | succ k ih =>
    intro i hi hc
    by_cases c : ahead cs ns (pick cs ns k) k
    · rw [pick_yes c, Int.toNat_natCast]
      by_cases hik : i = k
      · subst hik; exact Int.le_refl _
      · rcases c.2 with c2 | c2
        · exact absurd (pick_some cs ns k i (by omega) hc) (by omega)
        · have hp := pick_some cs ns k i (by omega) hc
          have hr := pick_rng cs ns k
          have hpp := pick_pos cs ns k hp
          have h1 := ih (by omega) i (by omega) hc
          have np := (hf.2 (pick cs ns k).toNat (by omega)).1 hpp
          exact cross h1 c2 (hf.bnd i).1 (hf.bnd k).1 (by omega)
    · rw [pick_no c]
      by_cases hik : i = k
      · subst hik
        have hp : 0 ≤ pick cs ns i := by
          by_cases h0 : pick cs ns i < 0
          · exact absurd ⟨hc, .inl h0⟩ c
          · omega
        have : ¬ (cs.getD (pick cs ns i).toNat 0 * ns.getD i 0 < cs.getD i 0 * ns.getD (pick cs ns i).toNat 0) := fun h => c ⟨hc, .inr h⟩
        omega
      · exact ih (by omega) i (by omega) hc
def Mono (cs ns : List Int) : Prop := ∀ i k, i < cs.length → k < cs.length → cs.getD k 0 < cs.getD i 0 → ns.getD k 0 ≤ ns.getD i 0
theorem mono_all {cs : List Int} (hs : some1 cs) (h0 : ∀ i, i < cs.length → 0 ≤ cs.getD i 0) (j : Nat) : Mono cs (shares cs j) := by
  induction j with
  | zero =>
    intro i k hi hk h
    have e : ∀ q, q < cs.length → (shares cs 0).getD q 0 = one (cs.getD q 0) := fun q hq => by simp [shares, List.getD_eq_getElem?_getD, List.getElem?_eq_getElem hq]
    rw [e i hi, e k hk]
    have h2 := h0 k hk
    simp only [one]
    rw [if_pos (show 0 < cs.getD i 0 by omega)]
    split <;> omega
  | succ j ih =>
    have hf := fair_all hs j
    obtain ⟨p1, p2, p3⟩ := pick_in (ns := shares cs j) hs
    have hmax := pick_max hf cs.length (Nat.le_refl _)
    intro i k hi hk h
    show (give cs (shares cs j)).getD k 0 ≤ (give cs (shares cs j)).getD i 0
    unfold give bump
    generalize (pick cs (shares cs j) cs.length).toNat = p at *
    generalize shares cs j = ns at *
    have h1 := ih i k hi hk h
    by_cases hkp : k = p
    · subst hkp
      have hip : i ≠ k := fun e => by subst e; omega
      rw [getD_set_eq (by rw [hf.1]; exact hk), getD_set_ne hip]
      have h2 := hmax i hi (by have := h0 k hk; omega)
      have h3 := (hf.2 k hk).1 p3
      by_cases he : ns.getD k 0 = ns.getD i 0
      · rw [he] at h2 h3
        have := Int.le_of_mul_le_mul_right h2 (by omega)
        omega
      · omega
    · rw [getD_set_ne hkp]
      by_cases hip : i = p
      · subst hip
        rw [getD_set_eq (by rw [hf.1]; exact hi)]
        omega
      · rw [getD_set_ne hip]; exact h1
theorem sum_setN (cs : List Int) (i : Nat) (v : Int) (h : i < cs.length) : (cs.set i v).sum = cs.sum - cs.getD i 0 + v := by
  induction cs generalizing i with
  | nil => simp at h
  | cons c cs ih =>
    cases i with
    | zero => simp; omega
    | succ i =>
      have := ih i (by simpa using h)
      simp only [List.set_cons_succ, List.sum_cons, this]
      simp
      omega
theorem shares_sum {cs : List Int} (hs : some1 cs) (j : Nat) : (shares cs j).sum = sumF one cs + j := by
  induction j with
  | zero => simp [shares, sumF]
  | succ j ih =>
    obtain ⟨p1, p2, p3⟩ := pick_in (ns := shares cs j) hs
    show (give cs (shares cs j)).sum = _
    unfold give bump
    rw [sum_setN _ _ _ (by rw [(fair_all hs j).1]; exact p2), ih]
    omega
theorem shares_norm {cs : List Int} (hc : cntB cs = true) (hr : roomy cs) : normB (shares cs (rest cs)) = true := by
  have hs := some1_of hr.1
  have hf := fair_all hs (rest cs)
  have hb := cntB_bndN hc
  simp only [normB, decide_eq_true_eq]
  rw [hf.1]
  refine ⟨hb.1, hb.2, fun z hz => ?_, ?_⟩
  · have h1 := hf.rng z hz
    have h2 := hr.1
    unfold rest at h1
    omega
  · rw [shares_sum hs]
    have h1 := hr.1
    have h2 := hr.2
    unfold rest
    omega
/-- The first j bits of the code c of L bits, from its highest on, as a number that has the first one lowest. -/
def rvp (c L : Nat) : Nat → Nat
  | 0 => 0
  | j + 1 => rvp c L j + (c / 2 ^ (L - 1 - j) % 2) * 2 ^ j
theorem rvp_lt (c L j : Nat) : rvp c L j < 2 ^ j := by
  induction j with
  | zero => simp [rvp]
  | succ j ih =>
    simp only [rvp]
    have h1 : c / 2 ^ (L - 1 - j) % 2 ≤ 1 := by omega
    have h2 : (c / 2 ^ (L - 1 - j) % 2) * 2 ^ j ≤ 1 * 2 ^ j := Nat.mul_le_mul_right _ h1
    rw [Nat.pow_succ]
    omega
theorem rvp_congr {c d L M j : Nat} (h : ∀ i, i < j → c / 2 ^ (L - 1 - i) % 2 = d / 2 ^ (M - 1 - i) % 2) : rvp c L j = rvp d M j := by
  induction j with
  | zero => rfl
  | succ j ih =>
    simp only [rvp]
    rw [ih (fun i hi => h i (by omega)), h j (by omega)]
theorem rvp_split (x a b j : Nat) (hj : j ≤ b) : rvp x (a + b) (a + j) = rvp x (a + b) a + 2 ^ a * rvp x b j := by
  induction j with
  | zero => simp [rvp]
  | succ j ih =>
    rw [show a + (j + 1) = (a + j) + 1 from rfl]
    simp only [rvp]
    rw [ih (by omega), show a + b - 1 - (a + j) = b - 1 - j from by omega, Nat.pow_add, Nat.mul_add]
    have e : x / 2 ^ (b - 1 - j) % 2 * (2 ^ a * 2 ^ j) = 2 ^ a * (x / 2 ^ (b - 1 - j) % 2 * 2 ^ j) := by rw [Nat.mul_left_comm]
    rw [e]
    omega
theorem rvp_shift (x L : Nat) (h : L ≤ 16) : rvp x 16 16 / 2 ^ (16 - L) = rvp x L L := by
  have h1 := rvp_split x (16 - L) L L (Nat.le_refl _)
  rw [show 16 - L + L = 16 from by omega] at h1
  rw [h1, Nat.add_mul_div_left _ _ (Nat.pow_pos (by omega)), Nat.div_eq_of_lt (rvp_lt _ _ _), Nat.zero_add]
theorem bit_mod (c k i : Nat) (h : i < k) : c % 2 ^ k / 2 ^ i % 2 = c / 2 ^ i % 2 := by
  have e : 2 ^ k = 2 ^ i * 2 ^ (k - i) := by rw [← Nat.pow_add]; congr 1; omega
  rw [e, Nat.mod_mul_right_div_self]
  have d : 2 ∣ 2 ^ (k - i) := ⟨2 ^ (k - i - 1), by rw [← Nat.pow_succ']; congr 1; omega⟩
  exact Nat.mod_mod_of_dvd _ d
theorem rvp_mod (c L k : Nat) (h : L ≤ k) : rvp (c % 2 ^ k) L L = rvp c L L := rvp_congr (fun i hi => bit_mod c k (L - 1 - i) (by omega))
theorem rvp_16 (x : Nat) : rvp x 16 16 = rvp (x / 256) 8 8 + 256 * rvp (x % 256) 8 8 := by
  have h1 := rvp_split x 8 8 8 (Nat.le_refl _)
  have h2 : rvp x (8 + 8) 8 = rvp (x / 256) 8 8 := rvp_congr (fun i hi => by
    rw [show 8 + 8 - 1 - i = 8 + (8 - 1 - i) from by omega, Nat.pow_add, ← Nat.div_div_eq_div_mul])
  have h3 := rvp_mod x 8 8 (Nat.le_refl _)
  rw [show (8 : Nat) + 8 = 16 from rfl] at h1 h2
  rw [h1, h2, show 256 = 2 ^ 8 from rfl, h3]
theorem u16_and (a : Nat) (h : a < 65536) : bits .and .u16 (a : Int) 255 = ((a % 256 : Nat) : Int) := by
  have e : bits .and .u16 (a : Int) 255 = IntKind.u16.wrap ((BitVec.ofInt 16 (a : Int) &&& BitVec.ofInt 16 255).toNat : Int) := rfl
  rw [e, BitVec.toNat_and]
  have e1 : (BitVec.ofInt 16 (a : Int)).toNat = a := by rw [BitVec.ofInt_natCast, BitVec.toNat_ofNat]; exact Nat.mod_eq_of_lt (by omega)
  have e2 : (BitVec.ofInt 16 255).toNat = 2 ^ 8 - 1 := by decide
  rw [e1, e2, Nat.and_two_pow_sub_one_eq_mod]
  exact IntWalk.u16_in _ (by omega)
theorem u16_or (a b : Nat) (ha : a < 256) (hb : b < 256) : bits .or .u16 (a : Int) ((b * 256 : Nat) : Int) = ((a + 256 * b : Nat) : Int) := by
  have e : bits .or .u16 (a : Int) ((b * 256 : Nat) : Int) = IntKind.u16.wrap ((BitVec.ofInt 16 (a : Int) ||| BitVec.ofInt 16 ((b * 256 : Nat) : Int)).toNat : Int) := rfl
  rw [e, BitVec.toNat_or]
  have e1 : (BitVec.ofInt 16 (a : Int)).toNat = a := by rw [BitVec.ofInt_natCast, BitVec.toNat_ofNat]; exact Nat.mod_eq_of_lt (by omega)
  have e2 : (BitVec.ofInt 16 ((b * 256 : Nat) : Int)).toNat = b * 256 := by rw [BitVec.ofInt_natCast, BitVec.toNat_ofNat]; exact Nat.mod_eq_of_lt (by omega)
  have e3 : a ||| b * 256 = a + 256 * b := by
    rw [Nat.or_comm, Nat.mul_comm, show 256 = 2 ^ 8 from rfl, ← Nat.two_pow_add_eq_or_of_lt (by omega)]
    omega
  rw [e1, e2, e3]
  exact IntWalk.u16_in _ (by omega)

set_option maxRecDepth 100000 in
set_option maxHeartbeats 3200000 in
theorem rev16_any (y z : Nat) (w : World) (hy : y < 256) (hz : z < 256) :
    Calls Tryz.prog 147 #[.int .u16 ((y * 256 + z : Nat) : Int)] w fun e w' => e = .returned (.int .u16 ((rvp y 8 8 + 256 * rvp z 8 8 : Nat) : Int)) ∧ ∃ m, w' = w.drewN m := by
  have h1 : bits .and .u16 ((y * 256 + z : Nat) : Int) 255 = ((z : Nat) : Int) := by
    rw [u16_and _ (by omega)]
    congr 1
    omega
  have h2 : (((y * 256 + z : Nat) : Int)) / 256 = ((y : Nat) : Int) := by omega
  have hyI : (y : Int) < 256 := by omega
  have hzI : (z : Int) < 256 := by omega
  generalize ((y * 256 + z : Nat) : Int) = x at *
  go_enter Tryz.func147, Tryz.ntmps147
  go_wp2
  go_quiet (fail)
  go_wp2
  go_ret
  refine ⟨ret_int ?_, _, rfl⟩
  have e : ∀ (n : Nat) (S : ByteArray) (h : n < S.size), S[n] = S.data.toList.getD n 0 := by
    intro n S h
    have h' : n < S.data.toList.length := by simpa using h
    rw [List.getD_eq_getElem?_getD, List.getElem?_eq_getElem h']
    rfl
  rw [e y, e z]
  clear e h1 h2 hyI hzI
  have H : ∀ (L : List UInt8), (∀ n : Nat, n < 256 → (L.getD n 0).toNat = rvp n 8 8) → bits .or .u16 (IntKind.u16.wrap ((L.getD y 0).toNat : Int)) (IntKind.u16.wrap (IntKind.u16.wrap ((L.getD z 0).toNat : Int) * 256)) = ((rvp y 8 8 + 256 * rvp z 8 8 : Nat) : Int) := by
    intro L hL
    rw [hL y hy, hL z hz]
    have r1 : rvp y 8 8 < 256 := rvp_lt y 8 8
    have r2 : rvp z 8 8 < 256 := rvp_lt z 8 8
    generalize rvp y 8 8 = p at *
    generalize rvp z 8 8 = q at *
    rw [IntWalk.u16_in (p : Int) (by omega), IntWalk.u16_in (q : Int) (by omega), IntWalk.u16_in ((q : Int) * 256) (by omega), show ((q : Int) * 256) = ((q * 256 : Nat) : Int) from by simp]
    exact u16_or p q r1 r2
  exact H _ (by decide +kernel)

set_option maxHeartbeats 800000 in
theorem rev16_rvp (c : Nat) (w : World) (h : c < 65536) :
    Calls Tryz.prog 147 #[.int .u16 (c : Int)] w fun e w' => e = .returned (.int .u16 ((rvp c 16 16 : Nat) : Int)) ∧ ∃ m, w' = w.drewN m := by
  have := rev16_any (c / 256) (c % 256) w (by omega) (by omega)
  rw [show c / 256 * 256 + c % 256 = c from by omega, ← rvp_16 c] at this
  exact this
theorem addr_add (b off j : Nat) : (⟨b, off, none⟩ : Addr).add j = ⟨b, off + j, none⟩ := by unfold Addr.add; split <;> simp_all

theorem news_of {w : World} {b off : Nat} {zs : List Int} (hc : ∀ i, i < zs.length → w.cell? ⟨b, off + i, none⟩ = some (.int .u8 (zs.getD i 0))) :
    ∀ j u, (zs.map (Value.int .u8))[j]? = some u → w.cell? ((⟨b, off, none⟩ : Addr).add j) = some u := by
  intro j u hu
  have hj : j < zs.length := by
    rcases Nat.lt_or_ge j zs.length with h | h
    · exact h
    · rw [List.getElem?_eq_none (by simpa using h)] at hu; cases hu
  rw [addr_add, hc j hj]
  simp [hj] at hu
  simp [hj, ← hu]

theorem oneCells (zs : List Int) : ∀ u ∈ zs.map (Value.int .u8), u.oneCell' = true := by
  intro u hu
  simp only [List.mem_map] at hu
  obtain ⟨z, _, rfl⟩ := hu
  rfl

end Go.Proofs.YtfeokafkhnbdiaaGreatDoor
namespace Go.Proofs.YtfeokafkhnbdiaaGreatDoor

/-- The number that bytes are, the lowest first. -/
def val : List Int → Nat
  | [] => 0
  | z :: r => z.toNat + 256 * val r

/-- k bytes of a number, the lowest first. -/
def encL : Nat → Nat → List Int
  | 0, _ => []
  | k + 1, v => ((v % 256 : Nat) : Int) :: encL k (v / 256)

/-- As many bytes as n bits want, of a number. -/
def enc (n v : Nat) : List Int := encL ((n + 7) / 8) v

theorem encL_len (k v : Nat) : (encL k v).length = k := by
  induction k generalizing v with
  | zero => rfl
  | succ k ih => simp [encL, ih]

theorem enc_len (n v : Nat) : (enc n v).length = (n + 7) / 8 := encL_len _ _

theorem encL_rng (k v : Nat) : ∀ z ∈ encL k v, 0 ≤ z ∧ z ≤ 255 := by
  induction k generalizing v with
  | zero => intro z hz; cases hz
  | succ k ih =>
    intro z hz
    simp only [encL, List.mem_cons] at hz
    rcases hz with rfl | hz
    · omega
    · exact ih _ z hz

theorem encL_get (k v i : Nat) (h : i < k) : (encL k v).getD i 0 = ((v / 256 ^ i % 256 : Nat) : Int) := by
  induction k generalizing v i with
  | zero => omega
  | succ k ih =>
    cases i with
    | zero => simp [encL]
    | succ i =>
      have := ih (v / 256) i (by omega)
      simp only [encL, List.getD_cons_succ, this]
      rw [Nat.div_div_eq_div_mul, Nat.pow_succ, Nat.mul_comm]

theorem val_encL (k v : Nat) : val (encL k v) = v % 256 ^ k := by
  induction k generalizing v with
  | zero => simp [encL, val, Nat.mod_one]
  | succ k ih =>
    simp only [encL, val, ih, Int.toNat_natCast]
    rw [Nat.pow_succ, Nat.mul_comm (256 ^ k) 256, Nat.mod_mul]

theorem encL_val (zs : List Int) (h : ∀ z ∈ zs, 0 ≤ z ∧ z ≤ 255) : encL zs.length (val zs) = zs := by
  induction zs with
  | nil => rfl
  | cons z r ih =>
    have hz := h z (by simp)
    have hr := ih (fun y hy => h y (by simp [hy]))
    simp only [List.length_cons, encL, val]
    rw [show (z.toNat + 256 * val r) % 256 = z.toNat from by omega, show (z.toNat + 256 * val r) / 256 = val r from by omega, hr]
    congr 1
    omega

theorem val_lt (zs : List Int) (h : ∀ z ∈ zs, 0 ≤ z ∧ z ≤ 255) : val zs < 256 ^ zs.length := by
  induction zs with
  | nil => simp [val]
  | cons z r ih =>
    have hz := h z (by simp)
    have hr := ih (fun y hy => h y (by simp [hy]))
    simp only [List.length_cons, val, Nat.pow_succ]
    omega

theorem encL_mod (k v : Nat) : encL k (v % 256 ^ k) = encL k v := by
  have := encL_val (encL k v) (encL_rng k v)
  rwa [encL_len, val_encL] at this

theorem encL_append (k v : Nat) : encL (k + 1) v = encL k v ++ [((v / 256 ^ k % 256 : Nat) : Int)] := by
  induction k generalizing v with
  | zero => simp [encL]
  | succ k ih =>
    rw [encL, ih (v / 256)]
    simp only [encL, List.cons_append]
    rw [Nat.div_div_eq_div_mul, Nat.pow_succ, Nat.mul_comm (256 ^ k) 256]

theorem pow256 (k : Nat) : 256 ^ k = 2 ^ (8 * k) := by
  rw [Nat.pow_mul]

/-- The bit at place p. -/
theorem enc_bit (n v p : Nat) (hp : p < n) : (((enc n v).getD (p / 8) 0).toNat / 2 ^ (p % 8)) % 2 = v / 2 ^ p % 2 := by
  rw [enc, encL_get _ _ _ (by omega), Int.toNat_natCast, pow256]
  have h1 : v / 2 ^ p = v / 2 ^ (8 * (p / 8)) / 2 ^ (p % 8) := by
    rw [Nat.div_div_eq_div_mul, ← Nat.pow_add]
    congr 2
    omega
  rw [h1]
  generalize v / 2 ^ (8 * (p / 8)) = u
  have hq : p % 8 < 8 := Nat.mod_lt _ (by omega)
  generalize p % 8 = q at hq
  have h256 : 256 = 2 ^ q * 2 ^ (8 - q) := by rw [← Nat.pow_add, show q + (8 - q) = 8 from by omega]
  rw [h256, Nat.mod_mul_right_div_self]
  obtain ⟨r, hr⟩ : ∃ r, 8 - q = r + 1 := ⟨7 - q, by omega⟩
  rw [hr, Nat.pow_succ, Nat.mul_comm (2 ^ r) 2, Nat.mod_mul_right_mod]

/-- Some bits more, in the byte in which the next one lies: used bits of it are taken. -/
theorem enc_step (n v s c : Nat) (hv : v < 2 ^ n) (hc : c < 2 ^ s) (hs : 0 < s) (h8 : n % 8 + s ≤ 8) :
    enc (n + s) (v + c * 2 ^ n) = (if n % 8 = 0 then enc n v ++ [0] else enc n v).set (n / 8) (((v / 256 ^ (n / 8) + c * 2 ^ (n % 8) : Nat) : Int)) := by
  have hk : (n + s + 7) / 8 = n / 8 + 1 := by omega
  have hpow : 2 ^ n = 256 ^ (n / 8) * 2 ^ (n % 8) := by
    rw [pow256, ← Nat.pow_add, show 8 * (n / 8) + n % 8 = n from by omega]
  have hlow : encL (n / 8) (v + c * 2 ^ n) = encL (n / 8) v := by
    rw [← encL_mod, hpow, Nat.mul_left_comm, Nat.add_mul_mod_self_left, encL_mod]
  have hdiv : (v + c * 2 ^ n) / 256 ^ (n / 8) = v / 256 ^ (n / 8) + c * 2 ^ (n % 8) := by
    rw [hpow, Nat.mul_left_comm, Nat.add_mul_div_left _ _ (Nat.pow_pos (by omega))]
  have hvd : v / 256 ^ (n / 8) < 2 ^ (n % 8) := by
    rw [Nat.div_lt_iff_lt_mul (Nat.pow_pos (by omega)), Nat.mul_comm, ← hpow]; exact hv
  have hlt : v / 256 ^ (n / 8) + c * 2 ^ (n % 8) < 256 := by
    have h1 : (c + 1) * 2 ^ (n % 8) ≤ 2 ^ s * 2 ^ (n % 8) := Nat.mul_le_mul_right _ hc
    have h2 : 2 ^ s * 2 ^ (n % 8) ≤ 256 := by
      rw [← Nat.pow_add]
      have h3 : 2 ^ (s + n % 8) ≤ 2 ^ 8 := Nat.pow_le_pow_right (by omega) (by omega)
      omega
    rw [Nat.add_mul, Nat.one_mul] at h1
    omega
  unfold enc
  rw [hk, encL_append, hlow, hdiv, Nat.mod_eq_of_lt hlt]
  by_cases h0 : n % 8 = 0
  · rw [if_pos h0, show (n + 7) / 8 = n / 8 from by omega]
    rw [List.set_append_right _ _ (by rw [encL_len]; exact Nat.le_refl _), encL_len]
    simp
  · rw [if_neg h0, show (n + 7) / 8 = n / 8 + 1 from by omega, encL_append]
    rw [List.set_append_right _ _ (by rw [encL_len]; exact Nat.le_refl _), encL_len]
    simp

theorem enc_last (n v : Nat) (hv : v < 2 ^ n) (h : n % 8 ≠ 0) : (enc n v).getD (n / 8) 0 = ((v / 256 ^ (n / 8) : Nat) : Int) := by
  have hpow : 2 ^ n = 256 ^ (n / 8) * 2 ^ (n % 8) := by
    rw [pow256, ← Nat.pow_add, show 8 * (n / 8) + n % 8 = n from by omega]
  have hvd : v / 256 ^ (n / 8) < 2 ^ (n % 8) := by
    rw [Nat.div_lt_iff_lt_mul (Nat.pow_pos (by omega)), Nat.mul_comm, ← hpow]; exact hv
  have h256 : 2 ^ (n % 8) ≤ 2 ^ 8 := Nat.pow_le_pow_right (by omega) (by omega)
  rw [enc, encL_get _ _ _ (by omega), Nat.mod_eq_of_lt (by omega)]

theorem enc_top (n v : Nat) (hv : v < 2 ^ n) : v / 256 ^ (n / 8) < 2 ^ (n % 8) := by
  have hpow : 2 ^ n = 256 ^ (n / 8) * 2 ^ (n % 8) := by
    rw [pow256, ← Nat.pow_add, show 8 * (n / 8) + n % 8 = n from by omega]
  rw [Nat.div_lt_iff_lt_mul (Nat.pow_pos (by omega)), Nat.mul_comm, ← hpow]; exact hv

/-- Bytes, as many as n bits want, the last one without a bit behind them, are a number below 2 ^ n. -/
theorem val_bits (n : Nat) (zs : List Int) (h : ∀ z ∈ zs, 0 ≤ z ∧ z ≤ 255) (hl : zs.length = (n + 7) / 8) (ht : n % 8 = 0 ∨ (zs.getD (zs.length - 1) 0).toNat < 2 ^ (n % 8)) :
    val zs < 2 ^ n ∧ zs = enc n (val zs) := by
  have he := encL_val zs h
  have hv := val_lt zs h
  refine ⟨?_, by rw [enc, ← hl, he]⟩
  by_cases h0 : n % 8 = 0
  · rw [hl, pow256, show 8 * ((n + 7) / 8) = n from by omega] at hv
    exact hv
  · have ht' := ht.resolve_left h0
    have hk : zs.length = n / 8 + 1 := by omega
    have hlast : zs.getD (zs.length - 1) 0 = ((val zs / 256 ^ (n / 8) % 256 : Nat) : Int) := by
      have := encL_get zs.length (val zs) (n / 8) (by omega)
      rw [he] at this
      rw [show zs.length - 1 = n / 8 from by omega]
      exact this
    rw [hlast, Int.toNat_natCast] at ht'
    have h256 : val zs / 256 ^ (n / 8) < 256 := by
      rw [Nat.div_lt_iff_lt_mul (Nat.pow_pos (by omega)), ← Nat.pow_succ', show (n / 8).succ = zs.length from hk.symm]; exact hv
    rw [Nat.mod_eq_of_lt h256, Nat.div_lt_iff_lt_mul (Nat.pow_pos (by omega)), pow256, ← Nat.pow_add] at ht'
    rw [show n % 8 + 8 * (n / 8) = n from by omega] at ht'
    exact ht'

theorem put_lt (n v s c : Nat) (hv : v < 2 ^ n) (hc : c < 2 ^ s) : v + c * 2 ^ n < 2 ^ (n + s) := by
  have h1 : (c + 1) * 2 ^ n ≤ 2 ^ s * 2 ^ n := Nat.mul_le_mul_right _ hc
  rw [Nat.add_mul, Nat.one_mul, ← Nat.pow_add, Nat.add_comm s n] at h1
  omega

/-- Bits that are put one part behind the other. -/
theorem put_part (n v x i s : Nat) : v + (x % 2 ^ i) * 2 ^ n + (x / 2 ^ i % 2 ^ s) * 2 ^ (n + i) = v + (x % 2 ^ (i + s)) * 2 ^ n := by
  have h : x % 2 ^ (i + s) = x % 2 ^ i + 2 ^ i * (x / 2 ^ i % 2 ^ s) := by rw [Nat.pow_add, Nat.mod_mul]
  rw [h, Nat.add_mul, Nat.pow_add, Nat.add_assoc]
  congr 2
  rw [Nat.mul_comm (2 ^ i), Nat.mul_assoc, Nat.mul_comm (2 ^ i)]

/-- What is got where something was put: the thing itself; ahead of it, what was there. -/
theorem got_put (n v c s : Nat) (hv : v < 2 ^ n) (hc : c < 2 ^ s) : (v + c * 2 ^ n) / 2 ^ n % 2 ^ s = c := by
  rw [Nat.add_mul_div_right _ _ (Nat.pow_pos (by omega)), Nat.div_eq_of_lt hv, Nat.zero_add, Nat.mod_eq_of_lt hc]

theorem got_old (n v c i : Nat) (hi : i < n) : (v + c * 2 ^ n) / 2 ^ i % 2 = v / 2 ^ i % 2 := by
  obtain ⟨d, rfl⟩ : ∃ d, n = i + (d + 1) := ⟨n - i - 1, by omega⟩
  rw [Nat.pow_add, Nat.mul_left_comm, Nat.add_mul_div_left _ _ (Nat.pow_pos (by omega)), Nat.pow_succ, ← Nat.mul_assoc, Nat.add_mul_mod_self_right]

/-- The number of some bits, the highest added last. -/
theorem get_up (v at' i : Nat) : v / 2 ^ at' % 2 ^ (i + 1) = v / 2 ^ at' % 2 ^ i + (v / 2 ^ (at' + i) % 2) * 2 ^ i := by
  rw [Nat.pow_add 2 i 1, Nat.mod_mul, Nat.pow_one, Nat.div_div_eq_div_mul, ← Nat.pow_add, Nat.mul_comm (2 ^ i)]

/-- .. or the lowest added last. -/
theorem get_down (v at' i : Nat) : v / 2 ^ at' % 2 ^ (i + 1) = 2 * (v / 2 ^ (at' + 1) % 2 ^ i) + v / 2 ^ at' % 2 := by
  rw [Nat.pow_succ, Nat.mul_comm (2 ^ i) 2, Nat.mod_mul, Nat.div_div_eq_div_mul, ← Nat.pow_succ, Nat.add_comm]

end Go.Proofs.YtfeokafkhnbdiaaGreatDoor
namespace Go.Proofs.YtfeokafkhnbdiaaGreatDoor
open Go.RowKit

theorem ofInt_i64 (a : Nat) (ha : a < 9223372036854775808) : (BitVec.ofInt 64 (a : Int)).toNat = a := by
  rw [BitVec.ofInt_natCast, BitVec.toNat_ofNat]; exact Nat.mod_eq_of_lt (by omega)

theorem i64_and_nat (a b : Nat) (ha : a < 9223372036854775808) (hb : b < 9223372036854775808) : bits .and .i64 (a : Int) (b : Int) = ((a &&& b : Nat) : Int) := by
  have hx : a &&& b < 2 ^ 63 := Nat.and_lt_two_pow _ (by omega)
  show IntKind.i64.wrap ((BitVec.ofInt 64 (a : Int) &&& BitVec.ofInt 64 (b : Int)).toNat : Int) = _
  rw [BitVec.toNat_and, ofInt_i64 a ha, ofInt_i64 b hb, IntKind.wrap_i64]
  omega

theorem i64_or_nat (a b : Nat) (ha : a < 9223372036854775808) (hb : b < 9223372036854775808) : bits .or .i64 (a : Int) (b : Int) = ((a ||| b : Nat) : Int) := by
  have hx : a ||| b < 2 ^ 63 := Nat.or_lt_two_pow (by omega) (by omega)
  show IntKind.i64.wrap ((BitVec.ofInt 64 (a : Int) ||| BitVec.ofInt 64 (b : Int)).toNat : Int) = _
  rw [BitVec.toNat_or, ofInt_i64 a ha, ofInt_i64 b hb, IntKind.wrap_i64]
  omega

/-- The bit k of a byte, as an int. -/
theorem bit64 (z : Int) (k : Nat) (h : 0 ≤ z ∧ z ≤ 255) : bits .and .i64 (wrap64 (z / 2 ^ k)) 1 = ((z.toNat / 2 ^ k % 2 : Nat) : Int) := by
  obtain ⟨n, rfl⟩ := Int.eq_ofNat_of_zero_le h.1
  have e : ((n : Int) / 2 ^ k) = ((n / 2 ^ k : Nat) : Int) := by simp
  have hle : n / 2 ^ k ≤ n := Nat.div_le_self _ _
  rw [e, Int.toNat_natCast]
  generalize n / 2 ^ k = m at *
  rw [IntWalk.wrap64_in _ (by omega)]
  have := i64_and_nat m 1 (by omega) (by omega)
  rw [show ((1 : Nat) : Int) = 1 from rfl] at this
  rw [this, nat_mask1]

/-- 'n | bit << i' where n has i bits. -/
theorem or_bit64 (n b i : Nat) (hn : n < 2 ^ i) (hb : b ≤ 1) (hi : i ≤ 31) : bits .or .i64 (n : Int) ((b * 2 ^ i : Nat) : Int) = ((n + b * 2 ^ i : Nat) : Int) := by
  have h1 : 2 ^ i ≤ 2 ^ 31 := Nat.pow_le_pow_right (by omega) hi
  have h2 : b * 2 ^ i ≤ 1 * 2 ^ i := Nat.mul_le_mul_right _ hb
  rw [i64_or_nat n (b * 2 ^ i) (by omega) (by omega)]
  congr 1
  rw [Nat.or_comm, nat_join i _ _ (by simp) hn, Nat.add_comm]

theorem or_step64 (X j k : Nat) (z : Int) (hz : 0 ≤ z ∧ z ≤ 255) (hx : X < 2 ^ j) (hj : j ≤ 31) :
    bits .or .i64 (X : Int) (wrap64 (bits .and .i64 (wrap64 (z / 2 ^ k)) 1 * 2 ^ j)) = ((X + z.toNat / 2 ^ k % 2 * 2 ^ j : Nat) : Int) := by
  rw [bit64 z k hz]
  have hb : z.toNat / 2 ^ k % 2 ≤ 1 := by omega
  generalize z.toNat / 2 ^ k % 2 = bt at *
  have e : ((bt : Nat) : Int) * 2 ^ j = ((bt * 2 ^ j : Nat) : Int) := by simp
  have h1 : 2 ^ j ≤ 2 ^ 31 := Nat.pow_le_pow_right (by omega) hj
  have h2 : bt * 2 ^ j ≤ 1 * 2 ^ j := Nat.mul_le_mul_right _ hb
  have h3 := or_bit64 X bt j hx hb hj
  rw [e]
  generalize bt * 2 ^ j = y at *
  rw [IntWalk.wrap64_in _ (by omega)]
  exact h3

/-- 'old | byte(x)' where old has u bits and x none of them. -/
theorem or_u8 (old x u : Nat) (ho : old < 2 ^ u) (hx : x % 2 ^ u = 0) (h8 : x < 256) (h9 : old < 256) : bits .or .u8 (old : Int) (x : Int) = ((old + x : Nat) : Int) := by
  rw [u8_or_nat old x h9 h8]
  congr 1
  rw [Nat.or_comm, nat_join u _ _ hx ho, Nat.add_comm]

set_option linter.unusedVariables false
/-- A slice value (nil, or a row of the call's own from block B on) that has the bytes zs. -/
def OwnV (w : World) (B : Nat) (v : Value) (zs : List Int) : Prop := w.ownsRow B 5 1 v zs.length (zs.map (Value.int .u8)) ∧ ∀ z ∈ zs, 0 ≤ z ∧ z ≤ 255

theorem OwnV.form {w : World} {B : Nat} {v : Value} {zs : List Int} (h : OwnV w B v zs) (hp : 0 < zs.length) : ∃ g cap, v = .slice (some ⟨g, 0, none⟩) zs.length cap ∧ Own w B g cap zs := by
  obtain ⟨g, cap, rfl, _, _⟩ := h.1.form hp
  exact ⟨g, cap, rfl, h⟩

theorem Own.v {w : World} {B g cap : Nat} {zs : List Int} (h : Own w B g cap zs) : OwnV w B (.slice (some ⟨g, 0, none⟩) zs.length cap) zs := h

/-- A block of another kind than a row of bytes is none. -/
theorem Own.ne {w : World} {B g cap R : Nat} {zs : List Int} {cur : Array Value} {T : TypeId} (h : Own w B g cap zs) (hR : w.heap[R]? = some (.cells cur T (0, 0))) (hT : T ≠ 5) : g ≠ R := by
  rintro rfl
  rcases h.1.2 with ⟨h', _⟩ | ⟨g', cap', cur', h', hg, hh, r⟩
  · simp at h'
  · have e : g' = g := by simp at h'; exact h'.1.symm
    subst e
    rw [hR] at hh
    simp at hh
    exact hT hh.2

theorem cellR {w : World} {R j : Nat} {cur : Array Value} {T : TypeId} {v : Value} (hR : w.heap[R]? = some (.cells cur T (0, 0))) (hv : cur[j]? = some v) : w.cell? ⟨R, j, none⟩ = some v := by
  rw [cell_of_row w R j cur T (0, 0) hR]; exact hv
theorem frozenR {w : World} {R j : Nat} {cur : Array Value} {T : TypeId} (hR : w.heap[R]? = some (.cells cur T (0, 0))) : w.frozen? ⟨R, j, none⟩ = false := frozen_of_row w R j cur T hR

/-- The byte that takes another bit. -/
theorem put_bit (old X k u : Nat) (hu : u < 8) (ho : old < 2 ^ u) (hX : X ≤ 1073741824) :
    bits .or .u8 (old : Int) (bits .and .i64 ((X : Int) / 2 ^ k) 1 % 256 * 2 ^ u % 256) = ((old + X / 2 ^ k % 2 * 2 ^ u : Nat) : Int) := by
  have e : ((X : Int) / 2 ^ k) = ((X / 2 ^ k : Nat) : Int) := by simp
  have hle : X / 2 ^ k ≤ X := Nat.div_le_self _ _
  have h1 := i64_and_nat (X / 2 ^ k) 1 (by omega) (by omega)
  rw [show ((1 : Nat) : Int) = 1 from rfl, nat_mask1] at h1
  rw [e, h1]
  have hb : X / 2 ^ k % 2 ≤ 1 := by omega
  generalize X / 2 ^ k % 2 = bt at *
  have h2 : 2 ^ u ≤ 2 ^ 7 := Nat.pow_le_pow_right (by omega) (by omega)
  have h3 : bt * 2 ^ u ≤ 1 * 2 ^ u := Nat.mul_le_mul_right _ hb
  have e2 : (((bt : Nat) : Int) % 256 * 2 ^ u % 256) = ((bt * 2 ^ u : Nat) : Int) := by
    have : ((bt : Nat) : Int) % 256 = (bt : Int) := by omega
    rw [this, show ((bt : Int) * 2 ^ u) = ((bt * 2 ^ u : Nat) : Int) from by simp]
    omega
  rw [e2]
  exact or_u8 old (bt * 2 ^ u) u ho (by simp) (by omega) (by omega)

theorem put_close {w W : World} {B g cap R q L : Nat} {v : Value} {Z Z' : List Int} {b : Int} (hR : W.heap[R]? = some (.cells #[.slice (some ⟨g, 0, none⟩) L cap, .int .i64 (q : Nat)] 40 (0, 0)))
    (hZ : Z.length = L) (hown : Own W B g cap Z) (hnext : Z' = Z.set (q / 8) b) (hb : 0 ≤ b ∧ b ≤ 255) (honly : Only (fun k => k = R ∨ v.ownBlock = some k) w W)
    (hrow : v.ownBlock = some g ∨ w.heap.size ≤ g) :
    ((W.setCell ⟨g, q / 8, none⟩ (.int .u8 b)).setCell ⟨R, 1, none⟩ (.int .i64 ((q : Int) + 1))).heap[R]? = some (.cells #[.slice (some ⟨g, 0, none⟩) L cap, .int .i64 ((q + 1 : Nat) : Int)] 40 (0, 0)) ∧
    OwnV ((W.setCell ⟨g, q / 8, none⟩ (.int .u8 b)).setCell ⟨R, 1, none⟩ (.int .i64 ((q : Int) + 1))) B (.slice (some ⟨g, 0, none⟩) L cap) Z' ∧
    Only (fun k => k = R ∨ v.ownBlock = some k) w ((W.setCell ⟨g, q / 8, none⟩ (.int .u8 b)).setCell ⟨R, 1, none⟩ (.int .i64 ((q : Int) + 1))) ∧ (Value.slice (some ⟨g, 0, none⟩) L cap).ownBlock = some g := by
  have hne := hown.ne hR (by decide)
  have h1 : (W.setCell ⟨g, q / 8, none⟩ (.int .u8 b)).heap[R]? = some (.cells #[.slice (some ⟨g, 0, none⟩) L cap, .int .i64 (q : Nat)] 40 (0, 0)) := by
    rw [Below.heap_setCell _ _ _ _ (by simpa using hne.symm)]; exact hR
  have h2 := hown.store (q / 8) b hb
  have h3 := Own.setCell_other h2 (p := ⟨R, 1, none⟩) (by simpa using hne.symm) (.int .i64 ((q : Int) + 1))
  refine ⟨?_, ?_, ?_, rfl⟩
  · rw [heap_setCell_same _ R 1 _ _ _ h1]; simp
  · rw [hnext]
    have hl : (Z.set (q / 8) b).length = L := by rw [List.length_set]; exact hZ
    have h4 := h3.v
    rw [hl] at h4
    exact h4
  · refine Only.setCell (Only.setCell honly ?_ _) (.inl (.inl rfl)) _
    rcases hrow with h | h
    · exact .inl (.inr h)
    · exact .inr h

theorem app_keep {wr w1 : World} {o b : Obj} {row : Option Nat} {R : Nat} (hg : (wr.alloc o).grownBy w1 row) (hR : wr.heap[R]? = some b) (hne : some R ≠ row) : w1.heap[R]? = some b := by
  have hlt : R < wr.heap.size := (Array.getElem?_eq_some_iff.1 hR).1
  rw [hg.block R (by simp; omega) hne, Below.heap_alloc wr o R hlt]
  exact hR

/-- Behind an append of a nought to the bytes at R, and the store of the new slice there. -/
theorem put_grown {w wr w1 : World} {o : Obj} {B R q g cap : Nat} {au : Option Addr} {cu : Nat} {v : Value} {Z : List Int} (hR : wr.heap[R]? = some (.cells #[.slice au (q / 8) cu, .int .i64 (q : Nat)] 40 (0, 0)))
    (hne : some R ≠ (Value.slice au (q / 8) cu).ownBlock) (hZ : ∀ z ∈ Z, 0 ≤ z ∧ z ≤ 255) (hl : Z.length = q / 8)
    (hg : (wr.alloc o).grownBy w1 (Value.slice au (q / 8) cu).ownBlock) (hown : w1.ownsRow B 5 1 (.slice (some ⟨g, 0, none⟩) (q / 8 + 1) cap) (q / 8 + 1) (Z.map (Value.int .u8) ++ [.int .u8 0]))
    (hat : (Value.slice au (q / 8) cu).ownBlock = some g ∨ g = (wr.alloc o).heap.size) (honly : Only (fun k => k = R ∨ v.ownBlock = some k) w wr) (hRl : R < w.heap.size)
    (hrow : (Value.slice au (q / 8) cu).ownBlock = v.ownBlock ∨ ∃ k, (Value.slice au (q / 8) cu).ownBlock = some k ∧ w.heap.size ≤ k) :
    (w1.setCell ⟨R, 0, none⟩ (.slice (some ⟨g, 0, none⟩) (q / 8 + 1) cap)).heap[R]? = some (.cells #[.slice (some ⟨g, 0, none⟩) (q / 8 + 1) cap, .int .i64 (q : Nat)] 40 (0, 0)) ∧
    Own (w1.setCell ⟨R, 0, none⟩ (.slice (some ⟨g, 0, none⟩) (q / 8 + 1) cap)) B g cap (Z ++ [0]) ∧
    Only (fun k => k = R ∨ v.ownBlock = some k) w (w1.setCell ⟨R, 0, none⟩ (.slice (some ⟨g, 0, none⟩) (q / 8 + 1) cap)) ∧ (v.ownBlock = some g ∨ w.heap.size ≤ g) := by
  have hR1 := app_keep hg hR hne
  have ho : Own w1 B g cap (Z ++ [0]) := by
    refine ⟨?_, ?_⟩
    · have e : (Z ++ [0]).length = q / 8 + 1 := by simp [hl]
      rw [e]
      simpa using hown
    · intro z hz
      simp only [List.mem_append, List.mem_singleton] at hz
      rcases hz with hz | rfl
      · exact hZ z hz
      · omega
  have hgR := ho.ne hR1 (by decide)
  have hsz := honly.size
  refine ⟨?_, ho.setCell_other (by simpa using hgR.symm) _, ?_, ?_⟩
  · rw [heap_setCell_same _ R 0 _ _ _ hR1]; simp
  · refine Only.setCell (Only.grown (honly.alloc o) hg ?_) (.inl (.inl rfl)) _
    intro k hk
    rcases hrow with h | ⟨k', h, h'⟩
    · exact .inl (.inr (h.symm.trans hk))
    · right
      rw [h] at hk
      simp at hk
      omega
  · rcases hat with h | h
    · rcases hrow with h' | ⟨k', h', h''⟩
      · exact .inl (h'.symm.trans h)
      · right
        rw [h'] at h
        simp at h
        omega
    · right
      rw [h]
      simp
      omega

set_option maxHeartbeats 2000000 in
theorem l1put_any (R B : Nat) (v : Value) (n V : Nat) (x width : Int) (w : World) (hR : w.heap[R]? = some (.cells #[v, .int .i64 n] 40 (0, 0))) (hv : OwnV w B v (enc n V)) (hV : V < 2 ^ n) (hB : B ≤ w.heap.size)
    (hx : 0 ≤ x) (hxb : x ≤ 1073741824) (h1 : 0 ≤ width) (h2 : width ≤ 30) (h3 : n ≤ 4104) :
    Calls Tryz.prog 52 #[.pointer (some ⟨R, 0, none⟩), .int .i64 x, .int .i64 width] w fun e w' => e = .returned (.tuple #[]) ∧
      ∃ v', w'.heap[R]? = some (.cells #[v', .int .i64 ((n + width.toNat : Nat) : Int)] 40 (0, 0)) ∧ OwnV w' B v' (enc (n + width.toNat) (V + (x.toNat % 2 ^ width.toNat) * 2 ^ n)) ∧
        Only (fun k => k = R ∨ v.ownBlock = some k) w w' ∧ (v'.ownBlock = v.ownBlock ∨ ∃ k, v'.ownBlock = some k ∧ w.heap.size ≤ k) := by
  obtain ⟨X, rfl⟩ := Int.eq_ofNat_of_zero_le hx
  obtain ⟨m, rfl⟩ := Int.eq_ofNat_of_zero_le h1
  simp only [Int.toNat_natCast] at *
  have hRlt : R < w.heap.size := (Array.getElem?_eq_some_iff.1 hR).1
  have HR : Hid (w.heap[R]? = some (.cells #[v, .int .i64 n] 40 (0, 0))) := hR
  have HV : Hid (OwnV w B v (enc n V)) := hv
  clear hR hv
  obtain ⟨i0, hi, hz0, hz1, hz2⟩ := info_parts Tryz.infoU8
  go_enter Tryz.func52, Tryz.ntmps52
  go_wp2
  go_loopw [6] (fun i wr => ∃ (k : Nat) (u : Value), k ≤ m ∧ i = .int .i64 k ∧ wr.heap[R]? = some (.cells #[u, .int .i64 ((n + k : Nat) : Int)] 40 (0, 0)) ∧ OwnV wr B u (enc (n + k) (V + (X % 2 ^ k) * 2 ^ n)) ∧
      Only (fun k => k = R ∨ v.ownBlock = some k) w wr ∧ (u.ownBlock = v.ownBlock ∨ ∃ k, u.ownBlock = some k ∧ w.heap.size ≤ k)) (fun i _ => m - (intOf i).toNat)
  case atStart => exact ⟨0, v, Nat.zero_le _, rfl, HR.out, by simpa [Nat.mod_one] using HV.out, Only.refl _ _, .inl rfl⟩
  case round =>
    obtain ⟨k, u, hk, rfl, hRr, hur, honly, hrow⟩ := hrel
    by_cases hlt : k < m
    · have hVk : V + X % 2 ^ k * 2 ^ n < 2 ^ (n + k) := put_lt n V k _ hV (Nat.mod_lt _ (Nat.pow_pos (by omega)))
      have hnext := enc_step (n + k) (V + X % 2 ^ k * 2 ^ n) 1 (X / 2 ^ k % 2) hVk (by omega) (by omega) (by omega)
      have hpart := put_part n V X k 1
      rw [Nat.pow_one] at hpart
      rw [hpart] at hnext
      have htop := enc_top (n + k) _ hVk
      have hlast := enc_last (n + k) _ hVk
      have hlen := enc_len (n + k) (V + X % 2 ^ k * 2 ^ n)
      generalize hZp : enc (n + k + 1) (V + X % 2 ^ (k + 1) * 2 ^ n) = Z' at *
      have HPART : Hid (enc (n + k + 1) (V + X % 2 ^ (k + 1) * 2 ^ n) = Z') := hZp
      clear hZp
      generalize (V + X % 2 ^ k * 2 ^ n) / 256 ^ ((n + k) / 8) = old at *
      generalize enc (n + k) (V + X % 2 ^ k * 2 ^ n) = Z at *
      have hq4 : n + k ≤ 4134 := by omega
      generalize hq : n + k = q at *
      have HQ : Hid (n + k = q) := hq
      clear hq hVk hpart hV
      have h256 : 2 ^ (q % 8) ≤ 2 ^ 7 := Nat.pow_le_pow_right (by omega) (by omega)
      have hbt : X / 2 ^ k % 2 * 2 ^ (q % 8) ≤ 1 * 2 ^ (q % 8) := Nat.mul_le_mul_right _ (by omega)
      have hbyte := put_bit old X k (q % 8) (by omega) htop (by omega)
      have hrng : (0 : Int) ≤ ((old + X / 2 ^ k % 2 * 2 ^ (q % 8) : Nat) : Int) ∧ ((old + X / 2 ^ k % 2 * 2 ^ (q % 8) : Nat) : Int) ≤ 255 := by omega
      rw [← hbyte] at hrng
      rw [← hbyte] at hnext
      have HRNG : Hid (0 ≤ bits .or .u8 (old : Int) (bits .and .i64 ((X : Int) / 2 ^ k) 1 % 256 * 2 ^ (q % 8) % 256) ∧ bits .or .u8 (old : Int) (bits .and .i64 ((X : Int) / 2 ^ k) 1 % 256 * 2 ^ (q % 8) % 256) ≤ 255) := hrng
      clear hrng hbyte hbt h256
      by_cases h8 : q % 8 = 0
      · rw [if_pos h8] at hnext
        have hlen' : Z.length = q / 8 := by omega
        have HNEXT : Hid (Z' = (Z ++ [0]).set (q / 8) (bits .or .u8 (old : Int) (bits .and .i64 ((X : Int) / 2 ^ k) 1 % 256 * 2 ^ (q % 8) % 256))) := hnext
        have hold : old = 0 := by rw [h8] at htop; simp at htop; exact htop
        have hRl : R < wr.heap.size := (Array.getElem?_eq_some_iff.1 hRr).1
        have hBw : B ≤ wr.heap.size := Nat.le_trans hB honly.size
        have c0 : wr.cell? ⟨R, 0, none⟩ = some u := cellR (j := 0) hRr rfl
        have c1 : wr.cell? ⟨R, 1, none⟩ = some (.int .i64 (q : Nat)) := cellR (j := 1) hRr rfl
        have h8' : ((q : Int) % 8 == 0) = true := by simp; omega
        have hu := hur.1
        rw [hlen'] at hu
        obtain ⟨au, cu, rfl⟩ : ∃ (x : Option Addr) (c : Nat), u = .slice x (q / 8) c := by
          rcases hu.2 with ⟨rfl, h0⟩ | ⟨g', cap', cur', rfl, _⟩
          · exact ⟨none, 0, by rw [h0]⟩
          · exact ⟨_, _, rfl⟩
        have HRR : Hid (wr.heap[R]? = some (.cells #[.slice au (q / 8) cu, .int .i64 ((q : Nat) : Int)] 40 (0, 0))) := hRr
        have HZR : Hid (∀ z ∈ Z, 0 ≤ z ∧ z ≤ 255) := hur.2
        have HONLY : Hid (Only (fun k => k = R ∨ v.ownBlock = some k) w wr) := honly
        have HROW : Hid ((Value.slice au (q / 8) cu).ownBlock = v.ownBlock ∨ ∃ k, (Value.slice au (q / 8) cu).ownBlock = some k ∧ w.heap.size ≤ k) := hrow
        have HZL : Hid (Z.length = q / 8) := hlen'
        have huR : Hid (some R ≠ (Value.slice au (q / 8) cu).ownBlock) := by
          intro he
          rcases hu.2 with ⟨h', _⟩ | ⟨g', cap', cur', h', hg', hh, r⟩
          · simp at h'
            rw [h'.1] at he
            simp [Value.ownBlock] at he
          · simp at h'
            rw [h'.1] at he
            simp [Value.ownBlock] at he
            subst he
            rw [hRr] at hh
            simp at hh
        clear hnext hlast honly hrow hRr hlen hlen' hur
        go_wp2_with (at_builtin; (refine wpList_append_lies _ rfl (.tmp 22) (.tmp 23) 22 rfl B 5 i0 (.int .u8 0) 1 1 Tryz.underlying22 hi hz0 hz1 hz2 rfl (by decide) (.slice au (q / 8) cu) (q / 8) (Z.map (Value.int .u8)) rfl (hu.alloc _) ⟨wr.heap.size, 0, none⟩ 1 1 [.int .u8 0] rfl rfl (by intro j y hj; match j, hj with | 0, hj => (simp at hj; subst hj; simp [Addr.add])) (by intro y hy; simp at hy; subst hy; rfl) (by omega) (by unfold maxLen; omega) (by omega) (by simp; omega) _ rfl ?_); intro g cap w1 hown hgrow hat hlt1; have hR1 := app_keep hgrow HRR.out huR.out; have d0 := cellR (j := 0) hR1 rfl; have d1 := cellR (j := 1) hR1 rfl; have e0 := frozenR (j := 0) hR1)
        have G := put_grown (v := v) HRR.out huR.out HZR.out HZL.out hgrow hown hat HONLY.out hRlt HROW.out
        clear hown hgrow hat hR1 d0 d1 e0 c0 c1 hu hlt1
        generalize w1.setCell ⟨R, 0, none⟩ (.slice (some ⟨g, 0, none⟩) (q / 8 + 1) cap) = W at *
        obtain ⟨hRr, hown, honly, hrow'⟩ := G
        have hlen' : (Z ++ [0]).length = q / 8 + 1 := by rw [List.length_append, HZL.out]; rfl
        have CL : Hid _ := put_close (v := v) hRr hlen' hown HNEXT.out HRNG.out honly hrow'
        have HROW2 : Hid (v.ownBlock = some g ∨ w.heap.size ≤ g) := hrow'
        have hne := hown.ne hRr (by decide)
        have c0 : W.cell? ⟨R, 0, none⟩ = some (.slice (some ⟨g, 0, none⟩) (q / 8 + 1) cap) := cellR (j := 0) hRr rfl
        have c1 : W.cell? ⟨R, 1, none⟩ = some (.int .i64 (q : Nat)) := cellR (j := 1) hRr rfl
        have f1 := frozenR (j := 1) hRr
        have cg : W.cell? ⟨g, q / 8, none⟩ = some (.int .u8 (old : Nat)) := by
          rw [hown.cell (q / 8) (by omega), hold]
          simp [← HZL.out]
        have fg := hown.frozen (q / 8)
        clear hown honly hrow' hRr hlen' HNEXT HRNG h8 hold HRR HZR HONLY HROW HZL huR
        go_region
        go_wp2
        go_roundw
        case rel =>
          have C := CL.out
          refine ⟨k + 1, .slice (some ⟨g, 0, none⟩) (q / 8 + 1) cap, by omega, by go_num, ?_, ?_, ?_, ?_⟩
          · rw [show n + (k + 1) = q + 1 from by have := HQ.out; omega]; exact C.1
          · rw [show n + (k + 1) = q + 1 from by have := HQ.out; omega, HPART.out]; exact C.2.1
          · exact C.2.2.1.drew
          · rcases HROW2.out with h | h
            · exact .inl h.symm
            · exact .inr ⟨g, rfl, h⟩
        case measure => simp [intOf]; omega
      · rw [if_neg h8] at hnext
        have hlen' : Z.length = q / 8 + 1 := by omega
        obtain ⟨g, cap, rfl, hown⟩ := hur.form (by omega)
        rw [hlen'] at hRr hrow
        have HNEXT : Hid (Z' = Z.set (q / 8) (bits .or .u8 (old : Int) (bits .and .i64 ((X : Int) / 2 ^ k) 1 % 256 * 2 ^ (q % 8) % 256))) := hnext
        have hrow' : v.ownBlock = some g ∨ w.heap.size ≤ g := by
          rcases hrow with h | ⟨kk, h, h'⟩
          · exact .inl (h.symm.trans rfl)
          · right
            simp [Value.ownBlock] at h
            omega
        have CL : Hid _ := put_close (v := v) hRr hlen' hown HNEXT.out HRNG.out honly hrow'
        have HROW : Hid (v.ownBlock = some g ∨ w.heap.size ≤ g) := hrow'
        have hne := hown.ne hRr (by decide)
        have c0 : wr.cell? ⟨R, 0, none⟩ = some (.slice (some ⟨g, 0, none⟩) (q / 8 + 1) cap) := cellR (j := 0) hRr rfl
        have c1 : wr.cell? ⟨R, 1, none⟩ = some (.int .i64 (q : Nat)) := cellR (j := 1) hRr rfl
        have f1 := frozenR (j := 1) hRr
        have cg := hown.cell (q / 8) (by omega)
        have fg := hown.frozen (q / 8)
        rw [hlast h8] at cg
        have h8' : ((q : Int) % 8 == 0) = false := by simp; omega
        clear hnext hlast hown honly hrow hrow' hRr hlen hlen' hur HNEXT HRNG h8
        go_wp2
        go_region
        go_wp2
        go_roundw
        case rel =>
          have C := CL.out
          refine ⟨k + 1, .slice (some ⟨g, 0, none⟩) (q / 8 + 1) cap, by omega, by go_num, ?_, ?_, ?_, ?_⟩
          · rw [show n + (k + 1) = q + 1 from by have := HQ.out; omega]; exact C.1
          · rw [show n + (k + 1) = q + 1 from by have := HQ.out; omega, HPART.out]; exact C.2.1
          · exact C.2.2.1.drew
          · rcases HROW.out with h | h
            · exact .inl h.symm
            · exact .inr ⟨g, rfl, h⟩
        case measure => simp [intOf]; omega
    · have hkm : k = m := by omega
      subst hkm
      have HF : Hid _ := (⟨hRr, hur, honly, hrow⟩ : _ ∧ _ ∧ _ ∧ _)
      clear hRr hur honly hrow
      go_wp2
      go_end0
      have F := HF.out
      exact ⟨rfl, u, F.1, F.2.1, F.2.2.1, F.2.2.2⟩
end Go.Proofs.YtfeokafkhnbdiaaGreatDoor
