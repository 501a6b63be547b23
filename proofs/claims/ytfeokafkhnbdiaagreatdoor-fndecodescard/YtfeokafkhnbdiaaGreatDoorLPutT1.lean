/-
  putLens, the row of lengths beside the writer. (Typed by wip/mktyped.py.)
-/
import Derived.Test.YtfeokafkhnbdiaaGreatDoorICntI
import Derived.Test.YtfeokafkhnbdiaaGreatDoorFp7
import Derived.Test.YtfeokafkhnbdiaaGreatDoorINorm4
import Derived.Test.YtfeokafkhnbdiaaGreatDoorCodes3M
import Derived.Test.YtfeokafkhnbdiaaGreatDoorPcV
import Derived.Test.YtfeokafkhnbdiaaGreatDoorPut1
import Derived.Test.YtfeokafkhnbdiaaGreatDoorFg1
import Derived.Test.YtfeokafkhnbdiaaGreatDoorSp3
import Derived.Test.YtfeokafkhnbdiaaGreatDoorAs1
namespace Go.Proofs.YtfeokafkhnbdiaaGreatDoor
open Go.RowKit
set_option linter.unusedVariables false

/-- How many noughts a row begins with. -/
def nou : List Int → Nat
  | [] => 0
  | z :: t => if z = 0 then nou t + 1 else 0
theorem nou_le (l : List Int) : nou l ≤ l.length := by
  induction l with
  | nil => simp [nou]
  | cons z t ih => simp only [nou, List.length_cons]; split <;> omega
theorem nou_zero (l : List Int) (k : Nat) (h : k < nou l) : l.getD k 0 = 0 := by
  induction l generalizing k with
  | nil => simp [nou] at h
  | cons z t ih =>
    simp only [nou] at h
    split at h
    · rename_i hz
      cases k with
      | zero => simpa using hz
      | succ k => simpa using ih k (by omega)
    · omega
theorem nou_stop (l : List Int) (h : nou l < l.length) : l.getD (nou l) 0 ≠ 0 := by
  induction l with
  | nil => simp [nou] at h
  | cons z t ih =>
    by_cases hz : z = 0
    · have e : nou (z :: t) = nou t + 1 := by simp [nou, hz]
      rw [e] at h ⊢
      simpa using ih (by simpa using h)
    · have e : nou (z :: t) = 0 := by simp [nou, hz]
      rw [e]
      simpa using hz
/-- How many noughts are told behind the one at i. -/
def run (zs : List Int) (i : Nat) : Nat := min (nou (zs.drop (i + 1))) 7
/-- Bits and number, from the i-th length on. -/
def lp (zs : List Int) : Nat → Nat → Nat → Nat → Nat × Nat
  | 0, _, n, V => (n, V)
  | f + 1, i, n, V => if i < zs.length then (if zs.getD i 0 = 0 then lp zs f (i + 1 + run zs i) (n + 7) (V + run zs i * 2 ^ (n + 4)) else lp zs f (i + 1) (n + 4) (V + (zs.getD i 0).toNat * 2 ^ n)) else (n, V)
def lpF (zs : List Int) : Nat × Nat := lp zs zs.length 0 0 0
/-- The same behind n0 bits, the number V0. -/
def lpG (zs : List Int) (n0 V0 : Nat) : Nat × Nat := lp zs zs.length 0 n0 V0
theorem lp_end (zs : List Int) (f i n V : Nat) (h : ¬ i < zs.length) : lp zs f i n V = (n, V) := by
  cases f with
  | zero => rfl
  | succ f => simp [lp, h]
theorem lp_zero (zs : List Int) (f i n V : Nat) (h : i < zs.length) (hz : zs.getD i 0 = 0) : lp zs (f + 1) i n V = lp zs f (i + 1 + run zs i) (n + 7) (V + run zs i * 2 ^ (n + 4)) := by
  simp only [lp]; rw [if_pos h, if_pos hz]
theorem lp_pos (zs : List Int) (f i n V : Nat) (h : i < zs.length) (hz : ¬ zs.getD i 0 = 0) : lp zs (f + 1) i n V = lp zs f (i + 1) (n + 4) (V + (zs.getD i 0).toNat * 2 ^ n) := by
  simp only [lp]; rw [if_pos h, if_neg hz]
theorem lp_le (zs : List Int) (f i n V : Nat) : (lp zs f i n V).1 ≤ n + 7 * f := by
  induction f generalizing i n V with
  | zero => simp [lp]
  | succ f ih =>
    simp only [lp]
    split
    · split
      · have := ih (i + 1 + run zs i) (n + 7) (V + run zs i * 2 ^ (n + 4)); omega
      · have := ih (i + 1) (n + 4) (V + (zs.getD i 0).toNat * 2 ^ n); omega
    · simp
theorem run_le (zs : List Int) (i : Nat) (h : i < zs.length) : run zs i ≤ 7 ∧ i + 1 + run zs i ≤ zs.length := by
  have := nou_le (zs.drop (i + 1))
  rw [List.length_drop] at this
  unfold run
  omega
theorem drop_getD (zs : List Int) (i j : Nat) : (zs.drop i).getD j 0 = zs.getD (i + j) 0 := by simp [List.getD_eq_getElem?_getD]
theorem run_in (zs : List Int) (i j : Nat) (hj : j < run zs i) : j < 7 ∧ i + j + 1 < zs.length ∧ zs.getD (i + j + 1) 0 = 0 := by
  have h1 : j < nou (zs.drop (i + 1)) := by unfold run at hj; omega
  have h2 := nou_le (zs.drop (i + 1))
  rw [List.length_drop] at h2
  have h3 := nou_zero _ j h1
  rw [drop_getD] at h3
  refine ⟨by unfold run at hj; omega, by omega, ?_⟩
  rw [← h3]; congr 1; omega
theorem run_out (zs : List Int) (i : Nat) (hi : i < zs.length) (h7 : run zs i < 7) (hl : i + run zs i + 1 < zs.length) : zs.getD (i + run zs i + 1) 0 ≠ 0 := by
  have h1 : run zs i = nou (zs.drop (i + 1)) := by unfold run at *; omega
  have h2 := nou_stop (zs.drop (i + 1)) (by rw [List.length_drop, ← h1]; omega)
  rw [← h1, drop_getD] at h2
  intro h
  apply h2
  rw [← h]; congr 1; omega
theorem shareWidth_any (n : Nat) (w : World) (h : n < 256) :
    Calls Tryz.prog 129 #[.int .i64 (n : Int)] w fun e w' => e = .returned (.int .i64 (bl n : Nat)) ∧ w' = w := by
  have h1 : (n : Int) < 256 := by omega
  go_enter Tryz.func129, Tryz.ntmps129
  go_wp2_with fail
  refine (len_any n w h).mono ?_
  rintro e w1 ⟨rfl, rfl⟩
  go_wp2
  go_ret
  exact ⟨rfl, rfl⟩
/-- What is left of the table behind k shares. -/
def lft (zs : List Int) (k : Nat) : Nat := (64 - (zs.take k).sum).toNat
/-- How many bits k shares have. -/
def nb (zs : List Int) : Nat → Nat
  | 0 => 0
  | k + 1 => nb zs k + bl (lft zs k)
/-- Which number they are. -/
def vb (zs : List Int) : Nat → Nat
  | 0 => 0
  | k + 1 => vb zs k + (zs.getD k 0).toNat * 2 ^ nb zs k

theorem sum_nonneg {zs : List Int} (h : ∀ z ∈ zs, 0 ≤ z) : 0 ≤ zs.sum := by
  induction zs with
  | nil => simp
  | cons z zs ih =>
    have h1 := h z (by simp)
    have h2 := ih (fun y hy => h y (by simp [hy]))
    simp only [List.sum_cons]
    omega
theorem normB_sum {zs : List Int} (h : normB zs = true) : zs.sum = 64 ∧ ∀ z ∈ zs, 0 ≤ z ∧ z ≤ 64 := by
  simp only [normB, decide_eq_true_eq] at h
  exact ⟨h.2.2.2, h.2.2.1⟩
theorem norm_take {zs : List Int} (h : normB zs = true) (k : Nat) : 0 ≤ (zs.take k).sum ∧ (zs.take k).sum ≤ 64 := by
  obtain ⟨h1, h2⟩ := normB_sum h
  have e : (zs.take k).sum + (zs.drop k).sum = zs.sum := by rw [← List.sum_append, List.take_append_drop]
  have h3 := sum_nonneg (zs := zs.drop k) (fun z hz => (h2 z (List.mem_of_mem_drop hz)).1)
  have h4 := sum_nonneg (zs := zs.take k) (fun z hz => (h2 z (List.mem_of_mem_take hz)).1)
  omega
theorem lft_eq {zs : List Int} (h : normB zs = true) (k : Nat) : ((lft zs k : Nat) : Int) = 64 - (zs.take k).sum ∧ lft zs k ≤ 64 := by
  have := norm_take h k
  unfold lft
  omega
theorem lft_succ {zs : List Int} (h : normB zs = true) (k : Nat) (hk : k < zs.length) : ((lft zs (k + 1) : Nat) : Int) = (lft zs k : Nat) - zs.getD k 0 ∧ 0 ≤ zs.getD k 0 ∧ zs.getD k 0 ≤ (lft zs k : Nat) := by
  have h1 := lft_eq h k
  have h2 := lft_eq h (k + 1)
  have h3 := sum_succ zs k hk
  have h4 := (normB_sum h).2 _ (getD_mem hk)
  omega
theorem nb_le {zs : List Int} (h : normB zs = true) (k : Nat) : nb zs k ≤ 7 * k := by
  induction k with
  | zero => simp [nb]
  | succ k ih =>
    have h1 := lft_eq h k
    have h2 := bl_le7 _ h1.2
    simp only [nb]
    omega
theorem lft_end {zs : List Int} (h : normB zs = true) : lft zs zs.length = 0 := by
  have h1 := lft_eq h zs.length
  rw [List.take_length, (normB_sum h).1] at h1
  omega
/-- Behind what fills the table there are no bits. -/
theorem put_rest {zs : List Int} (h : normB zs = true) (k : Nat) (hk : k ≤ zs.length) (h0 : lft zs k = 0) : nb zs zs.length = nb zs k ∧ vb zs zs.length = vb zs k := by
  have step : ∀ j, k ≤ j → j ≤ zs.length → lft zs j = 0 ∧ nb zs j = nb zs k ∧ vb zs j = vb zs k := by
    intro j
    induction j with
    | zero => intro h1 _; obtain rfl : k = 0 := by omega
              exact ⟨h0, rfl, rfl⟩
    | succ j ih =>
      intro h1 h2
      by_cases hj : k ≤ j
      · obtain ⟨e1, e2, e3⟩ := ih hj (by omega)
        have s := lft_succ h j (by omega)
        have z : (zs.getD j 0).toNat = 0 := by omega
        refine ⟨by omega, ?_, ?_⟩
        · simp only [nb]; rw [e1, bl_zero, e2]; rfl
        · simp only [vb]; rw [z, e3]; simp
      · obtain rfl : k = j + 1 := by omega
        exact ⟨h0, rfl, rfl⟩
  exact (step zs.length hk (Nat.le_refl _)).2

/-- The bits behind n0 others, the number V0. -/
def nbG (zs : List Int) (n0 k : Nat) : Nat := n0 + nb zs k
def vbG (zs : List Int) (n0 V0 k : Nat) : Nat := V0 + vb zs k * 2 ^ n0
theorem nbG_step (zs : List Int) (n0 k : Nat) : nbG zs n0 (k + 1) = nbG zs n0 k + bl (lft zs k) := by
  simp only [nbG, nb]; omega
theorem vbG_step (zs : List Int) (n0 V0 k : Nat) : vbG zs n0 V0 (k + 1) = vbG zs n0 V0 k + (zs.getD k 0).toNat * 2 ^ nbG zs n0 k := by
  simp only [nbG, vbG, vb]
  rw [Nat.add_mul, Nat.add_assoc, Nat.mul_assoc, ← Nat.pow_add, Nat.add_comm (nb zs k) n0]
theorem nbG_le {zs : List Int} (h : normB zs = true) (n0 k : Nat) : nbG zs n0 k ≤ n0 + 7 * k := by
  have := nb_le h k
  unfold nbG; omega
theorem restG {zs : List Int} (h : normB zs = true) (n0 V0 k : Nat) (hk : k ≤ zs.length) (h0 : lft zs k = 0) : nbG zs n0 zs.length = nbG zs n0 k ∧ vbG zs n0 V0 zs.length = vbG zs n0 V0 k := by
  obtain ⟨h1, h2⟩ := put_rest h k hk h0
  unfold nbG vbG
  rw [h1, h2]
  exact ⟨rfl, rfl⟩

set_option maxHeartbeats 1600000 in
theorem putNorm_at (a : Option Addr) (cap : Nat) (zs : List Int) (R B n0 V0 : Nat) (w0 w : World) (hb : Ins w0 a zs) (hB : w0.heap.size = B) (hbel : Below B w0 w) (hw : WI w B R n0 V0) (hn0 : n0 ≤ 2000) (hn : normB zs = true) :
    Calls Tryz.prog 100 #[.pointer (some ⟨R, 0, none⟩), .slice a zs.length cap] w fun e w' => e = .returned .nilIface ∧ WI w' B R (nbG zs n0 zs.length) (vbG zs n0 V0 zs.length) ∧ Below B w0 w' := by
  obtain ⟨hn1, hn2⟩ := normB_bnd hn
  have HE : Hid _ := fun k => lft_eq hn k
  have HU : Hid _ := fun k hk => lft_succ hn k hk
  have HNB : Hid _ := fun k => nbG_le hn n0 k
  have HW : Hid (WI w B R (nbG zs n0 0) (vbG zs n0 V0 0)) := by unfold Hid; simpa [nbG, vbG, nb, vb] using hw
  clear hn hw
  generalize hlen : zs.length = n at *
  have HL : Hid (zs.length = n) := hlen
  clear hlen
  go_enter Tryz.func100, Tryz.ntmps100
  go_wp2
  go_loopw [5, 11] (fun l i wr => ∃ k : Nat, k ≤ n ∧ i = .int .i64 k ∧ l = .int .i64 (lft zs k : Nat) ∧ WI wr B R (nbG zs n0 k) (vbG zs n0 V0 k) ∧ Below B w0 wr) (fun _ i _ => n - (intOf i).toNat)
  case atStart => exact ⟨0, Nat.zero_le _, rfl, by simp [lft], HW.out, hbel⟩
  case round =>
    clear HW hbel
    obtain ⟨k, hk, rfl, rfl, hwi, hbel⟩ := hrel
    have HWI : Hid (WI wr B R (nbG zs n0 k) (vbG zs n0 V0 k)) := hwi
    clear hwi
    by_cases hlt : k < n
    · obtain ⟨b1, o1, rfl, hb1, hc1⟩ := (hb.below hbel (by omega)).len_pos k (by rw [HL.out]; exact hlt)
      have hs1 := hc1 k (by rw [HL.out]; exact hlt)
      have hl := (HE.out k).2
      have hu := HU.out k hlt
      have hnb := HNB.out k
      have HSN : Hid (nbG zs n0 (k + 1) = nbG zs n0 k + bl (lft zs k)) := nbG_step zs n0 k
      have HSV : Hid (vbG zs n0 V0 (k + 1) = vbG zs n0 V0 k + (zs.getD k 0).toNat * 2 ^ nbG zs n0 k) := vbG_step zs n0 V0 k
      have hb7 := bl_le7 (lft zs k) hl
      have hb8 := bl_lt (lft zs k) (by omega)
      clear hc1
      generalize zs.getD k 0 = x at *
      generalize lft zs k = l at *
      generalize nbG zs n0 k = N at *
      generalize vbG zs n0 V0 k = V at *
      have hxl : x < 2 ^ bl l := by
        have e : ((2 : Int) ^ bl l) = ((2 ^ bl l : Nat) : Int) := by simp
        rw [e]; omega
      have HXL : Hid (x < 2 ^ ((bl l : Nat) : Int).toNat) := by simpa [Hid] using hxl
      clear hxl hb8
      go_wp2_with fail
      refine (shareWidth_any l wr (by omega)).mono ?_
      rintro e w1 ⟨rfl, rfl⟩
      go_wp2_with fail
      refine (HWI.out.put x (bl l : Nat) hu.2.1 (by omega) (by omega) HXL.out (by omega) (by omega)).mono ?_
      rintro e w2 ⟨rfl, hwi2, hb2⟩
      have HWI2 : Hid (WI w2 B R (nbG zs n0 (k + 1)) (vbG zs n0 V0 (k + 1))) := by rw [HSN.out, HSV.out]; simpa [Hid] using hwi2
      have HB2 : Hid (Below B w0 w2) := hbel.trans hb2
      clear hwi2 hb2 hbel HWI
      have E1 : Hid ((l : Int) - x = ((lft zs (k + 1) : Nat) : Int)) := by unfold Hid; omega
      have hx2 : 0 ≤ x ∧ x ≤ l := hu.2
      clear HSN HSV HXL hu
      go_wp2
      go_roundw
      case rel => exact ⟨k + 1, by omega, by go_num, by rw [E1.out], HWI2.out, HB2.out⟩
      case measure => simp [intOf]; omega
    · have hkn : k = n := by omega
      subst hkn
      go_wp2
      go_ret
      exact ⟨rfl, HWI.out, hbel⟩
theorem putNorm_yes (a : Option Addr) (cap : Nat) (zs : List Int) (R B : Nat) (w0 w : World) (hb : Ins w0 a zs) (hB : w0.heap.size = B) (hbel : Below B w0 w) (hw : WI w B R 0 0) (hn : normB zs = true) :
    Calls Tryz.prog 100 #[.pointer (some ⟨R, 0, none⟩), .slice a zs.length cap] w fun e w' => e = .returned .nilIface ∧ WI w' B R (nb zs zs.length) (vb zs zs.length) ∧ Below B w0 w' := by
  have h := putNorm_at a cap zs R B 0 0 w0 w hb hB hbel hw (by omega) hn
  simpa [nbG, vbG] using h
theorem bumps_pos : ∀ (zs cs : List Int) (i : Nat), (∀ c ∈ cs, 0 ≤ c) → (∀ z ∈ zs, 0 ≤ z) → i < cs.length → (0 < cs.getD i 0 ∨ (i : Int) ∈ zs) → 0 < (zs.foldl bump cs).getD i 0
  | [], cs, i, _, _, _, h => by
    rcases h with h | h
    · exact h
    · simp at h
  | z :: zs, cs, i, hc, hz, hi, h => by
    rw [List.foldl_cons]
    have h0 : ∀ k, 0 ≤ cs.getD k 0 := fun k => by
      by_cases hk : k < cs.length
      · exact hc _ (getD_mem hk)
      · rw [List.getD_eq_getElem?_getD, List.getElem?_eq_none (by omega)]; simp
    have hcb : ∀ c ∈ bump cs z, 0 ≤ c := fun c hm => by
      unfold bump at hm
      rcases List.mem_or_eq_of_mem_set hm with hm | rfl
      · exact hc c hm
      · have := h0 z.toNat; omega
    refine bumps_pos zs (bump cs z) i hcb (fun y hy => hz y (by simp [hy])) (by rw [bump_len]; exact hi) ?_
    have hget : (bump cs z).getD i 0 = if z.toNat = i then cs.getD z.toNat 0 + 1 else cs.getD i 0 := by
      unfold bump
      simp only [List.getD_eq_getElem?_getD, List.getElem?_set]
      by_cases e : z.toNat = i
      · subst e; simp [hi]
      · simp [e]
    rw [hget]
    have hzn := hz z (by simp)
    rcases h with h | h
    · left
      split
      · have := h0 z.toNat; omega
      · exact h
    · rcases List.mem_cons.1 h with h | h
      · left
        rw [if_pos (by omega)]
        have := h0 z.toNat
        omega
      · exact .inr h
theorem cnts_pos {zs : List Int} {n : Nat} (h : txtB zs n = true) (k : Nat) (hk : k < zs.length) : 0 < (cnts zs n).getD (zs.getD k 0).toNat 0 := by
  have h1 := txtB_get h k hk
  unfold cnts
  refine bumps_pos zs (List.replicate n 0) _ (by intro c hc; simp at hc; omega) (fun z hz => ?_) (by rw [List.length_replicate]; omega) (.inr ?_)
  · obtain ⟨j, hj, rfl⟩ := List.getElem_of_mem hz
    have := txtB_get h j hj
    rw [List.getD_eq_getElem?_getD, List.getElem?_eq_getElem hj] at this
    exact this.1
  · rw [Int.toNat_of_nonneg h1.1]
    exact getD_mem hk
theorem cnts_cnt {zs : List Int} {n : Nat} (h : txtB zs n = true) : cntB (cnts zs n) = true := by
  simp only [txtB, decide_eq_true_eq] at h
  simp only [cntB, decide_eq_true_eq]
  rw [cnts_len]
  refine ⟨by omega, by omega, fun z hz => ?_⟩
  have := cnts_rng zs n z hz
  omega
theorem one_nn (z : Int) : 0 ≤ one z ∧ one z ≤ 1 := one_bnd z
theorem sumF_pos {cs : List Int} {i : Nat} (hi : i < cs.length) (h : 0 < cs.getD i 0) : 1 ≤ sumF one cs := by
  induction cs generalizing i with
  | nil => simp at hi
  | cons c cs ih =>
    have e : sumF one (c :: cs) = one c + sumF one cs := by simp [sumF]
    have h1 := (sumF_bnd one 1 one_bnd cs).1
    rw [e]
    cases i with
    | zero =>
      have : one c = 1 := by unfold one; rw [if_pos (by simpa using h)]
      omega
    | succ i =>
      have := ih (i := i) (by simpa using hi) (by simpa using h)
      have := (one_bnd c).1
      omega
theorem cnts_sum {zs : List Int} {n : Nat} (h : txtB zs n = true) (h1 : 1 ≤ zs.length) : 1 ≤ sumF one (cnts zs n) ∧ sumF one (cnts zs n) ≤ n := by
  refine ⟨sumF_pos (i := (zs.getD 0 0).toNat) ?_ (cnts_pos h 0 (by omega)), ?_⟩
  · have := txtB_get h 0 (by omega)
    rw [cnts_len]; omega
  · have := (sumF_bnd one 1 one_bnd (cnts zs n)).2
    rw [cnts_len] at this
    omega
theorem cnts_lens {zs : List Int} (h : txtB zs 40 = true) (h1 : 1 ≤ zs.length) : lensOkB (cnts zs 40) ((12 : Nat) : Int) := by
  obtain ⟨a, b⟩ := cnts_sum (n := 40) h h1
  have e := coins_sum (cnts zs 40) (cnts zs 40).length (Nat.le_refl _)
  rw [List.take_length, ← coinsS_len] at e
  refine ⟨cnts_cnt (n := 40) h, by decide, by decide, by omega, ?_⟩
  rw [Int.toNat_natCast]
  omega
/-- The lengths of a text's counts. -/
def tL (zs : List Int) : List Int := lensV (cnts zs 40) 12
theorem tL_len (zs : List Int) : (tL zs).length = 40 := by unfold tL; rw [lensV_len, cnts_len]
theorem tL_ok {zs : List Int} (h : txtB zs 40 = true) (h1 : 1 ≤ zs.length) : lensB (tL zs) = true ∧ coded (tL zs) zs := by
  obtain ⟨c1, c2, c3, c4, c5⟩ := cnts_lens h h1
  rw [Int.toNat_natCast] at c5
  obtain ⟨lm, hF, -⟩ := lens_facts c1 (L := 12) (by omega) c4 c5
  refine ⟨hF.okB c1 (by omega) c4, fun k hk => ?_⟩
  have h2 := txtB_get h k hk
  have h3 := cnts_pos (n := 40) h k hk
  obtain ⟨_, _, _, e, e1, _⟩ := (hF.rng (zs.getD k 0).toNat (by rw [cnts_len]; omega)).1 h3
  show (lensV (cnts zs 40) 12).getD _ 0 ≠ 0
  rw [e]
  omega
/-- The shares of a text's counts. -/
def tS (zs : List Int) : List Int := shares (cnts zs 40) (rest (cnts zs 40))
theorem tS_roomy {zs : List Int} (h : txtB zs 40 = true) (h1 : 1 ≤ zs.length) : roomy (cnts zs 40) := by
  obtain ⟨a, b⟩ := cnts_sum (n := 40) h h1
  exact ⟨a, by omega⟩
theorem tS_ok {zs : List Int} (h : txtB zs 40 = true) (h1 : 1 ≤ zs.length) : normB (tS zs) = true ∧ (tS zs).length = 40 ∧ shd (tS zs) zs := by
  have hr := tS_roomy h h1
  have hc := cnts_cnt (n := 40) h
  have hf := fair_all (some1_of hr.1) (rest (cnts zs 40))
  refine ⟨shares_norm hc hr, by have := hf.1; rw [cnts_len] at this; exact this, fun k hk => ?_⟩
  have h2 := txtB_get h k hk
  have := (hf.2 (zs.getD k 0).toNat (by rw [cnts_len]; omega)).1 (cnts_pos (n := 40) h k hk)
  show (shares _ _).getD _ 0 ≠ 0
  omega
/-- The table of the shares. -/
def tT (zs : List Int) : List Int := tb (pl (fl 0 (tS zs)) (plc 64)) (tS zs) 64
theorem tT_ok {zs : List Int} (h : txtB zs 40 = true) (h1 : 1 ≤ zs.length) : Tab (tT zs) (tS zs) := tab_tb (tS_ok h h1).1
/-- What stands there behind n0 bits: lengths, codes, m bits beside; or shares, how many bits are beside, these, the text. -/
def byL (zs : List Int) (m U n0 V0 : Nat) : Nat × Nat :=
  ((lpG (tL zs) n0 V0).1 + hN (tL zs) zs zs.length + m, (lpG (tL zs) n0 V0).2 + hV (tL zs) (csOf (tL zs)) zs zs.length * 2 ^ (lpG (tL zs) n0 V0).1 + U * 2 ^ ((lpG (tL zs) n0 V0).1 + hN (tL zs) zs zs.length))
def byT (zs : List Int) (m U n0 V0 : Nat) : Nat × Nat :=
  (nbG (tS zs) n0 40 + 9 + m + fN (tT zs) zs, vbG (tS zs) n0 V0 40 + m * 2 ^ nbG (tS zs) n0 40 + U * 2 ^ (nbG (tS zs) n0 40 + 9) + fV (tT zs) zs * 2 ^ (nbG (tS zs) n0 40 + 9 + m))
theorem byL_le {zs : List Int} (h : txtB zs 40 = true) (h1 : 1 ≤ zs.length) (n0 V0 : Nat) : (lpG (tL zs) n0 V0).1 ≤ n0 + 280 ∧ hN (tL zs) zs zs.length ≤ 12 * zs.length := by
  have a := lp_le (tL zs) (tL zs).length 0 n0 V0
  rw [tL_len] at a
  have e := (lensB_okH (tL_ok h h1).1).2.2
  refine ⟨?_, hN_le e _⟩
  show (lp (tL zs) (tL zs).length 0 n0 V0).1 ≤ _
  rw [tL_len]
  omega
theorem Ins.drop {w : World} {b off : Nat} {zs : List Int} (h : Ins w (some ⟨b, off, none⟩) zs) (i : Nat) : Ins w (some ⟨b, off + i, none⟩) (zs.drop i) := by
  refine ⟨fun z hz => h.1 z (List.mem_of_mem_drop hz), fun hp => ?_⟩
  rw [List.length_drop] at hp
  obtain ⟨b', o', he, hlt, hc⟩ := h.2 (by omega)
  obtain ⟨rfl, rfl⟩ : b = b' ∧ off = o' := by simpa using he
  refine ⟨b, off + i, rfl, hlt, fun j hj => ?_⟩
  rw [List.length_drop] at hj
  rw [drop_getD, Nat.add_assoc]
  exact hc (i + j) (by omega)

set_option maxHeartbeats 1600000 in
theorem noughts_any (a : Option Addr) (cap : Nat) (l : List Int) (w : World) (hb : Ins w a l) (hn : l.length ≤ 80) :
    Calls Tryz.prog 123 #[.slice a l.length cap] w fun e w' => e = .returned (.int .i64 (nou l : Nat)) ∧ w' = w := by
  have hle := nou_le l
  have HZ : Hid _ := nou_zero l
  have HS : Hid _ := nou_stop l
  generalize hlen : l.length = n at *
  have HL : Hid (l.length = n) := hlen
  clear hlen
  generalize nou l = m at *
  go_enter Tryz.func123, Tryz.ntmps123
  go_wp2
  go_loop [3] (fun i => ∃ k : Nat, k ≤ m ∧ i = .int .i64 k) (fun i => m - (intOf i).toNat)
  case atStart => exact ⟨0, Nat.zero_le _, rfl⟩
  case round =>
    obtain ⟨k, hk, rfl⟩ := hrel
    by_cases hlt : k < n
    · obtain ⟨b1, o1, rfl, hb1, hc1⟩ := hb.len_pos k (by rw [HL.out]; exact hlt)
      have hs1 := hc1 k (by rw [HL.out]; exact hlt)
      by_cases hkm : k < m
      · rw [HZ.out k hkm] at hs1
        clear hc1
        go_wp2
        go_round
        case rel => exact ⟨k + 1, by omega, by go_num⟩
        case measure => simp [intOf]; omega
      · have hke : k = m := by omega
        subst hke
        have hne := HS.out hlt
        generalize l.getD k 0 = x at *
        have hx : (x == 0) = false := by simpa using hne
        clear hc1
        go_wp2
        go_ret
        exact ⟨rfl, rfl⟩
    · have hke : k = m := by omega
      subst hke
      go_wp2
      go_ret
      exact ⟨rfl, rfl⟩
/-- Every block of cells that are no bytes, but R, is as it was. -/
def Kp (R : Nat) (w w' : World) : Prop := ∀ g cur T, w.heap[g]? = some (.cells cur T (0, 0)) → T ≠ 5 → g ≠ R → w'.heap[g]? = some (.cells cur T (0, 0))
theorem Kp.refl (R : Nat) (w : World) : Kp R w w := fun _ _ _ h _ _ => h
theorem Kp.trans {R : Nat} {a b c : World} (h : Kp R a b) (k : Kp R b c) : Kp R a c := fun g cur T h1 h2 h3 => k g cur T (h g cur T h1 h2 h3) h2 h3
theorem Kp.below {R : Nat} {w w' : World} (h : Below w.heap.size w w') : Kp R w w' := fun g _ _ h1 _ _ => (h.block g (Array.getElem?_eq_some_iff.1 h1).1).trans h1
theorem Kp.drewN {R : Nat} {w w' : World} (h : Kp R w w') (n : Nat) : Kp R w (w'.drewN n) := h
/-- A row of numbers at g. -/
def RowT (w : World) (g : Nat) (zs : List Int) : Prop := ∃ cur, w.heap[g]? = some (.cells cur 3 (0, 0)) ∧ ∀ k, k < zs.length → cur[k]? = some (.int .i64 (zs.getD k 0))
theorem RowT.kp {R : Nat} {w w' : World} {g : Nat} {zs : List Int} (h : RowT w g zs) (hk : Kp R w w') (hg : g ≠ R) : RowT w' g zs := by
  obtain ⟨cur, h1, h2⟩ := h
  exact ⟨cur, hk g cur _ h1 (by decide) hg, h2⟩
theorem RowT.lt {w : World} {g : Nat} {zs : List Int} (h : RowT w g zs) : g < w.heap.size := by
  obtain ⟨cur, h1, h2⟩ := h
  exact (Array.getElem?_eq_some_iff.1 h1).1
theorem RowT.cell {w : World} {g : Nat} {zs : List Int} (h : RowT w g zs) (k : Nat) (hk : k < zs.length) : w.cell? ⟨g, k, none⟩ = some (.int .i64 (zs.getD k 0)) := by
  obtain ⟨cur, h1, h2⟩ := h
  have := h2 k hk
  unfold World.cell?
  simp only [h1]
  simpa using this
theorem RowT.ins {w : World} {g : Nat} {zs : List Int} (h : RowT w g zs) (hr : ∀ z ∈ zs, -9223372036854775808 ≤ z ∧ z ≤ 9223372036854775807) : Ins w (some ⟨g, 0, none⟩) zs :=
  ⟨hr, fun _ => ⟨g, 0, rfl, h.lt, fun i hi => by rw [Nat.zero_add]; exact h.cell i hi⟩⟩
theorem OwI.rowT {w : World} {B g cap : Nat} {zs : List Int} (h : OwI w B g cap zs) : RowT w g zs := by
  obtain ⟨cur, h1, h2⟩ := OwI.blockG (w' := w) h
  refine ⟨cur, h1, fun k hk => ?_⟩
  have := h.cell k hk
  unfold World.cell? at this
  simp only [h1] at this
  simpa using this
theorem WI.putP {w : World} {B R n V : Nat} (h : WI w B R n V) (x width : Int) (hx : 0 ≤ x) (h1 : 0 ≤ width) (h2 : width ≤ 30) (hxw : x < 2 ^ width.toNat) (h3 : width ≤ 4096 - n) (hn : n ≤ 4096) :
    Calls Tryz.prog 79 #[.pointer (some ⟨R, 0, none⟩), .int .i64 x, .int .i64 width] w fun e w' => e = .returned .nilIface ∧ WI w' B R (n + width.toNat) (V + x.toNat * 2 ^ n) ∧ Below B w w' ∧ Kp R w w' := by
  obtain ⟨v, hR, hv, hV, hBR, hB⟩ := h
  refine (wput_yes R B v n V x width 4096 w hR hv hV hB hx h1 h2 hxw h3 (by omega) (by omega)).mono ?_
  rintro e w' ⟨rfl, v', hR', hv', ho, _⟩
  have hb : Below B w w' := ho.below hB (fun k hk => by
    rcases hk with hk | hk
    · omega
    · exact hv.blk hk)
  refine ⟨rfl, ⟨v', hR', hv', ?_, hBR, Nat.le_trans hB hb.size⟩, hb, fun g cur T hg hT hgR => ?_⟩
  · refine put_lt n V width.toNat x.toNat hV ?_
    have e : ((2 : Int) ^ width.toNat) = ((2 ^ width.toNat : Nat) : Int) := by simp
    rw [e] at hxw
    omega
  · refine (ho.block g (Array.getElem?_eq_some_iff.1 hg).1 ?_).trans hg
    rintro (hk | hk)
    · exact hgR hk
    · exact hv.neP hk hg hT rfl
theorem SI.putP {w : World} {B R n V : Nat} (h : SI w B R n V) (x width : Int) (hx : 0 ≤ x) (h1 : 0 ≤ width) (h2 : width ≤ 30) (hxw : x < 2 ^ width.toNat) (hn : n ≤ 4096) :
    Calls Tryz.prog 52 #[.pointer (some ⟨R, 0, none⟩), .int .i64 x, .int .i64 width] w fun e w' => e = .returned (.tuple #[]) ∧ SI w' B R (n + width.toNat) (V + x.toNat * 2 ^ n) ∧ Below B w w' ∧ Kp R w w' := by
  obtain ⟨v, hR, hv, hV, hBR, hB⟩ := h
  have e : ((2 : Int) ^ width.toNat) = ((2 ^ width.toNat : Nat) : Int) := by simp
  rw [e] at hxw
  have hp : 2 ^ width.toNat ≤ 2 ^ 30 := Nat.pow_le_pow_right (by omega) (by omega)
  refine (l1put_any R B v n V x width w hR hv hV hB hx (by omega) h1 h2 (by omega)).mono ?_
  rintro e w' ⟨rfl, v', hR', hv', ho, _⟩
  rw [Nat.mod_eq_of_lt (by omega)] at hv'
  have hb : Below B w w' := ho.below hB (fun k hk => by
    rcases hk with hk | hk
    · omega
    · exact hv.blk hk)
  refine ⟨rfl, ⟨v', hR', hv', put_lt n V width.toNat x.toNat hV (by omega), hBR, Nat.le_trans hB hb.size⟩, hb, fun g cur T hg hT hgR => ?_⟩
  refine (ho.block g (Array.getElem?_eq_some_iff.1 hg).1 ?_).trans hg
  rintro (hk | hk)
  · exact hgR hk
  · exact hv.neP hk hg hT rfl
theorem WI.putPn {w : World} {B R n V : Nat} (h : WI w B R n V) (x width : Nat) (h2 : width ≤ 30) (hxw : x < 2 ^ width) (h3 : n + width ≤ 4096) :
    Calls Tryz.prog 79 #[.pointer (some ⟨R, 0, none⟩), .int .i64 (x : Int), .int .i64 (width : Int)] w fun e w' => e = .returned .nilIface ∧ WI w' B R (n + width) (V + x * 2 ^ n) ∧ Below B w w' ∧ Kp R w w' := by
  have hxi : (x : Int) < 2 ^ ((width : Int)).toNat := by
    have e : ((2 : Int) ^ width) = ((2 ^ width : Nat) : Int) := by simp
    rw [Int.toNat_natCast, e]
    exact Int.ofNat_lt.2 hxw
  have := h.putP (x : Int) (width : Int) (by omega) (by omega) (by omega) hxi (by omega) (by omega)
  simpa only [Int.toNat_natCast] using this
theorem SI.putPn {w : World} {B R n V : Nat} (h : SI w B R n V) (x width : Nat) (h2 : width ≤ 30) (hxw : x < 2 ^ width) (hn : n ≤ 4096) :
    Calls Tryz.prog 52 #[.pointer (some ⟨R, 0, none⟩), .int .i64 (x : Int), .int .i64 (width : Int)] w fun e w' => e = .returned (.tuple #[]) ∧ SI w' B R (n + width) (V + x * 2 ^ n) ∧ Below B w w' ∧ Kp R w w' := by
  have hxi : (x : Int) < 2 ^ ((width : Int)).toNat := by
    have e : ((2 : Int) ^ width) = ((2 ^ width : Nat) : Int) := by simp
    rw [Int.toNat_natCast, e]
    exact Int.ofNat_lt.2 hxw
  have := h.putP (x : Int) (width : Int) (by omega) (by omega) (by omega) hxi hn
  simpa only [Int.toNat_natCast] using this
theorem Kp.only {R : Nat} {w w' : World} (h : Only (fun k => k = R) w w') : Kp R w w' := fun g cur T h1 h2 h3 => (h.block g (Array.getElem?_eq_some_iff.1 h1).1 h3).trans h1
theorem Kp.setCell {R : Nat} {w w' : World} (h : Kp R w w') (o : Nat) (u : Value) : Kp R w (w'.setCell ⟨R, o, none⟩ u) := h.trans (Kp.only ((Only.refl (fun k => k = R) w').setCell (p := ⟨R, o, none⟩) (.inl rfl) u))
set_option maxHeartbeats 1600000 in
theorem putLens_t (g cap : Nat) (zs : List Int) (R B n0 V0 : Nat) (w0 : World) (hb : RowT w0 g zs) (hgR : g ≠ R) (hw : WI w0 B R n0 V0) (hn0 : n0 ≤ 2000) (hn : zs.length ≤ 80) (hcap : zs.length ≤ cap) (hok : ∀ z ∈ zs, 0 ≤ z ∧ z ≤ 12) :
    Calls Tryz.prog 96 #[.pointer (some ⟨R, 0, none⟩), .slice (some ⟨g, 0, none⟩) zs.length cap] w0 fun e w' => e = .returned .nilIface ∧ WI w' B R (lpG zs n0 V0).1 (lpG zs n0 V0).2 ∧ Below B w0 w' ∧ Kp R w0 w' := by
  have HOK : Hid (∀ k, k < zs.length → 0 ≤ zs.getD k 0 ∧ zs.getD k 0 ≤ 12) := fun k hk => hok _ (getD_mem hk)
  have HRL : Hid _ := fun i hi => run_le zs i hi
  have HLE : Hid _ := lp_end zs
  have HLZ : Hid _ := lp_zero zs
  have HLP : Hid _ := lp_pos zs
  have HW : Hid (WI w0 B R n0 V0) := hw
  have HF : Hid (lp zs zs.length 0 n0 V0 = lpG zs n0 V0) := rfl
  have HND : Hid (∀ (a : Option Addr) (cap i m : Nat) (w : World), m = zs.length - i → Ins w a (zs.drop i) → Calls Tryz.prog 123 #[.slice a m cap] w fun e w' => e = .returned (.int .i64 (nou (zs.drop i) : Nat)) ∧ w' = w)   := fun a cap i m w hm h => by
    subst hm
    have := noughts_any a cap (zs.drop i) w h (by rw [List.length_drop]; omega)
    rw [List.length_drop] at this
    exact this
  have HOK9 : Hid (∀ z ∈ zs, 0 ≤ z ∧ z ≤ 12) := hok
  clear hok hw
  generalize hlen : zs.length = n at *
  have HL : Hid (zs.length = n) := hlen
  clear hlen
  go_enter Tryz.func96, Tryz.ntmps96
  go_wp2
  go_loopw [5] (fun i wr => ∃ k N V f : Nat, k ≤ n ∧ i = .int .i64 k ∧ N ≤ n0 + 7 * k ∧ n - k ≤ f ∧ lp zs f k N V = lpG zs n0 V0 ∧ WI wr B R N V ∧ Below B w0 wr ∧ Kp R w0 wr) (fun i _ => n - (intOf i).toNat)
  case atStart => exact ⟨0, n0, V0, n, Nat.zero_le _, rfl, by omega, by omega, HF.out, HW.out, Below.refl _ _, Kp.refl _ _⟩
  case round =>
    clear HW HF
    obtain ⟨k, N, V, f, hk, rfl, hN, hf, hlp, hwi, hbel, hkp⟩ := hrel
    have HWI : Hid (WI wr B R N V) := hwi
    have HP : Hid (lp zs f k N V = lpG zs n0 V0) := hlp
    clear hwi hlp
    by_cases hlt : k < n
    · have hglt : g < wr.heap.size := (hb.kp hkp hgR).lt
      have hs1 := (hb.kp hkp hgR).cell k (by rw [HL.out]; exact hlt)
      have hx := HOK.out k hlt
      have hr := HRL.out k hlt
      obtain ⟨f, rfl⟩ : ∃ f', f = f' + 1 := ⟨f - 1, by omega⟩
      have HZ := HLZ.out f k N V hlt
      have HQ := HLP.out f k N V hlt
      rw [HP.out] at HZ HQ
      have HZ' : Hid _ := HZ
      have HQ' : Hid _ := HQ
      clear HZ HQ HP
      generalize hxx : zs.getD k 0 = x at *
      go_wp2_with fail
      refine (HWI.out.putP x 4 hx.1 (by omega) (by omega) (by simp; omega) (by omega) (by omega)).mono ?_
      rintro e w2 ⟨rfl, hwi2, hb2, hk2⟩
      have HWI2 : Hid (WI w2 B R (N + 4) (V + x.toNat * 2 ^ N)) := hwi2
      have hbel2 : Below B w0 w2 := hbel.trans hb2
      have hkp2 : Kp R w0 w2 := hkp.trans hk2
      have hglt2 : g < w2.heap.size := (hb.kp hkp2 hgR).lt
      have hc3 := (hb.kp hkp2 hgR).cell
      have hs3 := hc3 k (by rw [HL.out]; exact hlt)
      rw [hxx] at hs3
      clear hwi2 hb2 hbel hkp HWI hc3 hs1 hk2
      by_cases hz : x = 0
      · have E := HZ'.out hz
        have HE : Hid (lp zs f (k + 1 + run zs k) (N + 7) (V + run zs k * 2 ^ (N + 4)) = lpG zs n0 V0) := E.symm
        have HRU : Hid (run zs k = min (nou (zs.drop (k + 1))) 7) := rfl
        clear HZ' HQ' E
        subst hz
        have HWI3 : Hid (WI w2 B R (N + 4) V) := by simpa [Hid] using HWI2.out
        clear HWI2
        have HIN : Hid (∀ a', (a' = some ⟨g, k + 1, none⟩ ∨ n ≤ k + 1) → Ins w2 a' (zs.drop (k + 1))) := by
          rintro a' (rfl | h)
          · have h9 := ((hb.kp hkp2 hgR).ins (fun z hz => by have := HOK9.out z hz; omega)).drop (k + 1)
            rw [Nat.zero_add] at h9
            exact h9
          · have e : zs.drop (k + 1) = [] := List.drop_eq_nil_of_le (by rw [HL.out]; exact h)
            rw [e]
            exact ⟨by simp, by simp⟩
        by_cases hcc : cap = k + 1
        · subst hcc
          go_wp2_with fail
          refine (HND.out _ _ (k + 1) _ w2 (by omega) (HIN.out _ (by first | exact .inl rfl | exact .inr (by omega)))).mono ?_
          rintro e w3 ⟨rfl, rfl⟩
          generalize nou (zs.drop (k + 1)) = q at *
          generalize run zs k = r at *
          have hrq : r = min q 7 := HRU.out
          clear HRU HIN
          rcases (show (q ≤ 7 ∧ r = q) ∨ (7 < q ∧ r = 7) by omega) with ⟨hq, hr2⟩ | ⟨hq, hr2⟩
          · subst hr2
            clear hrq
            go_wp2_with fail
            refine (HWI3.out.putP (r : Nat) 3 (by omega) (by omega) (by omega) (by simp; try omega) (by omega) (by omega)).mono ?_
            rintro e w4 ⟨rfl, hwi4, hb4, hk4⟩
            have HWI4 : Hid (WI w4 B R (N + 7) (V + r * 2 ^ (N + 4))) := by simpa [Hid] using hwi4
            have HB4 : Hid (Below B w0 w4 ∧ Kp R w0 w4) := ⟨hbel2.trans hb4, hkp2.trans hk4⟩
            clear hwi4 hb4 hk4 HWI3
            go_wp2
            go_roundw
            case rel => exact ⟨k + 1 + r, N + 7, V + r * 2 ^ (N + 4), f, by omega, by go_num, by omega, by omega, HE.out, HWI4.out, HB4.out⟩
            case measure => simp [intOf]; omega
          · subst hr2
            clear hrq
            go_wp2_with fail
            refine (HWI3.out.putP 7 3 (by omega) (by omega) (by omega) (by simp; try omega) (by omega) (by omega)).mono ?_
            rintro e w4 ⟨rfl, hwi4, hb4, hk4⟩
            have HWI4 : Hid (WI w4 B R (N + 7) (V + 7 * 2 ^ (N + 4))) := by simpa [Hid] using hwi4
            have HB4 : Hid (Below B w0 w4 ∧ Kp R w0 w4) := ⟨hbel2.trans hb4, hkp2.trans hk4⟩
            clear hwi4 hb4 hk4 HWI3
            go_wp2
            go_roundw
            case rel => exact ⟨k + 1 + 7, N + 7, V + 7 * 2 ^ (N + 4), f, by omega, by go_num, by omega, by omega, HE.out, HWI4.out, HB4.out⟩
            case measure => simp [intOf]; omega
        · have hc2 : ¬ cap - (k + 1) = 0 := by omega
          go_wp2_with fail
          refine (HND.out _ _ (k + 1) _ w2 (by omega) (HIN.out _ (by first | exact .inl rfl | exact .inr (by omega)))).mono ?_
          rintro e w3 ⟨rfl, rfl⟩
          generalize nou (zs.drop (k + 1)) = q at *
          generalize run zs k = r at *
          have hrq : r = min q 7 := HRU.out
          clear HRU HIN
          rcases (show (q ≤ 7 ∧ r = q) ∨ (7 < q ∧ r = 7) by omega) with ⟨hq, hr2⟩ | ⟨hq, hr2⟩
          · subst hr2
            clear hrq
            go_wp2_with fail
            refine (HWI3.out.putP (r : Nat) 3 (by omega) (by omega) (by omega) (by simp; try omega) (by omega) (by omega)).mono ?_
            rintro e w4 ⟨rfl, hwi4, hb4, hk4⟩
            have HWI4 : Hid (WI w4 B R (N + 7) (V + r * 2 ^ (N + 4))) := by simpa [Hid] using hwi4
            have HB4 : Hid (Below B w0 w4 ∧ Kp R w0 w4) := ⟨hbel2.trans hb4, hkp2.trans hk4⟩
            clear hwi4 hb4 hk4 HWI3
            go_wp2
            go_roundw
            case rel => exact ⟨k + 1 + r, N + 7, V + r * 2 ^ (N + 4), f, by omega, by go_num, by omega, by omega, HE.out, HWI4.out, HB4.out⟩
            case measure => simp [intOf]; omega
          · subst hr2
            clear hrq
            go_wp2_with fail
            refine (HWI3.out.putP 7 3 (by omega) (by omega) (by omega) (by simp; try omega) (by omega) (by omega)).mono ?_
            rintro e w4 ⟨rfl, hwi4, hb4, hk4⟩
            have HWI4 : Hid (WI w4 B R (N + 7) (V + 7 * 2 ^ (N + 4))) := by simpa [Hid] using hwi4
            have HB4 : Hid (Below B w0 w4 ∧ Kp R w0 w4) := ⟨hbel2.trans hb4, hkp2.trans hk4⟩
            clear hwi4 hb4 hk4 HWI3
            go_wp2
            go_roundw
            case rel => exact ⟨k + 1 + 7, N + 7, V + 7 * 2 ^ (N + 4), f, by omega, by go_num, by omega, by omega, HE.out, HWI4.out, HB4.out⟩
            case measure => simp [intOf]; omega
      · have E := HQ'.out hz
        have HE : Hid (lp zs f (k + 1) (N + 4) (V + x.toNat * 2 ^ N) = lpG zs n0 V0) := E.symm
        have hne : (x != 0) = true := by simpa using hz
        have HB2 : Hid (Below B w0 w2 ∧ Kp R w0 w2) := ⟨hbel2, hkp2⟩
        clear HZ' HQ' E hbel2 hkp2
        go_wp2
        go_roundw
        case rel => exact ⟨k + 1, N + 4, V + x.toNat * 2 ^ N, f, by omega, by go_num, by omega, by omega, HE.out, HWI2.out, HB2.out⟩
        case measure => simp [intOf]; omega
    · have hkn : k = n := by omega
      subst hkn
      have E := HLE.out f k N V (by omega)
      rw [HP.out] at E
      have HA : Hid (WI wr B R (lpG zs n0 V0).1 (lpG zs n0 V0).2) := by rw [E]; exact HWI.out
      clear E HWI HP
      go_wp2
      go_ret
      exact ⟨rfl, HA.out, hbel, hkp⟩

end Go.Proofs.YtfeokafkhnbdiaaGreatDoor
