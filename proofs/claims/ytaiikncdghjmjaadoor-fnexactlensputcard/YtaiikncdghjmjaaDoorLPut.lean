/-
  Lengths as bits: four each, and three behind a nought that tell how many follow.
-/
import Derived.Test.YtaiikncdghjmjaaDoorWri
import Derived.Test.YtaiikncdghjmjaaDoorILens
namespace Go.Proofs.YtaiikncdghjmjaaDoor
open Go.RowKit
set_option linter.unusedVariables false

/-- How many noughts a row begins with. -/
def nou : List Int → Nat
  | [] => 0
  | z :: t => if z = 0 then nou t + 1 else 0
theorem nou_le (l : List Int) : nou l ≤ l.length := by
  induction l with
  | nil => simp [nou]
  | cons z t ih => simp only [nou, List.length_cons]; split <;> omega
theorem nou_zero (l : List Int) (k : Nat) (h : k < nou l) : l.getD k 0 = 0 := by
  induction l generalizing k with
  | nil => simp [nou] at h
  | cons z t ih =>
    simp only [nou] at h
    split at h
    · rename_i hz
      cases k with
      | zero => simpa using hz
      | succ k => simpa using ih k (by omega)
    · omega
theorem nou_stop (l : List Int) (h : nou l < l.length) : l.getD (nou l) 0 ≠ 0 := by
  induction l with
  | nil => simp [nou] at h
  | cons z t ih =>
    by_cases hz : z = 0
    · have e : nou (z :: t) = nou t + 1 := by simp [nou, hz]
      rw [e] at h ⊢
      simpa using ih (by simpa using h)
    · have e : nou (z :: t) = 0 := by simp [nou, hz]
      rw [e]
      simpa using hz
/-- How many noughts are told behind the one at i. -/
def run (zs : List Int) (i : Nat) : Nat := min (nou (zs.drop (i + 1))) 7
/-- Bits and number, from the i-th length on. -/
def lp (zs : List Int) : Nat → Nat → Nat → Nat → Nat × Nat
  | 0, _, n, V => (n, V)
  | f + 1, i, n, V => if i < zs.length then (if zs.getD i 0 = 0 then lp zs f (i + 1 + run zs i) (n + 7) (V + run zs i * 2 ^ (n + 4)) else lp zs f (i + 1) (n + 4) (V + (zs.getD i 0).toNat * 2 ^ n)) else (n, V)
def lpF (zs : List Int) : Nat × Nat := lp zs zs.length 0 0 0
theorem lp_end (zs : List Int) (f i n V : Nat) (h : ¬ i < zs.length) : lp zs f i n V = (n, V) := by
  cases f with
  | zero => rfl
  | succ f => simp [lp, h]
theorem lp_zero (zs : List Int) (f i n V : Nat) (h : i < zs.length) (hz : zs.getD i 0 = 0) : lp zs (f + 1) i n V = lp zs f (i + 1 + run zs i) (n + 7) (V + run zs i * 2 ^ (n + 4)) := by
  simp only [lp]; rw [if_pos h, if_pos hz]
theorem lp_pos (zs : List Int) (f i n V : Nat) (h : i < zs.length) (hz : ¬ zs.getD i 0 = 0) : lp zs (f + 1) i n V = lp zs f (i + 1) (n + 4) (V + (zs.getD i 0).toNat * 2 ^ n) := by
  simp only [lp]; rw [if_pos h, if_neg hz]
theorem lp_le (zs : List Int) (f i n V : Nat) : (lp zs f i n V).1 ≤ n + 7 * f := by
  induction f generalizing i n V with
  | zero => simp [lp]
  | succ f ih =>
    simp only [lp]
    split
    · split
      · have := ih (i + 1 + run zs i) (n + 7) (V + run zs i * 2 ^ (n + 4)); omega
      · have := ih (i + 1) (n + 4) (V + (zs.getD i 0).toNat * 2 ^ n); omega
    · simp
theorem run_le (zs : List Int) (i : Nat) (h : i < zs.length) : run zs i ≤ 7 ∧ i + 1 + run zs i ≤ zs.length := by
  have := nou_le (zs.drop (i + 1))
  rw [List.length_drop] at this
  unfold run
  omega
theorem drop_getD (zs : List Int) (i j : Nat) : (zs.drop i).getD j 0 = zs.getD (i + j) 0 := by simp [List.getD_eq_getElem?_getD]
theorem Ins.drop {w : World} {b off : Nat} {zs : List Int} (h : Ins w (some ⟨b, off, none⟩) zs) (i : Nat) : Ins w (some ⟨b, off + i, none⟩) (zs.drop i) := by
  refine ⟨fun z hz => h.1 z (List.mem_of_mem_drop hz), fun hp => ?_⟩
  rw [List.length_drop] at hp
  obtain ⟨b', o', he, hlt, hc⟩ := h.2 (by omega)
  obtain ⟨rfl, rfl⟩ : b = b' ∧ off = o' := by simpa using he
  refine ⟨b, off + i, rfl, hlt, fun j hj => ?_⟩
  rw [List.length_drop] at hj
  rw [drop_getD, Nat.add_assoc]
  exact hc (i + j) (by omega)

set_option maxHeartbeats 1600000 in
theorem noughts_any (a : Option Addr) (cap : Nat) (l : List Int) (w : World) (hb : Ins w a l) (hn : l.length ≤ 80) :
    Calls Tryd.prog 71 #[.slice a l.length cap] w fun e w' => e = .returned (.int .i64 (nou l : Nat)) ∧ w' = w := by
  have hle := nou_le l
  have HZ : Hid _ := nou_zero l
  have HS : Hid _ := nou_stop l
  generalize hlen : l.length = n at *
  have HL : Hid (l.length = n) := hlen
  clear hlen
  generalize nou l = m at *
  go_enter Tryd.func71, Tryd.ntmps71
  go_wp2
  go_loop [3] (fun i => ∃ k : Nat, k ≤ m ∧ i = .int .i64 k) (fun i => m - (intOf i).toNat)
  case atStart => exact ⟨0, Nat.zero_le _, rfl⟩
  case round =>
    obtain ⟨k, hk, rfl⟩ := hrel
    by_cases hlt : k < n
    · obtain ⟨b1, o1, rfl, hb1, hc1⟩ := hb.len_pos k (by rw [HL.out]; exact hlt)
      have hs1 := hc1 k (by rw [HL.out]; exact hlt)
      by_cases hkm : k < m
      · rw [HZ.out k hkm] at hs1
        clear hc1
        go_wp2
        go_round
        case rel => exact ⟨k + 1, by omega, by go_num⟩
        case measure => simp [intOf]; omega
      · have hke : k = m := by omega
        subst hke
        have hne := HS.out hlt
        generalize l.getD k 0 = x at *
        have hx : (x == 0) = false := by simpa using hne
        clear hc1
        go_wp2
        go_ret
        exact ⟨rfl, rfl⟩
    · have hke : k = m := by omega
      subst hke
      go_wp2
      go_ret
      exact ⟨rfl, rfl⟩
end Go.Proofs.YtaiikncdghjmjaaDoor
