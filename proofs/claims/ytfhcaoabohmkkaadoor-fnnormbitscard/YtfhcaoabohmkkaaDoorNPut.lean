/-
  Shares as bits: the model's and the program's way to put them.
-/
import Derived.Test.YtfhcaoabohmkkaaDoorShareW
import Derived.Test.YtfhcaoabohmkkaaDoorWri
import Derived.Test.YtfhcaoabohmkkaaDoorINorm
namespace Go.Proofs.YtfhcaoabohmkkaaDoor
open Go.RowKit
set_option linter.unusedVariables false

/-- What is left of the table behind k shares. -/
def lft (zs : List Int) (k : Nat) : Nat := (64 - (zs.take k).sum).toNat
/-- How many bits k shares have. -/
def nb (zs : List Int) : Nat → Nat
  | 0 => 0
  | k + 1 => nb zs k + bl (lft zs k)
/-- Which number they are. -/
def vb (zs : List Int) : Nat → Nat
  | 0 => 0
  | k + 1 => vb zs k + (zs.getD k 0).toNat * 2 ^ nb zs k

theorem sum_nonneg {zs : List Int} (h : ∀ z ∈ zs, 0 ≤ z) : 0 ≤ zs.sum := by
  induction zs with
  | nil => simp
  | cons z zs ih =>
    have h1 := h z (by simp)
    have h2 := ih (fun y hy => h y (by simp [hy]))
    simp only [List.sum_cons]
    omega
theorem normB_sum {zs : List Int} (h : normB zs = true) : zs.sum = 64 ∧ ∀ z ∈ zs, 0 ≤ z ∧ z ≤ 64 := by
  simp only [normB, decide_eq_true_eq] at h
  exact ⟨h.2.2.2, h.2.2.1⟩
theorem norm_take {zs : List Int} (h : normB zs = true) (k : Nat) : 0 ≤ (zs.take k).sum ∧ (zs.take k).sum ≤ 64 := by
  obtain ⟨h1, h2⟩ := normB_sum h
  have e : (zs.take k).sum + (zs.drop k).sum = zs.sum := by rw [← List.sum_append, List.take_append_drop]
  have h3 := sum_nonneg (zs := zs.drop k) (fun z hz => (h2 z (List.mem_of_mem_drop hz)).1)
  have h4 := sum_nonneg (zs := zs.take k) (fun z hz => (h2 z (List.mem_of_mem_take hz)).1)
  omega
theorem lft_eq {zs : List Int} (h : normB zs = true) (k : Nat) : ((lft zs k : Nat) : Int) = 64 - (zs.take k).sum ∧ lft zs k ≤ 64 := by
  have := norm_take h k
  unfold lft
  omega
theorem lft_succ {zs : List Int} (h : normB zs = true) (k : Nat) (hk : k < zs.length) : ((lft zs (k + 1) : Nat) : Int) = (lft zs k : Nat) - zs.getD k 0 ∧ 0 ≤ zs.getD k 0 ∧ zs.getD k 0 ≤ (lft zs k : Nat) := by
  have h1 := lft_eq h k
  have h2 := lft_eq h (k + 1)
  have h3 := sum_succ zs k hk
  have h4 := (normB_sum h).2 _ (getD_mem hk)
  omega
theorem nb_le {zs : List Int} (h : normB zs = true) (k : Nat) : nb zs k ≤ 7 * k := by
  induction k with
  | zero => simp [nb]
  | succ k ih =>
    have h1 := lft_eq h k
    have h2 := bl_le7 _ h1.2
    simp only [nb]
    omega
theorem lft_end {zs : List Int} (h : normB zs = true) : lft zs zs.length = 0 := by
  have h1 := lft_eq h zs.length
  rw [List.take_length, (normB_sum h).1] at h1
  omega
/-- Behind what fills the table there are no bits. -/
theorem put_rest {zs : List Int} (h : normB zs = true) (k : Nat) (hk : k ≤ zs.length) (h0 : lft zs k = 0) : nb zs zs.length = nb zs k ∧ vb zs zs.length = vb zs k := by
  have step : ∀ j, k ≤ j → j ≤ zs.length → lft zs j = 0 ∧ nb zs j = nb zs k ∧ vb zs j = vb zs k := by
    intro j
    induction j with
    | zero => intro h1 _; obtain rfl : k = 0 := by omega
              exact ⟨h0, rfl, rfl⟩
    | succ j ih =>
      intro h1 h2
      by_cases hj : k ≤ j
      · obtain ⟨e1, e2, e3⟩ := ih hj (by omega)
        have s := lft_succ h j (by omega)
        have z : (zs.getD j 0).toNat = 0 := by omega
        refine ⟨by omega, ?_, ?_⟩
        · simp only [nb]; rw [e1, bl_zero, e2]; rfl
        · simp only [vb]; rw [z, e3]; simp
      · obtain rfl : k = j + 1 := by omega
        exact ⟨h0, rfl, rfl⟩
  exact (step zs.length hk (Nat.le_refl _)).2

set_option maxHeartbeats 1600000 in
theorem putNorm_yes (a : Option Addr) (cap : Nat) (zs : List Int) (R B : Nat) (w0 w : World) (hb : Ins w0 a zs) (hB : w0.heap.size = B) (hbel : Below B w0 w) (hw : WI w B R 0 0) (hn : normB zs = true) :
    Calls Tryd.prog 35 #[.pointer (some ⟨R, 0, none⟩), .slice a zs.length cap] w fun e w' => e = .returned .nilIface ∧ WI w' B R (nb zs zs.length) (vb zs zs.length) ∧ Below B w0 w' := by
  obtain ⟨hn1, hn2⟩ := normB_bnd hn
  have HE : Hid _ := fun k => lft_eq hn k
  have HU : Hid _ := fun k hk => lft_succ hn k hk
  have HNB : Hid _ := fun k => nb_le hn k
  have HW : Hid (WI w B R 0 0) := hw
  clear hn hw
  generalize hlen : zs.length = n at *
  have HL : Hid (zs.length = n) := hlen
  clear hlen
  go_enter Tryd.func35, Tryd.ntmps35
  go_wp2
  go_loopw [5, 11] (fun l i wr => ∃ k : Nat, k ≤ n ∧ i = .int .i64 k ∧ l = .int .i64 (lft zs k : Nat) ∧ WI wr B R (nb zs k) (vb zs k) ∧ Below B w0 wr) (fun _ i _ => n - (intOf i).toNat)
  case atStart => exact ⟨0, Nat.zero_le _, rfl, by simp [lft], HW.out, hbel⟩
  case round =>
    clear HW hbel
    obtain ⟨k, hk, rfl, rfl, hwi, hbel⟩ := hrel
    have HWI : Hid (WI wr B R (nb zs k) (vb zs k)) := hwi
    clear hwi
    by_cases hlt : k < n
    · obtain ⟨b1, o1, rfl, hb1, hc1⟩ := (hb.below hbel (by omega)).len_pos k (by rw [HL.out]; exact hlt)
      have hs1 := hc1 k (by rw [HL.out]; exact hlt)
      have hl := (HE.out k).2
      have hu := HU.out k hlt
      have hnb := HNB.out k
      have HSN : Hid (nb zs (k + 1) = nb zs k + bl (lft zs k)) := rfl
      have HSV : Hid (vb zs (k + 1) = vb zs k + (zs.getD k 0).toNat * 2 ^ nb zs k) := rfl
      have hb7 := bl_le7 (lft zs k) hl
      have hb8 := bl_lt (lft zs k) (by omega)
      clear hc1
      generalize zs.getD k 0 = x at *
      generalize lft zs k = l at *
      generalize nb zs k = N at *
      generalize vb zs k = V at *
      have hxl : x < 2 ^ bl l := by
        have e : ((2 : Int) ^ bl l) = ((2 ^ bl l : Nat) : Int) := by simp
        rw [e]; omega
      have HXL : Hid (x < 2 ^ ((bl l : Nat) : Int).toNat) := by simpa [Hid] using hxl
      clear hxl hb8
      go_wp2_with fail
      refine (shareWidth_any l wr (by omega)).mono ?_
      rintro e w1 ⟨rfl, rfl⟩
      go_wp2_with fail
      refine (HWI.out.put x (bl l : Nat) hu.2.1 (by omega) (by omega) HXL.out (by omega) (by omega)).mono ?_
      rintro e w2 ⟨rfl, hwi2, hb2⟩
      have HWI2 : Hid (WI w2 B R (nb zs (k + 1)) (vb zs (k + 1))) := by rw [HSN.out, HSV.out]; simpa [Hid] using hwi2
      have HB2 : Hid (Below B w0 w2) := hbel.trans hb2
      clear hwi2 hb2 hbel HWI
      have E1 : Hid ((l : Int) - x = ((lft zs (k + 1) : Nat) : Int)) := by unfold Hid; omega
      have hx2 : 0 ≤ x ∧ x ≤ l := hu.2
      clear HSN HSV HXL hu
      go_wp2
      go_roundw
      case rel => exact ⟨k + 1, by omega, by go_num, by rw [E1.out], HWI2.out, HB2.out⟩
      case measure => simp [intOf]; omega
    · have hkn : k = n := by omega
      subst hkn
      go_wp2
      go_ret
      exact ⟨rfl, HWI.out, hbel⟩
end Go.Proofs.YtfhcaoabohmkkaaDoor
