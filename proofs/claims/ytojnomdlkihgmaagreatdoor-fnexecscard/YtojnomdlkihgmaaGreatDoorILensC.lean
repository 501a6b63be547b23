/-
  The program's checkLens and LensOk.
-/
import Derived.Test.YtojnomdlkihgmaaGreatDoorITxtI
namespace Go.Proofs.YtojnomdlkihgmaaGreatDoor
open Go.RowKit
set_option linter.unusedVariables false

def sumF (f : Int → Int) (zs : List Int) : Int := (zs.map f).sum
theorem sumF_succ (f : Int → Int) (zs : List Int) (k : Nat) (h : k < zs.length) : sumF f (zs.take (k + 1)) = sumF f (zs.take k) + f (zs.getD k 0) := by
  unfold sumF
  rw [List.take_succ_eq_append_getElem h, List.map_append, List.sum_append]
  simp [List.getD_eq_getElem?_getD, List.getElem?_eq_getElem h]
theorem sumF_bnd (f : Int → Int) (m : Int) (hf : ∀ z, 0 ≤ f z ∧ f z ≤ m) (zs : List Int) : 0 ≤ sumF f zs ∧ sumF f zs ≤ m * zs.length := by
  unfold sumF
  induction zs with
  | nil => simp
  | cons z zs ih =>
    have := hf z
    simp only [List.map_cons, List.sum_cons, List.length_cons]
    rw [show m * ((zs.length + 1 : Nat) : Int) = m * zs.length + m from by rw [Int.natCast_add, Int.mul_add]; simp]
    omega
/-- Has a code. -/
def one (z : Int) : Int := if 0 < z then 1 else 0
theorem one_bnd (z : Int) : 0 ≤ one z ∧ one z ≤ 1 := by unfold one; split <;> omega
/-- What a code takes of 2^12. -/
def share (z : Int) : Int := if 0 < z then 2 ^ (12 - z).toNat else 0
theorem pow_bnd (n : Nat) (h : n ≤ 12) : (1 : Int) ≤ 2 ^ n ∧ (2 : Int) ^ n ≤ 4096 := by
  have h1 : 1 ≤ 2 ^ n := Nat.pow_pos (by omega)
  have h2 : 2 ^ n ≤ 2 ^ 12 := Nat.pow_le_pow_right (by omega) h
  have e : ((2 : Int) ^ n) = ((2 ^ n : Nat) : Int) := by simp
  rw [e]
  omega
theorem share_bnd (z : Int) : 0 ≤ share z ∧ share z ≤ 4096 := by
  unfold share
  split
  · have := pow_bnd (12 - z).toNat (by omega); omega
  · omega
theorem wrapPow (n : Nat) (h : n ≤ 12) : wrap64 (2 ^ n) = 2 ^ n := by
  have := pow_bnd n h
  generalize (2 : Int) ^ n = y at *
  exact IntWalk.wrap64_in _ (by omega)

/-- What LensOk tells. -/
def lensB (zs : List Int) : Bool := decide (1 ≤ zs.length ∧ zs.length ≤ 80 ∧ (∀ z ∈ zs, 0 ≤ z ∧ z ≤ 12) ∧ (sumF one zs = 1 ∧ sumF share zs = 2048 ∨ 1 < sumF one zs ∧ sumF share zs = 4096))
theorem lensB_bad {zs : List Int} {k : Nat} (hk : k < zs.length) (h : ¬ (0 ≤ zs.getD k 0 ∧ zs.getD k 0 ≤ 12)) : lensB zs = false := by
  simp only [lensB, decide_eq_false_iff_not]
  exact fun h' => h (h'.2.2.1 _ (getD_mem hk))
theorem lensB_len {zs : List Int} (h : ¬ (1 ≤ zs.length ∧ zs.length ≤ 80)) : lensB zs = false := by
  simp only [lensB, decide_eq_false_iff_not]
  exact fun h' => h ⟨h'.1, h'.2.1⟩
theorem lensB_all {zs : List Int} (h1 : 1 ≤ zs.length) (h2 : zs.length ≤ 80) (h : ∀ z ∈ zs.take zs.length, 0 ≤ z ∧ z ≤ 12) : lensB zs = decide (sumF one zs = 1 ∧ sumF share zs = 2048 ∨ 1 < sumF one zs ∧ sumF share zs = 4096) := by
  rw [List.take_length] at h
  simp only [lensB]
  apply decide_eq_decide.2
  exact ⟨fun h' => h'.2.2.2, fun h' => ⟨h1, h2, h, h'⟩⟩

theorem lensB_ok {zs : List Int} (h : lensB zs = true) : 1 ≤ zs.length ∧ zs.length ≤ 80 ∧ ∀ z ∈ zs, 0 ≤ z ∧ z ≤ 12 := by
  simp only [lensB, decide_eq_true_eq] at h
  exact ⟨h.1, h.2.1, h.2.2.1⟩
/-- The four sentinels of lengths hold something. -/
structure Four (w : World) : Prop where
  g1 : ∃ T x, w.cell? ⟨17, 0, none⟩ = some (.iface T x)
  g2 : ∃ T x, w.cell? ⟨18, 0, none⟩ = some (.iface T x)
  g3 : ∃ T x, w.cell? ⟨7, 0, none⟩ = some (.iface T x)
  g4 : ∃ T x, w.cell? ⟨19, 0, none⟩ = some (.iface T x)
theorem someCell {w w' : World} {g : Nat} (h : ∃ T x, w.cell? ⟨g, 0, none⟩ = some (.iface T x)) (hb : Below w.heap.size w w') : ∃ T x, w'.cell? ⟨g, 0, none⟩ = some (.iface T x) := by
  obtain ⟨T, x, h⟩ := h
  exact ⟨T, x, keep hb (World.block_lt_of_cell? _ _ h) h⟩
theorem Four.below {w w' : World} (h : Four w) (hb : Below w.heap.size w w') : Four w' := ⟨someCell h.g1 hb, someCell h.g2 hb, someCell h.g3 hb, someCell h.g4 hb⟩

/-- What checkLens answers. -/
def chk (zs : List Int) (w : World) (e : Ending) (w' : World) : Prop :=
  Below w.heap.size w w' ∧ (lensB zs = true → e = .returned .nilIface) ∧ (lensB zs = false → ∃ p : Addr, e = .returned (.iface 188 (.pointer (some p))))

set_option maxHeartbeats 2000000 in
theorem checkLens_any (a : Option Addr) (cap : Nat) (zs : List Int) (w : World) (hb : Ins w a zs) (hn : zs.length ≤ 281474976710656) (h4 : Four w) :
    Calls Tryz.prog 114 #[.slice a zs.length cap] w (chk zs w) := by
  obtain ⟨T1, v1, e1⟩ := h4.g1
  obtain ⟨T2, v2, e2⟩ := h4.g2
  obtain ⟨T3, v3, e3⟩ := h4.g3
  obtain ⟨T4, v4, e4⟩ := h4.g4
  clear h4
  by_cases h : 1 ≤ zs.length ∧ zs.length ≤ 80
  · obtain ⟨h1, h2⟩ := h
    generalize hlen : zs.length = n at *
    have HL : Hid (zs.length = n) := hlen
    clear hlen
    go_enter Tryz.func114, Tryz.ntmps114
    go_wp2
    go_loop [3, 4, 22] (fun x y i => ∃ k : Nat, k ≤ n ∧ i = .int .i64 k ∧ x = .int .i64 (sumF one (zs.take k)) ∧ y = .int .i64 (sumF share (zs.take k)) ∧ ∀ z ∈ zs.take k, 0 ≤ z ∧ z ≤ 12) (fun _ _ i => n - (intOf i).toNat)
    case atStart => exact ⟨0, Nat.zero_le _, rfl, by simp [sumF], by simp [sumF], by simp⟩
    case round =>
      obtain ⟨k, hk, rfl, rfl, rfl, htk⟩ := hrel
      have HT : Hid (∀ z ∈ zs.take k, 0 ≤ z ∧ z ≤ 12) := htk
      clear htk
      by_cases hlt : k < n
      · obtain ⟨b1, o1, rfl, hb1, hc1⟩ := hb.len_pos k (by rw [HL.out]; exact hlt)
        have hs1 := hc1 k (by rw [HL.out]; exact hlt)
        have g1 := getD_rngI hb.1 k
        have hF := sumF_bnd one 1 one_bnd (zs.take k)
        have hG := sumF_bnd share 4096 share_bnd (zs.take k)
        have hF2 : (zs.take k).length ≤ 80 := by rw [List.length_take, HL.out]; omega
        have HS : Hid (sumF one (zs.take (k + 1)) = sumF one (zs.take k) + one (zs.getD k 0)) := sumF_succ one zs k (by rw [HL.out]; exact hlt)
        have HS2 : Hid (sumF share (zs.take (k + 1)) = sumF share (zs.take k) + share (zs.getD k 0)) := sumF_succ share zs k (by rw [HL.out]; exact hlt)
        clear hc1 hb
        generalize hx : zs.getD k 0 = x at *
        have HX : Hid (zs.getD k 0 = x) := hx
        clear hx
        generalize hFF : sumF one (zs.take k) = F at *
        generalize hGG : sumF share (zs.take k) = G at *
        have hFb : 0 ≤ F ∧ F ≤ 80 := by omega
        have hGb : 0 ≤ G ∧ G ≤ 327680 := by omega
        clear hF hG hF2 hFF hGG
        by_cases h3 : 0 ≤ x
        · by_cases h4 : x ≤ 12
          · have HT' : Hid (∀ z ∈ zs.take (k + 1), 0 ≤ z ∧ z ≤ 12) := all_take_succ HT.out (by rw [HL.out]; exact hlt) (by rw [HX.out]; exact ⟨h3, h4⟩)
            by_cases h5 : 0 < x
            · have HP : Hid (one x = 1) := by simp [Hid, one, h5]
              have hp := pow_bnd (12 - x).toNat (by omega)
              have HWP : Hid (wrap64 (2 ^ (12 - x).toNat) = 2 ^ (12 - x).toNat) := wrapPow (12 - x).toNat (by omega)
              have HQ : Hid (share x = 2 ^ (12 - x).toNat) := by simp [Hid, share, h5]
              have HW : Hid (wrap64 (G + 2 ^ (12 - x).toNat) = G + 2 ^ (12 - x).toNat) := IntWalk.wrap64_in _ (by omega)
              clear hp
              go_wp2
              go_round
              case rel => exact ⟨k + 1, by omega, by go_num, by rw [HS.out, HP.out], by rw [HS2.out, HQ.out, HWP.out, HW.out], HT'.out⟩
              case measure => simp [intOf]; omega
            · have HP : Hid (one x = 0) := by simp [Hid, one, h5]
              have HQ : Hid (share x = 0) := by simp [Hid, share, h5]
              go_wp2
              go_round
              case rel => exact ⟨k + 1, by omega, by go_num, by rw [HS.out, HP.out]; simp, by rw [HS2.out, HQ.out]; simp, HT'.out⟩
              case measure => simp [intOf]; omega
          · have HN : Hid (lensB zs = false) := lensB_bad (by rw [HL.out]; exact hlt) (by rw [HX.out]; omega)
            go_wp2
            try go_region
            all_goals try go_wp2
            all_goals go_ret
            all_goals exact ⟨by repeat (first | exact Below.refl _ _ | refine Below.drew ?_ | refine Below.alloc ?_ (by simp) _), fun h => (by rw [HN.out] at h; cases h), fun _ => ⟨_, rfl⟩⟩
        · have HN : Hid (lensB zs = false) := lensB_bad (by rw [HL.out]; exact hlt) (by rw [HX.out]; omega)
          go_wp2
          try go_region
          all_goals try go_wp2
          all_goals go_ret
          all_goals exact ⟨by repeat (first | exact Below.refl _ _ | refine Below.drew ?_ | refine Below.alloc ?_ (by simp) _), fun h => (by rw [HN.out] at h; cases h), fun _ => ⟨_, rfl⟩⟩
      · have hkn : k = n := by omega
        subst hkn
        have e : zs.take k = zs := List.take_of_length_le (by rw [HL.out]; exact Nat.le_refl _)
        have HE : Hid (lensB zs = decide (sumF one zs = 1 ∧ sumF share zs = 2048 ∨ 1 < sumF one zs ∧ sumF share zs = 4096)) := lensB_all (by rw [HL.out]; exact h1) (by rw [HL.out]; exact h2) (by rw [HL.out]; exact HT.out)
        have hF := sumF_bnd one 1 one_bnd zs
        have hG := sumF_bnd share 4096 share_bnd zs
        rw [HL.out] at hF hG
        rw [e]
        clear e HT
        generalize sumF one zs = F at *
        generalize sumF share zs = G at *
        by_cases c0 : F = 0
        · subst c0
          have HN : Hid (lensB zs = false) := by rw [Hid, HE.out, decide_eq_false (by omega)]
          go_wp2
          try go_region
          all_goals try go_wp2
          all_goals go_ret
          all_goals exact ⟨by repeat (first | exact Below.refl _ _ | refine Below.drew ?_ | refine Below.alloc ?_ (by simp) _), fun h => (by rw [HN.out] at h; cases h), fun _ => ⟨_, rfl⟩⟩
        · by_cases c1 : F = 1
          · subst c1
            by_cases c2 : G = 2048
            · subst c2
              have HN : Hid (lensB zs = true) := by rw [Hid, HE.out, decide_eq_true (by omega)]
              go_wp2
              go_ret
              exact ⟨Below.refl _ _, fun _ => rfl, fun h => (by rw [HN.out] at h; cases h)⟩
            · have HN : Hid (lensB zs = false) := by rw [Hid, HE.out, decide_eq_false (by omega)]
              go_wp2
              try go_region
              all_goals try go_wp2
              all_goals go_ret
              all_goals exact ⟨by repeat (first | exact Below.refl _ _ | refine Below.drew ?_ | refine Below.alloc ?_ (by simp) _), fun h => (by rw [HN.out] at h; cases h), fun _ => ⟨_, rfl⟩⟩
          · by_cases c2 : G = 4096
            · subst c2
              have HN : Hid (lensB zs = true) := by rw [Hid, HE.out, decide_eq_true (by omega)]
              go_wp2
              go_ret
              exact ⟨Below.refl _ _, fun _ => rfl, fun h => (by rw [HN.out] at h; cases h)⟩
            · have HN : Hid (lensB zs = false) := by rw [Hid, HE.out, decide_eq_false (by omega)]
              have c3 : (G != 4096) = true := by simp [c2]
              go_wp2
              try go_region
              all_goals try go_wp2
              all_goals go_ret
              all_goals exact ⟨by repeat (first | exact Below.refl _ _ | refine Below.drew ?_ | refine Below.alloc ?_ (by simp) _), fun h => (by rw [HN.out] at h; cases h), fun _ => ⟨_, rfl⟩⟩
  · have HN : Hid (lensB zs = false) := lensB_len h
    by_cases c1 : 1 ≤ zs.length
    · have c2 : 80 < zs.length := by omega
      go_enter Tryz.func114, Tryz.ntmps114
      go_wp2
      try go_region
      all_goals try go_wp2
      all_goals go_ret
      all_goals exact ⟨by repeat (first | exact Below.refl _ _ | refine Below.drew ?_ | refine Below.alloc ?_ (by simp) _), fun h => (by rw [HN.out] at h; cases h), fun _ => ⟨_, rfl⟩⟩
    · go_enter Tryz.func114, Tryz.ntmps114
      go_wp2
      try go_region
      all_goals try go_wp2
      all_goals go_ret
      all_goals exact ⟨by repeat (first | exact Below.refl _ _ | refine Below.drew ?_ | refine Below.alloc ?_ (by simp) _), fun h => (by rw [HN.out] at h; cases h), fun _ => ⟨_, rfl⟩⟩
end Go.Proofs.YtojnomdlkihgmaaGreatDoor
