/-
  Shares by counts: who gets one more.
-/
import Derived.Test.YtojnomdlkihgmaaGreatDoorPcV
import Derived.Test.YtojnomdlkihgmaaGreatDoorILensC
import Derived.Test.YtojnomdlkihgmaaGreatDoorPcH
import Derived.Test.YtojnomdlkihgmaaGreatDoorITxtI
namespace Go.Proofs.YtojnomdlkihgmaaGreatDoor
open Go.RowKit
set_option linter.unusedVariables false
set_option linter.unusedSimpArgs false

theorem coins_sum (zs : List Int) : ∀ k, k ≤ zs.length → sumF one (zs.take k) = ((coinsL zs k).length : Nat)
  | 0, _ => by simp [sumF, coinsL]
  | k + 1, h => by
    rw [sumF_succ one zs k (by omega), coins_sum zs k (by omega)]
    simp only [coinsL, one]
    split <;> simp
theorem some_len (zs : List Int) : sumF one zs = ((coinsS zs).length : Nat) := by
  rw [coinsS_len, ← coins_sum zs zs.length (Nat.le_refl _), List.take_length]
theorem cntB_len80 {zs : List Int} (h : cntB zs = true) : zs.length ≤ 80 := by
  simp only [cntB, decide_eq_true_eq] at h
  exact h.2.1
theorem below_dLq {B : Nat} {a b : World} (h : Below B a b) (n : Nat) : Below B a (b.drewN n) := ⟨h.os, h.tape, h.output, h.size, h.block⟩

set_option maxRecDepth 20000 in
set_option maxHeartbeats 4000000 in
theorem implLens_no (a : Option Addr) (c : Nat) (zs : List Int) (x : Int) (w : World) (hb : Ins w a zs) (hn : zs.length ≤ 281474976710656) (hno : ¬ lensOkB zs x) :
    Calls Tryz.prog 60 #[.slice a zs.length c, .int .i64 x] w fun e w' => e = .returned (.tuple #[.slice none 0 0, .bool false]) ∧ Below w.heap.size w w' := by
  have HCNT := implCnt_any a c zs w hb hn
  by_cases hc : cntB zs = true
  · have hcnt := hc
    simp only [cntB, decide_eq_true_eq] at hcnt
    obtain ⟨hn1, hn2, hzr⟩ := hcnt
    rw [hc] at HCNT
    by_cases h1 : x < 1
    · clear hno
      go_enter Tryz.func60, Tryz.ntmps60
      go_wp2_with fail
      refine HCNT.mono ?_
      clear HCNT
      rintro e w0 ⟨rfl, rfl⟩
      go_wp2
      go_ret2
      exact ⟨rfl, Below.refl _ _⟩
    · by_cases h2 : 12 < x
      · clear hno
        go_enter Tryz.func60, Tryz.ntmps60
        go_wp2_with fail
        refine HCNT.mono ?_
        clear HCNT
        rintro e w0 ⟨rfl, rfl⟩
        go_wp2
        go_ret2
        exact ⟨rfl, Below.refl _ _⟩
      · obtain ⟨L, hL⟩ : ∃ L : Nat, x = (L : Int) := ⟨x.toNat, by omega⟩
        subst hL
        have hL2 : L ≤ 12 := by omega
        obtain ⟨m, hm⟩ : ∃ m, m = (coinsL zs zs.length).length := ⟨_, rfl⟩
        have hmS : (coinsS zs).length = m := by rw [coinsS_len, hm]
        obtain ⟨P2, hP2⟩ : ∃ P2, P2 = 2 ^ L := ⟨_, rfl⟩
        have hNO : ¬ (1 ≤ m ∧ m ≤ P2) := fun h => hno ⟨hc, by omega, by omega, by rw [hmS]; exact h.1, by rw [hmS, Int.toNat_natCast, ← hP2]; exact h.2⟩
        have HP2 : Hid (wrap64 (2 ^ L) = ((P2 : Nat) : Int) ∧ True) := by rw [hP2]; exact ⟨lens_pow hL2, trivial⟩
        have hP2b : P2 ≤ 4096 := by rw [hP2]; exact Nat.pow_le_pow_right (by omega) hL2
        have HCO := coinsOf_any a c zs w hb (by omega) (fun z h => (hzr z h).1)
        have HM : Hid (m = (coinsL zs zs.length).length ∧ True) := ⟨hm, trivial⟩
        have hpw := HP2.out.1
        clear hno hP2 hzr hm hmS hc
        by_cases h3 : m < 1
        · have h3i : (m : Int) < 1 := by omega
          clear hNO
          go_enter Tryz.func60, Tryz.ntmps60
          go_wp2_with fail
          refine HCNT.mono ?_
          clear HCNT
          rintro e w0 ⟨rfl, rfl⟩
          go_wp2_with fail
          refine HCO.mono ?_
          clear HCO
          rintro e w1 ⟨v, rfl, hov, hb1⟩
          obtain ⟨la, lc, hv, -, -⟩ := hov.slice
          rw [← HM.out.1] at hv
          subst hv
          clear hov
          go_wp2
          go_ret2
          exact ⟨rfl, hb1⟩
        · have h3i : ¬ (m : Int) < 1 := by omega
          have h4i : (P2 : Int) < (m : Int) := by omega
          clear hNO
          go_enter Tryz.func60, Tryz.ntmps60
          go_wp2_with fail
          refine HCNT.mono ?_
          clear HCNT
          rintro e w0 ⟨rfl, rfl⟩
          go_wp2_with fail
          refine HCO.mono ?_
          clear HCO
          rintro e w1 ⟨v, rfl, hov, hb1⟩
          obtain ⟨la, lc, hv, -, -⟩ := hov.slice
          rw [← HM.out.1] at hv
          subst hv
          clear hov
          go_wp2
          go_ret2
          exact ⟨rfl, hb1⟩
  · have hc : cntB zs = false := by simpa using hc
    rw [hc] at HCNT
    go_enter Tryz.func60, Tryz.ntmps60
    go_wp2_with fail
    refine HCNT.mono ?_
    clear HCNT
    rintro e w0 ⟨rfl, rfl⟩
    go_wp2
    go_ret2
    exact ⟨rfl, Below.refl _ _⟩
theorem sum_succ (zs : List Int) (k : Nat) (h : k < zs.length) : (zs.take (k + 1)).sum = (zs.take k).sum + zs.getD k 0 := by
  rw [List.take_succ_eq_append_getElem h, List.sum_append]
  simp [List.getD_eq_getElem?_getD, List.getElem?_eq_getElem h]
theorem sum_bnd {zs : List Int} {m : Int} (h : ∀ z ∈ zs, 0 ≤ z ∧ z ≤ m) : 0 ≤ zs.sum ∧ zs.sum ≤ m * zs.length := by
  induction zs with
  | nil => simp
  | cons z zs ih =>
    have h1 := h z (by simp)
    have h2 := ih (fun y hy => h y (by simp [hy]))
    simp only [List.sum_cons, List.length_cons]
    rw [show m * ((zs.length + 1 : Nat) : Int) = m * zs.length + m from by rw [Int.natCast_add, Int.mul_add]; simp]
    omega

/-- What NormOk tells. -/
def normB (zs : List Int) : Bool := decide (1 ≤ zs.length ∧ zs.length ≤ 80 ∧ (∀ z ∈ zs, 0 ≤ z ∧ z ≤ 64) ∧ zs.sum = 64)

theorem normB_bad {zs : List Int} {k : Nat} (hk : k < zs.length) (h : ¬ (0 ≤ zs.getD k 0 ∧ zs.getD k 0 ≤ 64)) : normB zs = false := by
  simp only [normB, decide_eq_false_iff_not]
  exact fun h' => h (h'.2.2.1 _ (getD_mem hk))
theorem normB_all {zs : List Int} (h1 : 1 ≤ zs.length) (h2 : zs.length ≤ 80) (h : ∀ z ∈ zs.take zs.length, 0 ≤ z ∧ z ≤ 64) : normB zs = decide (zs.sum = 64) := by
  rw [List.take_length] at h
  simp only [normB]
  apply decide_eq_decide.2
  exact ⟨fun h' => h'.2.2.2, fun h' => ⟨h1, h2, h, h'⟩⟩
theorem normB_len {zs : List Int} (h : ¬ (1 ≤ zs.length ∧ zs.length ≤ 80)) : normB zs = false := by
  simp only [normB, decide_eq_false_iff_not]
  exact fun h' => h ⟨h'.1, h'.2.1⟩
theorem normB_get {zs : List Int} (h : normB zs = true) (k : Nat) (hk : k < zs.length) : 0 ≤ zs.getD k 0 ∧ zs.getD k 0 ≤ 64 := by
  simp only [normB, decide_eq_true_eq] at h
  exact h.2.2.1 _ (getD_mem hk)
theorem normB_bnd {zs : List Int} (h : normB zs = true) : 1 ≤ zs.length ∧ zs.length ≤ 80 := by
  simp only [normB, decide_eq_true_eq] at h
  exact ⟨h.1, h.2.1⟩
/-- Whether symbol i, with count and share, goes ahead of the best one. -/
def ahead (cs ns : List Int) (best : Int) (i : Nat) : Prop := 0 < cs.getD i 0 ∧ (best < 0 ∨ cs.getD best.toNat 0 * ns.getD i 0 < cs.getD i 0 * ns.getD best.toNat 0)
instance (cs ns : List Int) (best : Int) (i : Nat) : Decidable (ahead cs ns best i) := by unfold ahead; infer_instance
/-- The best of the first k symbols, or -1. -/
def pick (cs ns : List Int) : Nat → Int
  | 0 => -1
  | k + 1 => if ahead cs ns (pick cs ns k) k then k else pick cs ns k
def give (cs ns : List Int) : List Int := bump ns (pick cs ns cs.length)
/-- The shares when j have been given behind the first ones. -/
def shares (cs : List Int) : Nat → List Int
  | 0 => cs.map one
  | j + 1 => give cs (shares cs j)

theorem pick_yes {cs ns : List Int} {k : Nat} (h : ahead cs ns (pick cs ns k) k) : pick cs ns (k + 1) = k := by simp [pick, h]
theorem pick_no {cs ns : List Int} {k : Nat} (h : ¬ ahead cs ns (pick cs ns k) k) : pick cs ns (k + 1) = pick cs ns k := by simp [pick, h]
theorem pick_rng (cs ns : List Int) (k : Nat) : -1 ≤ pick cs ns k ∧ pick cs ns k < k := by
  induction k with
  | zero => simp [pick]
  | succ k ih => simp only [pick]; split <;> omega
theorem pick_pos (cs ns : List Int) (k : Nat) (h : 0 ≤ pick cs ns k) : 0 < cs.getD (pick cs ns k).toNat 0 := by
  induction k with
  | zero => simp [pick] at h
  | succ k ih =>
    by_cases c : ahead cs ns (pick cs ns k) k
    · rw [pick_yes c]; simpa using c.1
    · rw [pick_no c] at h ⊢; exact ih h
theorem pick_some (cs ns : List Int) (k i : Nat) (hi : i < k) (h : 0 < cs.getD i 0) : 0 ≤ pick cs ns k := by
  induction k with
  | zero => omega
  | succ k ih =>
    by_cases c : ahead cs ns (pick cs ns k) k
    · rw [pick_yes c]; omega
    · rw [pick_no c]
      by_cases hk : i < k
      · exact ih hk
      · have : i = k := by omega
        subst this
        have hr := pick_rng cs ns i
        by_cases hp : pick cs ns i < 0
        · exact absurd ⟨h, .inl hp⟩ c
        · omega
/-- Some symbol is there. -/
def some1 (cs : List Int) : Prop := ∃ i, i < cs.length ∧ 0 < cs.getD i 0
theorem some1_of {cs : List Int} (h : 1 ≤ sumF one cs) : some1 cs := by
  induction cs with
  | nil => simp [sumF] at h
  | cons c cs ih =>
    by_cases hc : 0 < c
    · exact ⟨0, by simp, by simpa using hc⟩
    · have e : sumF one (c :: cs) = sumF one cs := by simp [sumF, one, hc]
      rw [e] at h
      obtain ⟨i, hi, hp⟩ := ih h
      exact ⟨i + 1, by simp; omega, by simpa using hp⟩

/-- What stays true of shares as they are given. -/
def Fair (cs ns : List Int) (j : Nat) : Prop := ns.length = cs.length ∧ ∀ i, i < cs.length → (0 < cs.getD i 0 → 1 ≤ ns.getD i 0 ∧ ns.getD i 0 ≤ j + 1) ∧ (¬ 0 < cs.getD i 0 → ns.getD i 0 = 0)
theorem Fair.bnd {cs ns : List Int} {j : Nat} (h : Fair cs ns j) (i : Nat) : 0 ≤ ns.getD i 0 ∧ ns.getD i 0 ≤ j + 1 := by
  by_cases hi : i < cs.length
  · have := h.2 i hi
    by_cases hc : 0 < cs.getD i 0
    · have := this.1 hc; omega
    · have := this.2 hc; omega
  · rw [List.getD_eq_getElem?_getD, List.getElem?_eq_none (by rw [h.1]; omega)]; simp; omega
theorem fair_zero (cs : List Int) : Fair cs (cs.map one) 0 := by
  refine ⟨by simp, fun i hi => ?_⟩
  have e : (cs.map one).getD i 0 = one (cs.getD i 0) := by simp [List.getD_eq_getElem?_getD, List.getElem?_eq_getElem hi]
  rw [e]
  constructor
  · intro h; simp only [one]; rw [if_pos h]; omega
  · intro h; simp only [one]; rw [if_neg h]
theorem pick_in {cs ns : List Int} (hs : some1 cs) : 0 ≤ pick cs ns cs.length ∧ (pick cs ns cs.length).toNat < cs.length ∧ 0 < cs.getD (pick cs ns cs.length).toNat 0 := by
  obtain ⟨i, hi, hp⟩ := hs
  have h1 := pick_some cs ns cs.length i hi hp
  have h2 := pick_rng cs ns cs.length
  exact ⟨h1, by omega, pick_pos cs ns _ h1⟩
theorem getD_set_eq {ns : List Int} {i : Nat} {v : Int} (h : i < ns.length) : (ns.set i v).getD i 0 = v := by simp [List.getD_eq_getElem?_getD, h]
theorem getD_set_ne {ns : List Int} {i k : Nat} {v : Int} (h : i ≠ k) : (ns.set k v).getD i 0 = ns.getD i 0 := by
  simp only [List.getD_eq_getElem?_getD]
  rw [List.getElem?_set_ne (by omega)]
theorem fair_succ {cs ns : List Int} {j : Nat} (hs : some1 cs) (h : Fair cs ns j) : Fair cs (give cs ns) (j + 1) := by
  obtain ⟨p1, p2, p3⟩ := pick_in (ns := ns) hs
  unfold give bump
  generalize (pick cs ns cs.length).toNat = p at *
  refine ⟨by simpa using h.1, fun i hi => ?_⟩
  have hi' := h.2 i hi
  by_cases hip : i = p
  · subst hip
    rw [getD_set_eq (by rw [h.1]; exact hi)]
    have := hi'.1 p3
    exact ⟨fun _ => by omega, fun hh => absurd p3 hh⟩
  · rw [getD_set_ne hip]
    exact ⟨fun hh => by have := hi'.1 hh; omega, hi'.2⟩
theorem fair_all {cs : List Int} (hs : some1 cs) (j : Nat) : Fair cs (shares cs j) j := by
  induction j with
  | zero => exact fair_zero cs
  | succ j ih => exact fair_succ hs ih
theorem Fair.rng {cs ns : List Int} {j : Nat} (h : Fair cs ns j) : ∀ z ∈ ns, 0 ≤ z ∧ z ≤ (j : Int) + 1 := by
  intro z hz
  obtain ⟨i, hi, rfl⟩ := List.getElem_of_mem hz
  have := h.bnd i
  simpa [List.getD_eq_getElem?_getD, List.getElem?_eq_getElem hi] using this
theorem mulb {x y : Int} (hx : 0 ≤ x ∧ x ≤ 1000000) (hy : 0 ≤ y ∧ y ≤ 65) : 0 ≤ x * y ∧ x * y ≤ 65000000 := by
  refine ⟨Int.mul_nonneg hx.1 hy.1, ?_⟩
  have h1 : x * y ≤ 1000000 * y := Int.mul_le_mul_of_nonneg_right hx.2 hy.1
  omega
theorem one_part_set (cs : List Int) (k : Nat) (h : k < cs.length) (hp : 0 < cs.getD k 0) : (part (cs.map one) k).set k 1 = part (cs.map one) (k + 1) := by
  rw [← part_set (cs.map one) k (by simpa using h)]
  congr 1
  have e : (cs.map one).getD k 0 = one (cs.getD k 0) := by simp [List.getD_eq_getElem?_getD, List.getElem?_eq_getElem h]
  rw [e]
  simp only [one]
  rw [if_pos hp]
theorem one_part_skip (cs : List Int) (k : Nat) (h : k < cs.length) (hp : ¬ 0 < cs.getD k 0) : part (cs.map one) k = part (cs.map one) (k + 1) := by
  rw [← part_set (cs.map one) k (by simpa using h)]
  have e : (cs.map one).getD k 0 = one (cs.getD k 0) := by simp [List.getD_eq_getElem?_getD, List.getElem?_eq_getElem h]
  rw [e]
  have e0 : one (cs.getD k 0) = 0 := by simp only [one]; rw [if_neg hp]
  rw [e0]
  apply List.ext_getElem?
  intro i
  by_cases hik : i = k
  · subst hik
    rw [List.getElem?_set_self (by rw [part_len _ _ (by simp; omega)]; simpa using h), part_get _ _ _ (by simp; omega)]
    simp [h]
  · rw [List.getElem?_set_ne (by omega)]
end Go.Proofs.YtojnomdlkihgmaaGreatDoor
