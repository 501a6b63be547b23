/-
  One more at one place of a row of numbers.
-/
import Derived.Test.YtmhpgkfaihcmeaaDoorIList
namespace Go.Proofs.YtmhpgkfaihcmeaaDoor
open Go.RowKit
set_option linter.unusedVariables false

/-- What CountsOk tells. -/
def cntB (zs : List Int) : Bool := decide (1 ≤ zs.length ∧ zs.length ≤ 80 ∧ ∀ z ∈ zs, 0 ≤ z ∧ z ≤ 1000000)

theorem cntB_bad {zs : List Int} {k : Nat} (hk : k < zs.length) (h : ¬ (0 ≤ zs.getD k 0 ∧ zs.getD k 0 ≤ 1000000)) : cntB zs = false := by
  simp only [cntB, decide_eq_false_iff_not]
  exact fun h' => h (h'.2.2 _ (getD_mem hk))
theorem cntB_all {zs : List Int} (h1 : 1 ≤ zs.length) (h2 : zs.length ≤ 80) (h : ∀ z ∈ zs.take zs.length, 0 ≤ z ∧ z ≤ 1000000) : cntB zs = true := by
  rw [List.take_length] at h
  simp only [cntB, decide_eq_true_eq]
  exact ⟨h1, h2, h⟩
theorem cntB_len {zs : List Int} (h : ¬ (1 ≤ zs.length ∧ zs.length ≤ 80)) : cntB zs = false := by
  simp only [cntB, decide_eq_false_iff_not]
  exact fun h' => h ⟨h'.1, h'.2.1⟩

set_option maxHeartbeats 800000 in
theorem implCnt_any (a : Option Addr) (cap : Nat) (zs : List Int) (w : World) (hb : Ins w a zs) (hn : zs.length ≤ 281474976710656) :
    Calls Tryd.prog 28 #[.slice a zs.length cap] w fun e w' => e = .returned (.bool (cntB zs)) ∧ w' = w := by
  by_cases h1 : 1 ≤ zs.length
  · by_cases h2 : zs.length ≤ 80
    · generalize hlen : zs.length = n at *
      have HL : Hid (zs.length = n) := hlen
      clear hlen
      go_enter Tryd.func28, Tryd.ntmps28
      go_wp2
      go_loop [15] (fun i => ∃ k : Nat, k ≤ n ∧ i = .int .i64 k ∧ ∀ z ∈ zs.take k, 0 ≤ z ∧ z ≤ 1000000) (fun i => n - (intOf i).toNat)
      case atStart => exact ⟨0, Nat.zero_le _, rfl, by simp⟩
      case round =>
        obtain ⟨k, hk, rfl, htk⟩ := hrel
        have HT : Hid (∀ z ∈ zs.take k, 0 ≤ z ∧ z ≤ 1000000) := htk
        clear htk
        by_cases hlt : k < n
        · obtain ⟨b1, o1, rfl, hb1, hc1⟩ := hb.len_pos k (by rw [HL.out]; exact hlt)
          have hs1 := hc1 k (by rw [HL.out]; exact hlt)
          have g1 := getD_rngI hb.1 k
          clear hc1 hb
          generalize hx : zs.getD k 0 = x at *
          have HX : Hid (zs.getD k 0 = x) := hx
          clear hx
          by_cases h3 : 0 ≤ x
          · by_cases h4 : x ≤ 1000000
            · have HT' : Hid (∀ z ∈ zs.take (k + 1), 0 ≤ z ∧ z ≤ 1000000) := all_take_succ HT.out (by rw [HL.out]; exact hlt) (by rw [HX.out]; exact ⟨h3, h4⟩)
              go_wp2
              go_round
              case rel => exact ⟨k + 1, by omega, by go_num, HT'.out⟩
              case measure => simp [intOf]; omega
            · have HN : Hid (cntB zs = false) := cntB_bad (by rw [HL.out]; exact hlt) (by rw [HX.out]; omega)
              go_wp2
              go_ret
              exact ⟨by simp [HN.out], rfl⟩
          · have HN : Hid (cntB zs = false) := cntB_bad (by rw [HL.out]; exact hlt) (by rw [HX.out]; omega)
            go_wp2
            go_ret
            exact ⟨by simp [HN.out], rfl⟩
        · have hkn : k = n := by omega
          subst hkn
          have HE : Hid (cntB zs = true) := cntB_all (by rw [HL.out]; exact h1) (by rw [HL.out]; exact h2) (by rw [HL.out]; exact HT.out)
          go_wp2
          go_ret
          exact ⟨by simp [HE.out], rfl⟩
    · rw [cntB_len (by omega)]
      go_enter Tryd.func28, Tryd.ntmps28
      go_wp2
      go_ret
      exact ⟨rfl, rfl⟩
  · rw [cntB_len (by omega)]
    go_enter Tryd.func28, Tryd.ntmps28
    go_wp2
    go_ret
    exact ⟨rfl, rfl⟩
end Go.Proofs.YtmhpgkfaihcmeaaDoor
namespace Go.Proofs.YtmhpgkfaihcmeaaDoor
open Go.RowKit
set_option linter.unusedVariables false

theorem sum_succ (zs : List Int) (k : Nat) (h : k < zs.length) : (zs.take (k + 1)).sum = (zs.take k).sum + zs.getD k 0 := by
  rw [List.take_succ_eq_append_getElem h, List.sum_append]
  simp [List.getD_eq_getElem?_getD, List.getElem?_eq_getElem h]
theorem sum_bnd {zs : List Int} {m : Int} (h : ∀ z ∈ zs, 0 ≤ z ∧ z ≤ m) : 0 ≤ zs.sum ∧ zs.sum ≤ m * zs.length := by
  induction zs with
  | nil => simp
  | cons z zs ih =>
    have h1 := h z (by simp)
    have h2 := ih (fun y hy => h y (by simp [hy]))
    simp only [List.sum_cons, List.length_cons]
    rw [show m * ((zs.length + 1 : Nat) : Int) = m * zs.length + m from by rw [Int.natCast_add, Int.mul_add]; simp]
    omega

/-- What NormOk tells. -/
def normB (zs : List Int) : Bool := decide (1 ≤ zs.length ∧ zs.length ≤ 80 ∧ (∀ z ∈ zs, 0 ≤ z ∧ z ≤ 64) ∧ zs.sum = 64)

theorem normB_bad {zs : List Int} {k : Nat} (hk : k < zs.length) (h : ¬ (0 ≤ zs.getD k 0 ∧ zs.getD k 0 ≤ 64)) : normB zs = false := by
  simp only [normB, decide_eq_false_iff_not]
  exact fun h' => h (h'.2.2.1 _ (getD_mem hk))
theorem normB_all {zs : List Int} (h1 : 1 ≤ zs.length) (h2 : zs.length ≤ 80) (h : ∀ z ∈ zs.take zs.length, 0 ≤ z ∧ z ≤ 64) : normB zs = decide (zs.sum = 64) := by
  rw [List.take_length] at h
  simp only [normB]
  apply decide_eq_decide.2
  exact ⟨fun h' => h'.2.2.2, fun h' => ⟨h1, h2, h, h'⟩⟩
theorem normB_len {zs : List Int} (h : ¬ (1 ≤ zs.length ∧ zs.length ≤ 80)) : normB zs = false := by
  simp only [normB, decide_eq_false_iff_not]
  exact fun h' => h ⟨h'.1, h'.2.1⟩
theorem normB_get {zs : List Int} (h : normB zs = true) (k : Nat) (hk : k < zs.length) : 0 ≤ zs.getD k 0 ∧ zs.getD k 0 ≤ 64 := by
  simp only [normB, decide_eq_true_eq] at h
  exact h.2.2.1 _ (getD_mem hk)
theorem normB_bnd {zs : List Int} (h : normB zs = true) : 1 ≤ zs.length ∧ zs.length ≤ 80 := by
  simp only [normB, decide_eq_true_eq] at h
  exact ⟨h.1, h.2.1⟩

set_option maxHeartbeats 800000 in
theorem implNormOk_any (a : Option Addr) (cap : Nat) (zs : List Int) (w : World) (hb : Ins w a zs) (hn : zs.length ≤ 281474976710656) :
    Calls Tryd.prog 17 #[.slice a zs.length cap] w fun e w' => e = .returned (.bool (normB zs)) ∧ w' = w := by
  by_cases h1 : 1 ≤ zs.length
  · by_cases h2 : zs.length ≤ 80
    · generalize hlen : zs.length = n at *
      have HL : Hid (zs.length = n) := hlen
      clear hlen
      go_enter Tryd.func17, Tryd.ntmps17
      go_wp2
      go_loop [3, 16] (fun x i => ∃ k : Nat, k ≤ n ∧ i = .int .i64 k ∧ x = .int .i64 (zs.take k).sum ∧ ∀ z ∈ zs.take k, 0 ≤ z ∧ z ≤ 64) (fun _ i => n - (intOf i).toNat)
      case atStart => exact ⟨0, Nat.zero_le _, rfl, by simp, by simp⟩
      case round =>
        obtain ⟨k, hk, rfl, rfl, htk⟩ := hrel
        have hF := sum_bnd htk
        have hF2 : (zs.take k).length ≤ 80 := by rw [List.length_take, HL.out]; omega
        have HT : Hid (∀ z ∈ zs.take k, 0 ≤ z ∧ z ≤ 64) := htk
        clear htk
        by_cases hlt : k < n
        · obtain ⟨b1, o1, rfl, hb1, hc1⟩ := hb.len_pos k (by rw [HL.out]; exact hlt)
          have hs1 := hc1 k (by rw [HL.out]; exact hlt)
          have g1 := getD_rngI hb.1 k
          have HS : Hid ((zs.take (k + 1)).sum = (zs.take k).sum + zs.getD k 0) := sum_succ zs k (by rw [HL.out]; exact hlt)
          clear hc1 hb
          generalize hx : zs.getD k 0 = x at *
          have HX : Hid (zs.getD k 0 = x) := hx
          clear hx
          generalize hFF : (zs.take k).sum = F at *
          have hFb : 0 ≤ F ∧ F ≤ 5120 := by omega
          clear hF hF2 hFF
          by_cases h3 : 0 ≤ x
          · by_cases h4 : x ≤ 64
            · have HT' : Hid (∀ z ∈ zs.take (k + 1), 0 ≤ z ∧ z ≤ 64) := all_take_succ HT.out (by rw [HL.out]; exact hlt) (by rw [HX.out]; exact ⟨h3, h4⟩)
              go_wp2
              go_round
              case rel => exact ⟨k + 1, by omega, by go_num, by rw [HS.out], HT'.out⟩
              case measure => simp [intOf]; omega
            · have HN : Hid (normB zs = false) := normB_bad (by rw [HL.out]; exact hlt) (by rw [HX.out]; omega)
              go_wp2
              go_ret
              exact ⟨by simp [HN.out], rfl⟩
          · have HN : Hid (normB zs = false) := normB_bad (by rw [HL.out]; exact hlt) (by rw [HX.out]; omega)
            go_wp2
            go_ret
            exact ⟨by simp [HN.out], rfl⟩
        · have hkn : k = n := by omega
          subst hkn
          have e : zs.take k = zs := List.take_of_length_le (by rw [HL.out]; exact Nat.le_refl _)
          have HE : Hid (normB zs = _) := normB_all (by rw [HL.out]; exact h1) (by rw [HL.out]; exact h2) (by rw [HL.out]; exact HT.out)
          rw [e] at hF hF2 ⊢
          clear HT
          generalize zs.sum = F at *
          go_wp2
          go_ret
          exact ⟨by rw [HE.out]; by_cases g : F = 64 <;> simp [g], rfl⟩
    · rw [normB_len (by omega)]
      go_enter Tryd.func17, Tryd.ntmps17
      go_wp2
      go_ret
      exact ⟨rfl, rfl⟩
  · rw [normB_len (by omega)]
    go_enter Tryd.func17, Tryd.ntmps17
    go_wp2
    go_ret
    exact ⟨rfl, rfl⟩
end Go.Proofs.YtmhpgkfaihcmeaaDoor
namespace Go.Proofs.YtmhpgkfaihcmeaaDoor
open Go.RowKit
set_option linter.unusedVariables false

/-- One symbol more is counted. -/
def bump (cs : List Int) (z : Int) : List Int := cs.set z.toNat (cs.getD z.toNat 0 + 1)
theorem bump_len (cs : List Int) (z : Int) : (bump cs z).length = cs.length := by simp [bump]
theorem bump_rng {cs : List Int} {z : Int} {m : Int} (h : ∀ c ∈ cs, 0 ≤ c ∧ c ≤ m) (hm : 0 ≤ m) : ∀ c ∈ bump cs z, 0 ≤ c ∧ c ≤ m + 1 := by
  intro c hc
  have hg : 0 ≤ cs.getD z.toNat 0 ∧ cs.getD z.toNat 0 ≤ m := by
    rw [List.getD_eq_getElem?_getD]
    by_cases hi : z.toNat < cs.length
    · rw [List.getElem?_eq_getElem hi]; exact h _ (List.getElem_mem hi)
    · rw [List.getElem?_eq_none (by omega)]; simp; omega
  rcases List.mem_or_eq_of_mem_set hc with hc | rfl
  · have := h c hc; omega
  · omega
end Go.Proofs.YtmhpgkfaihcmeaaDoor
