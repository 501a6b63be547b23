/-
  What a text is, for the program; counting its symbols.
-/
import Derived.Test.YtecmnbdnnlifhaaDoorIBump
namespace Go.Proofs.YtecmnbdnnlifhaaDoor
open Go.RowKit
set_option linter.unusedVariables false

/-- A text over n symbols. -/
def txtB (zs : List Int) (n : Int) : Bool := decide (1 ≤ n ∧ n ≤ 80 ∧ zs.length ≤ 300 ∧ ∀ z ∈ zs, 0 ≤ z ∧ z < n)

theorem txtB_bad {zs : List Int} {n : Int} {k : Nat} (hk : k < zs.length) (h : ¬ (0 ≤ zs.getD k 0 ∧ zs.getD k 0 < n)) : txtB zs n = false := by
  simp only [txtB, decide_eq_false_iff_not]
  exact fun h' => h (h'.2.2.2 _ (getD_mem hk))
theorem txtB_all {zs : List Int} {n : Int} (h1 : 1 ≤ n) (h2 : n ≤ 80) (h3 : zs.length ≤ 300) (h : ∀ z ∈ zs.take zs.length, 0 ≤ z ∧ z < n) : txtB zs n = true := by
  rw [List.take_length] at h
  simp only [txtB, decide_eq_true_eq]
  exact ⟨h1, h2, h3, h⟩
theorem txtB_len {zs : List Int} {n : Int} (h : ¬ (1 ≤ n ∧ n ≤ 80 ∧ zs.length ≤ 300)) : txtB zs n = false := by
  simp only [txtB, decide_eq_false_iff_not]
  exact fun h' => h ⟨h'.1, h'.2.1, h'.2.2.1⟩

set_option maxHeartbeats 800000 in
theorem implTxt_any (a : Option Addr) (cap : Nat) (zs : List Int) (s : Int) (w : World) (hb : Ins w a zs) (hn : zs.length ≤ 281474976710656) :
    Calls Tryd.prog 40 #[.slice a zs.length cap, .int .i64 s] w fun e w' => e = .returned (.bool (txtB zs s)) ∧ w' = w := by
  by_cases h : 1 ≤ s ∧ s ≤ 80 ∧ zs.length ≤ 300
  · obtain ⟨h1, h2, h5⟩ := h
    generalize hlen : zs.length = n at *
    have HL : Hid (zs.length = n) := hlen
    clear hlen
    go_enter Tryd.func40, Tryd.ntmps40
    go_wp2
    go_loop [20] (fun i => ∃ k : Nat, k ≤ n ∧ i = .int .i64 k ∧ ∀ z ∈ zs.take k, 0 ≤ z ∧ z < s) (fun i => n - (intOf i).toNat)
    case atStart => exact ⟨0, Nat.zero_le _, rfl, by simp⟩
    case round =>
      obtain ⟨k, hk, rfl, htk⟩ := hrel
      have HT : Hid (∀ z ∈ zs.take k, 0 ≤ z ∧ z < s) := htk
      clear htk
      by_cases hlt : k < n
      · obtain ⟨b1, o1, rfl, hb1, hc1⟩ := hb.len_pos k (by rw [HL.out]; exact hlt)
        have hs1 := hc1 k (by rw [HL.out]; exact hlt)
        have g1 := getD_rngI hb.1 k
        clear hc1 hb
        generalize hx : zs.getD k 0 = x at *
        have HX : Hid (zs.getD k 0 = x) := hx
        clear hx
        by_cases h3 : 0 ≤ x
        · by_cases h4 : x < s
          · have HT' : Hid (∀ z ∈ zs.take (k + 1), 0 ≤ z ∧ z < s) := all_take_succ HT.out (by rw [HL.out]; exact hlt) (by rw [HX.out]; exact ⟨h3, h4⟩)
            go_wp2
            go_round
            case rel => exact ⟨k + 1, by omega, by go_num, HT'.out⟩
            case measure => simp [intOf]; omega
          · have HN : Hid (txtB zs s = false) := txtB_bad (by rw [HL.out]; exact hlt) (by rw [HX.out]; omega)
            go_wp2
            go_ret
            exact ⟨by simp [HN.out], rfl⟩
        · have HN : Hid (txtB zs s = false) := txtB_bad (by rw [HL.out]; exact hlt) (by rw [HX.out]; omega)
          go_wp2
          go_ret
          exact ⟨by simp [HN.out], rfl⟩
      · have hkn : k = n := by omega
        subst hkn
        have HE : Hid (txtB zs s = true) := txtB_all h1 h2 (by rw [HL.out]; exact h5) (by rw [HL.out]; exact HT.out)
        go_wp2
        go_ret
        exact ⟨by simp [HE.out], rfl⟩
  · rw [txtB_len h]
    go_enter Tryd.func40, Tryd.ntmps40
    by_cases c1 : s < 1
    · go_wp2
      go_ret
      exact ⟨rfl, rfl⟩
    · by_cases c2 : 80 < s
      · go_wp2
        go_ret
        exact ⟨rfl, rfl⟩
      · have c3 : 300 < zs.length := by omega
        go_wp2
        go_ret
        exact ⟨rfl, rfl⟩

/-- All symbols counted. -/
def cnts (zs : List Int) (n : Nat) : List Int := zs.foldl bump (List.replicate n 0)

theorem cnts_len (zs : List Int) (n : Nat) : (cnts zs n).length = n := by
  unfold cnts
  have : ∀ (zs cs : List Int), (zs.foldl bump cs).length = cs.length := by
    intro zs
    induction zs with
    | nil => intro cs; rfl
    | cons z zs ih => intro cs; rw [List.foldl_cons, ih, bump_len]
  rw [this]
  simp
theorem cnts_rng (zs : List Int) (n : Nat) : ∀ c ∈ cnts zs n, 0 ≤ c ∧ c ≤ zs.length := by
  have : ∀ (zs cs : List Int) (m : Int), 0 ≤ m → (∀ c ∈ cs, 0 ≤ c ∧ c ≤ m) → ∀ c ∈ zs.foldl bump cs, 0 ≤ c ∧ c ≤ m + zs.length := by
    intro zs
    induction zs with
    | nil => intro cs m _ h; simpa using h
    | cons z zs ih =>
      intro cs m hm h c hc
      have := ih (bump cs z) (m + 1) (by omega) (bump_rng h hm) c (by simpa using hc)
      simp only [List.length_cons]
      omega
  intro c hc
  have := this zs (List.replicate n 0) 0 (by omega) (by simp) c hc
  omega
theorem cnts_take_succ (zs : List Int) (n k : Nat) (h : k < zs.length) : bump (cnts (zs.take k) n) (zs.getD k 0) = cnts (zs.take (k + 1)) n := by
  unfold cnts
  rw [List.take_succ_eq_append_getElem h, List.foldl_append]
  simp [List.getD_eq_getElem?_getD, List.getElem?_eq_getElem h]
theorem txtB_get {zs : List Int} {n : Int} (h : txtB zs n = true) (k : Nat) (hk : k < zs.length) : 0 ≤ zs.getD k 0 ∧ zs.getD k 0 < n := by
  simp only [txtB, decide_eq_true_eq] at h
  exact h.2.2.2 _ (getD_mem hk)
theorem txtB_bnd {zs : List Int} {n : Int} (h : txtB zs n = true) : 1 ≤ n ∧ n ≤ 80 ∧ zs.length ≤ 300 := by
  simp only [txtB, decide_eq_true_eq] at h
  exact ⟨h.1, h.2.1, h.2.2.1⟩
end Go.Proofs.YtecmnbdnnlifhaaDoor
