/-
  The program's symbolsByLength.
-/
import Derived.Test.YtiiaffkhnahofaaDoorIApp
import Derived.Test.YtiiaffkhnahofaaDoorIList
namespace Go.Proofs.YtiiaffkhnahofaaDoor
open Go.RowKit
set_option linter.unusedVariables false

/-- The symbols below i that have the length L, in order. -/
def atL (zs : List Int) (L i : Nat) : List Int := ((List.range i).filter (fun s => decide (zs.getD s 0 = (L : Int)))).map (fun s => ((s : Nat) : Int))
/-- The symbols of the lengths 1 .. l. -/
def sbL (zs : List Int) : Nat → List Int
  | 0 => []
  | l + 1 => sbL zs l ++ atL zs (l + 1) zs.length
theorem atL_zero (zs : List Int) (L : Nat) : atL zs L 0 = [] := by simp [atL]
theorem atL_yes (zs : List Int) (L i : Nat) (h : zs.getD i 0 = (L : Int)) : atL zs L (i + 1) = atL zs L i ++ [(i : Int)] := by
  unfold atL
  rw [List.range_succ, List.filter_append, List.map_append]
  congr 1
  rw [List.filter_cons_of_pos (by simpa using h)]
  simp
theorem atL_no (zs : List Int) (L i : Nat) (h : ¬ zs.getD i 0 = (L : Int)) : atL zs L (i + 1) = atL zs L i := by
  unfold atL
  rw [List.range_succ, List.filter_append, List.map_append]
  rw [List.filter_cons_of_neg (by simpa using h)]
  simp
theorem atL_len (zs : List Int) (L i : Nat) : (atL zs L i).length ≤ i := by
  unfold atL
  rw [List.length_map]
  have := List.length_filter_le (fun s => decide (zs.getD s 0 = (L : Int))) (List.range i)
  simpa using this
theorem sbL_len (zs : List Int) (l : Nat) : (sbL zs l).length ≤ l * zs.length := by
  induction l with
  | zero => simp [sbL]
  | succ l ih =>
    have := atL_len zs (l + 1) zs.length
    simp only [sbL, List.length_append, Nat.add_mul]
    omega
theorem atL_mem (zs : List Int) (L i : Nat) : ∀ z ∈ atL zs L i, ∃ s : Nat, z = s ∧ s < i ∧ zs.getD s 0 = (L : Int) := by
  intro z hz
  simp only [atL, List.mem_map, List.mem_filter, List.mem_range, decide_eq_true_eq] at hz
  obtain ⟨s, ⟨h1, h2⟩, rfl⟩ := hz
  exact ⟨s, rfl, h1, h2⟩
theorem sbL_mem (zs : List Int) (l : Nat) : ∀ z ∈ sbL zs l, ∃ s : Nat, z = s ∧ s < zs.length ∧ 1 ≤ zs.getD s 0 ∧ zs.getD s 0 ≤ (l : Int) := by
  induction l with
  | zero => simp [sbL]
  | succ l ih =>
    intro z hz
    simp only [sbL, List.mem_append] at hz
    rcases hz with hz | hz
    · obtain ⟨s, h1, h2, h3, h4⟩ := ih z hz
      exact ⟨s, h1, h2, h3, by omega⟩
    · obtain ⟨s, h1, h2, h3⟩ := atL_mem _ _ _ z hz
      exact ⟨s, h1, h2, by omega, by omega⟩

set_option maxHeartbeats 3200000 in
theorem syms_any (a : Option Addr) (cap : Nat) (zs : List Int) (w : World) (hb : Ins w a zs) (hn : zs.length ≤ 80) :
    Calls Tryd.prog 64 #[.slice a zs.length cap] w fun e w' =>
      ∃ a' cp, e = .returned (.slice a' (sbL zs 12).length cp) ∧ MinI w' w.heap.size w'.heap.size a' cp (sbL zs 12) ∧ Below w.heap.size w w' := by
  obtain ⟨i0, hi, hz0, hz1, hz2⟩ := info_parts Tryd.infoI64
  have HSB : Hid (∀ l, sbL zs (l + 1) = sbL zs l ++ atL zs (l + 1) zs.length) := fun _ => rfl
  have HSL : Hid _ := sbL_len zs
  have HAY : Hid _ := atL_yes zs
  have HAN : Hid _ := atL_no zs
  have HAZ : Hid _ := atL_zero zs
  have HAL : Hid _ := atL_len zs
  generalize hlen : zs.length = n at *
  have HL : Hid (zs.length = n) := hlen
  clear hlen
  go_enter Tryd.func64, Tryd.ntmps64
  go_wp2
  go_loopw [3, 4] (fun o l wr => ∃ (M : Nat) (y : Int), y = M ∧ 1 ≤ M ∧ M ≤ 13 ∧ l = .int .i64 y ∧ OVI wr w.heap.size o (sbL zs (M - 1)) ∧ Below w.heap.size w wr) (fun _ l _ => 13 - (intOf l).toNat)
  case atStart => exact ⟨1, 1, rfl, by omega, by omega, rfl, OVI.nil _ _, Below.refl _ _⟩
  case round =>
    obtain ⟨M, y, hy, hM1, hM, rfl, hov, hbel⟩ := hrel
    obtain ⟨ao, co, rfl⟩ := hov.form
    have hsl := HSL.out (M - 1)
    have hlb : (M - 1) * n ≤ 12 * 80 := Nat.mul_le_mul (by omega) hn
    have hm : (sbL zs (M - 1)).length ≤ 960 := by omega
    have HOV : Hid (OVI wr w.heap.size (.slice ao (sbL zs (M - 1)).length co) (sbL zs (M - 1))) := hov
    clear hov hsl hlb
    have HMY : Hid (y = (M : Int)) := hy
    have HM1 : Hid (1 ≤ M ∧ M ≤ 13) := ⟨hM1, hM⟩
    have hy1 : 1 ≤ y ∧ y ≤ 13 := by omega
    clear hy hM1 hM
    by_cases hL12 : y ≤ 12
    · have HB0 : Hid (Below w.heap.size w wr) := hbel
      have HMS : Hid (sbL zs (M + 1 - 1) = sbL zs (M - 1) ++ atL zs M n) := by
        obtain ⟨l, rfl⟩ : ∃ l, M = l + 1 := ⟨M - 1, by have := HM1.out; omega⟩
        exact HSB.out l
      clear hbel
      generalize sbL zs (M - 1) = q0 at *
      generalize hm0 : q0.length = m0 at *
      have HM0 : Hid (q0.length = m0) := hm0
      clear hm0
      go_wp2
      go_loopw [3, 13] (fun o i wi => ∃ k : Nat, k ≤ n ∧ i = .int .i64 k ∧ OVI wi w.heap.size o (q0 ++ atL zs M k) ∧ Below w.heap.size w wi) (fun _ i _ => n - (intOf i).toNat)
      case atStart => exact ⟨0, Nat.zero_le _, rfl, by rw [HAZ.out, List.append_nil]; exact HOV.out, HB0.out⟩
      case round =>
        clear HOV HB0
        obtain ⟨k, hk, rfl, hov, hbel⟩ := hrel
        by_cases hlt : k < n
        · obtain ⟨b1, o1, rfl, hb1, hc1⟩ := (hb.below hbel (Nat.le_refl _)).len_pos k (by rw [HL.out]; exact hlt)
          have hs1 := hc1 k (by rw [HL.out]; exact hlt)
          have g1 := getD_rngI hb.1 k
          have hal := HAL.out M k
          have HY := HAY.out M k
          have HN := HAN.out M k
          obtain ⟨au, cu, rfl⟩ := hov.form
          have hsz := hbel.size
          clear hc1
          generalize zs.getD k 0 = x at *
          have hlen2 : (q0 ++ atL zs M k).length ≤ 2000 := by rw [List.length_append, HM0.out]; omega
          clear hal
          generalize hq : q0 ++ atL zs M k = q at *
          by_cases hx : x = y
          · have HE : Hid (q ++ [(k : Int)] = q0 ++ atL zs M (k + 1)) := by unfold Hid; rw [HY (hx.trans HMY.out), ← List.append_assoc, hq]
            have HQR : Hid (∀ z ∈ q, -9223372036854775808 ≤ z ∧ z ≤ 9223372036854775807) := hov.2
            have hu := hov.1
            have HOV : Hid (OVI wr w.heap.size (.slice au q.length cu) q) := hov
            clear HY HN hq hov
            subst hx
            generalize hql : q.length = m at *
            have HQL : Hid (q.length = m) := hql
            clear hql
            go_wp2_with (at_builtin; (refine wpList_append_lies _ rfl (.tmp 21) (.tmp 23) 22 rfl w.heap.size 3 i0 (.int .i64 0) 1 8 Tryd.underlying22 hi hz0 hz1 hz2 rfl (by decide) (.slice au m cu) m (q.map (Value.int .i64)) rfl (hu.alloc _) ⟨wr.heap.size, 0, none⟩ 1 1 [.int .i64 (k : Nat)] rfl rfl (by intro j y hj; match j, hj with | 0, hj => (simp at hj; subst hj; simp [Addr.add])) (by intro y hy; simp at hy; subst hy; rfl) (by omega) (by unfold maxLen; omega) (by omega) (by simp; omega) _ rfl ?_); intro g cap1 w1 hown hgrow hat hlt1)
            have HOV2 : Hid (OVI w1 w.heap.size (.slice (some ⟨g, 0, none⟩) (m + 1) cap1) (q ++ [(k : Int)])) := OVI.app HQL.out HQR.out (by omega) hown
            have HB2 : Hid (Below w.heap.size w w1) := app_below hbel hsz HOV.out hgrow
            clear hown hgrow hat hlt1 HOV hu hbel
            go_roundw
            case rel => exact ⟨k + 1, by omega, by go_num, by rw [← HE.out]; exact HOV2.out, HB2.out⟩
            case measure => simp [intOf]; omega
          · have HE : Hid (q = q0 ++ atL zs M (k + 1)) := by unfold Hid; rw [HN (fun h => hx (h.trans HMY.out.symm)), hq]
            have hxx : (x == y) = false := by simpa using hx
            have HOV : Hid _ := hov
            clear HY HN hq hov hx
            go_wp2
            go_roundw
            case rel => exact ⟨k + 1, by omega, by go_num, by rw [← HE.out]; exact HOV.out, hbel⟩
            case measure => simp [intOf]; omega
        · have hkn : k = n := by omega
          subst hkn
          obtain ⟨au, cu, rfl⟩ := hov.form
          have HOV : Hid _ := hov
          clear hov
          go_wp2
          go_roundw
          case rel => exact ⟨M + 1, y + 1, by have := HMY.out; omega, by omega, by have := HMY.out; omega, by go_num, by rw [HMS.out]; exact HOV.out, hbel⟩
          case measure => simp [intOf]; omega
    · have hLe : M = 13 := by have := HMY.out; have := HM1.out; omega
      subst hLe
      have HOV2 : Hid (OVI wr w.heap.size (.slice ao (sbL zs (13 - 1)).length co) (sbL zs 12)) := HOV.out
      clear HOV
      go_wp2
      go_ret
      obtain ⟨a', cp, he, hmm⟩ := HOV2.out.mine
      exact ⟨a', cp, congrArg Ending.returned he, hmm, hbel⟩
end Go.Proofs.YtiiaffkhnahofaaDoor
