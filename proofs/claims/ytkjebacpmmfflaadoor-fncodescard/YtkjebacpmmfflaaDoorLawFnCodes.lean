/-
  The law on Codes of drawn lengths returns true, whatever is handed in, and writes nothing that was there.
-/
import Derived.Test.YtkjebacpmmfflaaDoorDrCd
import Derived.Test.YtkjebacpmmfflaaDoorCdP
import Derived.Test.YtkjebacpmmfflaaDoorCodes4I
import Derived.Test.YtkjebacpmmfflaaDoorSameI
import Derived.Test.YtkjebacpmmfflaaDoorILens2
namespace Go.Proofs.YtkjebacpmmfflaaDoor
open Go.RowKit
set_option linter.unusedVariables false

theorem csv_122 : (crun [1, 2, 2] (sbL [1, 2, 2] 12)).2.2 = [0, 2, 3] := by decide +kernel
theorem lens_122 : lensB [1, 2, 2] = true := by decide +kernel
theorem codes122_any (a : Option Addr) (c : Nat) (w : World) (hb : Ins w a [1, 2, 2]) (h4 : Four w) (hE : ErrT w) :
    Calls Tryd.prog 16 #[.slice a 3 c] w fun e w' => ∃ g, e = .returned (.tuple #[.slice (some ⟨g, 0, none⟩) 3 3, .bool true]) ∧ OwI w' w.heap.size g 3 [0, 2, 3] ∧ Below w.heap.size w w' := by
  have h := implCodes_yes a c [1, 2, 2] w hb lens_122 h4 hE
  rw [csv_122] at h
  exact h
theorem below_dC (w : World) (n : Nat) : Below w.heap.size w (w.drewN n) := ⟨rfl, rfl, rfl, Nat.le_refl _, fun _ _ => rfl⟩
theorem below_dC2 {B : Nat} {a b : World} (h : Below B a b) (n : Nat) : Below B a (b.drewN n) := ⟨h.os, h.tape, h.output, h.size, h.block⟩

set_option maxHeartbeats 8000000 in
theorem lawFnCodes_any (a : Option Addr) (cap : Nat) (bs : List Int) (w : World) (hb : Byt w a bs) (hm : bs.length ≤ maxLen) (h4 : Four w) (hE : ErrT w) :
    Calls Tryd.prog 6 #[.slice a bs.length cap] w fun e w' => e = .returned (.bool true) ∧ Below w.heap.size w w' := by
  have H4 : Hid (Four w ∧ ErrT w) := ⟨h4, hE⟩
  clear h4 hE
  go_enter Tryd.func6, Tryd.ntmps6
  go_wp2_with fail
  refine (drawCodes_any a bs cap w hb hm).mono ?_
  rintro e w1 ⟨n, g, c, ls, rfl, hll, hlb, hrl, hb1⟩
  have HB1 : Hid (Below w.heap.size w w1) := hb1
  have HL1 : Hid (OwI w1 w.heap.size g c ls) := hrl
  have HCL : Hid (ls.length = n ∧ True) := ⟨hll, trivial⟩
  have hn1 : 1 ≤ n := by have := hlb.1; omega
  have hn2 : n ≤ 81 := by have := hlb.2.1; omega
  have hf4 := H4.out.1.below hb1
  have hfE := H4.out.2.below hb1
  clear hb1 hrl hll hlb
  by_cases hok : lensB ls = true
  · have HN1 := implCodes_yes (some ⟨g, 0, none⟩) c ls w1 HL1.out.byt hok hf4 hfE
    rw [HCL.out.1] at HN1
    have HFR : Hid (∀ i k, i < n → k < n → 0 < ls.getD i 0 → ls.getD i 0 ≤ ls.getD k 0 → i ≠ k → ((csv ls).getD k 0 / 2 ^ (ls.getD k 0 - ls.getD i 0).toNat == (csv ls).getD i 0) = false) := fun i k hi hk h0 hle hne => by
      simp only [lensB, decide_eq_true_eq] at hok
      have r1 := hok.2.2.1 _ (getD_mem (zs := ls) (k := i) (by rw [HCL.out.1]; exact hi))
      have r2 := hok.2.2.1 _ (getD_mem (zs := ls) (k := k) (by rw [HCL.out.1]; exact hk))
      have := csv_free (zs := ls) (L := (ls.getD i 0).toNat) (M := (ls.getD k 0).toNat) (i := i) (k := k) (by omega) (by omega) (by omega) (by rw [HCL.out.1]; exact hi) (by rw [HCL.out.1]; exact hk) (by omega) (by omega) hne
      rw [show (ls.getD k 0).toNat - (ls.getD i 0).toNat = (ls.getD k 0 - ls.getD i 0).toNat by omega] at this
      simpa using this
    have HRG : Hid (∀ i, i < n → 0 ≤ ls.getD i 0 ∧ ls.getD i 0 ≤ 12) := fun i hi => by
      simp only [lensB, decide_eq_true_eq] at hok
      exact hok.2.2.1 _ (getD_mem (by rw [HCL.out.1]; exact hi))
    have HCV : Hid ((csv ls).length = n ∧ True) := ⟨(crun_len ls _).trans HCL.out.1, trivial⟩
    change Calls _ _ _ _ (fun e w' => ∃ g, e = .returned (.tuple #[.slice (some ⟨g, 0, none⟩) n n, .bool true]) ∧ OwI w' w1.heap.size g n (csv ls) ∧ Below w1.heap.size w1 w') at HN1
    clear hok hf4 hfE
    generalize csv ls = cv at *
    go_wp2_with fail
    refine HN1.mono ?_
    clear HN1
    rintro e w2 ⟨g2, rfl, ho2, hb2⟩
    have HB2 : Hid (Below w.heap.size w w2) := HB1.out.trans (hb2.mono HB1.out.size)
    have HL2 : Hid (OwI w2 w.heap.size g c ls) := HL1.out.below hb2 (Nat.le_refl _)
    have HC2 : Hid (OwI w2 w1.heap.size g2 n cv) := ho2
    have HIN : Hid (∀ T, Ins (w2.alloc (.cells #[.int .i64 1, .int .i64 2, .int .i64 2] T)) (some ⟨w2.heap.size, 0, none⟩) [1, 2, 2]) := fun T => by
      have := ins_newN w2 T [1, 2, 2] (by intro z hz; simp at hz; omega)
      simpa using this
    clear hb2 HB1 HL1 ho2
    go_wp2_with fail
    have hba : Below w.heap.size w (w2.alloc (.cells #[.int .i64 1, .int .i64 2, .int .i64 2] 3)) := HB2.out.alloc HB2.out.size _
    refine (codes122_any (some ⟨w2.heap.size, 0, none⟩) 3 _ (HIN.out _) (H4.out.1.below hba) (H4.out.2.below hba)).mono ?_
    rintro e w3 ⟨g3, rfl, ho3, hb3⟩
    have HO3 : Hid (Ins w3 (some ⟨g3, 0, none⟩) [0, 2, 3]) := ho3.byt
    have hb23 : Below w2.heap.size w2 w3 := ((Below.refl w2.heap.size w2).alloc (Nat.le_refl _) _).trans (hb3.mono (by simp))
    have HB3 : Hid (Below w.heap.size w w3) := HB2.out.trans (hb23.mono HB2.out.size)
    have HL3 : Hid (OwI w3 w.heap.size g c ls) := HL2.out.below hb23 (Nat.le_refl _)
    have HC3 : Hid (OwI w3 w1.heap.size g2 n cv) := HC2.out.below hb23 (Nat.le_refl _)
    have HIN2 : Hid (∀ T, Ins (w3.alloc (.cells #[.int .i64 0, .int .i64 2, .int .i64 3] T)) (some ⟨w3.heap.size, 0, none⟩) [0, 2, 3]) := fun T => by
      have := ins_newN w3 T [0, 2, 3] (by intro z hz; simp at hz; omega)
      simpa using this
    clear ho3 hb3 HIN hb23 hba HL2 HC2 HB2
    go_wp2_with fail
    refine (sameInts_yes _ _ _ _ [0, 2, 3] _ (HO3.out.alloc _) (HIN2.out _) (by simp)).mono ?_
    rintro e w4 ⟨rfl, n4, rfl⟩
    have HB4 : Hid (Below w.heap.size w ((w3.alloc (.cells #[.int .i64 0, .int .i64 2, .int .i64 3] 3)).drewN n4)) := (HB3.out.alloc HB3.out.size _).trans (below_dC _ _ |>.mono (by have := HB3.out.size; simp; omega))
    have HL4 : Hid (OwI ((w3.alloc (.cells #[.int .i64 0, .int .i64 2, .int .i64 3] 3)).drewN n4) w.heap.size g c ls) := (HL3.out.alloc _).drewN n4
    have HC4 : Hid (OwI ((w3.alloc (.cells #[.int .i64 0, .int .i64 2, .int .i64 3] 3)).drewN n4) w1.heap.size g2 n cv) := (HC3.out.alloc _).drewN n4
    clear HO3 HB3 HIN2 HL3 HC3
    generalize (w3.alloc (.cells #[.int .i64 0, .int .i64 2, .int .i64 3] 3)).drewN n4 = w4 at *
    go_wp2
    go_loopw [8] (fun i wr => ∃ k m : Nat, k ≤ n ∧ i = .int .i64 k ∧ wr = w4.drewN m) (fun i _ => n - (intOf i).toNat)
    case atStart => exact ⟨0, 0, Nat.zero_le _, rfl, rfl⟩
    case round =>
      obtain ⟨i, m, hi, rfl, rfl⟩ := hrel
      by_cases hlt : i < n
      · go_wp2
        go_loopw [9] (fun i wr => ∃ q m : Nat, q ≤ n ∧ i = .int .i64 q ∧ wr = w4.drewN m) (fun i _ => n - (intOf i).toNat)
        case atStart => exact ⟨0, m, Nat.zero_le _, rfl, rfl⟩
        case round =>
          obtain ⟨q, m2, hq, rfl, rfl⟩ := hrel
          by_cases hqlt : q < n
          · by_cases hiq : i = q
            · subst hiq
              have hd0 : ((i : Int) != (i : Int)) = false := by simp
              go_wp2
              go_quiet (fail)
              go_wp2
              go_roundw
              case rel => exact ⟨i + 1, _, by omega, by go_num, rfl⟩
              case measure => simp [intOf]; omega
            · have hd0 : ((i : Int) != (q : Int)) = true := by rw [bne_iff_ne]; omega
              have hiqI : ¬ (i : Int) = (q : Int) := by omega
              have c1 : w4.cell? ⟨g, i, none⟩ = some (.int .i64 (ls.getD i 0)) := HL4.out.cell i (by rw [HCL.out.1]; exact hlt)
              have c2 : w4.cell? ⟨g, q, none⟩ = some (.int .i64 (ls.getD q 0)) := HL4.out.cell q (by rw [HCL.out.1]; exact hqlt)
              have c3 : w4.cell? ⟨g2, i, none⟩ = some (.int .i64 (cv.getD i 0)) := HC4.out.cell i (by rw [HCV.out.1]; exact hlt)
              have c4 : w4.cell? ⟨g2, q, none⟩ = some (.int .i64 (cv.getD q 0)) := HC4.out.cell q (by rw [HCV.out.1]; exact hqlt)
              have hf := HFR.out i q hlt hqlt
              obtain ⟨r1, r2⟩ := HRG.out i hlt
              obtain ⟨r3, r4⟩ := HRG.out q hqlt
              generalize ls.getD i 0 = x at *
              generalize ls.getD q 0 = y at *
              generalize cv.getD i 0 = u at *
              generalize cv.getD q 0 = v at *
              by_cases hx0 : 0 < x
              · have hd1 : decide (0 < x) = true := by simpa using hx0
                by_cases hxy : x ≤ y
                · have hd2 : decide (x ≤ y) = true := by simpa using hxy
                  have hd3 := hf hx0 hxy hiq
                  have hs0 : 0 ≤ y - x := by omega
                  have hsw : wrap64 (y - x) = y - x := IntWalk.wrap64_in _ (by omega)
                  clear hf
                  go_wp2
                  go_quiet (fail)
                  go_wp2
                  go_roundw
                  case rel => exact ⟨q + 1, _, by omega, by go_num, rfl⟩
                  case measure => simp [intOf]; omega
                · have hd2 : decide (x ≤ y) = false := by simpa using hxy
                  clear hf
                  go_wp2
                  go_quiet (fail)
                  go_wp2
                  go_roundw
                  case rel => exact ⟨q + 1, _, by omega, by go_num, rfl⟩
                  case measure => simp [intOf]; omega
              · have hd1 : decide (0 < x) = false := by simpa using hx0
                clear hf
                go_wp2
                go_quiet (fail)
                go_wp2
                go_roundw
                case rel => exact ⟨q + 1, _, by omega, by go_num, rfl⟩
                case measure => simp [intOf]; omega
          · go_wp2
            go_roundw
            case rel => exact ⟨i + 1, _, by omega, by go_num, rfl⟩
            case measure => simp [intOf]; omega
      · go_wp2
        go_ret
        exact ⟨rfl, below_dC2 HB4.out _⟩
  · have HNO : Hid (lensB ls = false ∧ True) := ⟨by simpa using hok, trivial⟩
    have HN1 := implCodes_no (some ⟨g, 0, none⟩) c ls w1 HL1.out.byt (by rw [HCL.out.1]; omega) HNO.out.1 hf4 hfE
    rw [HCL.out.1] at HN1
    clear hok hf4 hfE
    go_wp2_with fail
    refine HN1.mono ?_
    clear HN1
    rintro e w2 ⟨rfl, hb2⟩
    have HB2 : Hid (Below w.heap.size w w2) := HB1.out.trans (hb2.mono HB1.out.size)
    have HL2 : Hid (OwI w2 w.heap.size g c ls) := HL1.out.below hb2 (Nat.le_refl _)
    have HIN : Hid (∀ T, Ins (w2.alloc (.cells #[.int .i64 1, .int .i64 2, .int .i64 2] T)) (some ⟨w2.heap.size, 0, none⟩) [1, 2, 2]) := fun T => by
      have := ins_newN w2 T [1, 2, 2] (by intro z hz; simp at hz; omega)
      simpa using this
    clear hb2 HB1 HL1
    go_wp2_with fail
    have hba : Below w.heap.size w (w2.alloc (.cells #[.int .i64 1, .int .i64 2, .int .i64 2] 3)) := HB2.out.alloc HB2.out.size _
    refine (codes122_any (some ⟨w2.heap.size, 0, none⟩) 3 _ (HIN.out _) (H4.out.1.below hba) (H4.out.2.below hba)).mono ?_
    rintro e w3 ⟨g3, rfl, ho3, hb3⟩
    have HO3 : Hid (Ins w3 (some ⟨g3, 0, none⟩) [0, 2, 3]) := ho3.byt
    have hb23 : Below w2.heap.size w2 w3 := ((Below.refl w2.heap.size w2).alloc (Nat.le_refl _) _).trans (hb3.mono (by simp))
    have HB3 : Hid (Below w.heap.size w w3) := HB2.out.trans (hb23.mono HB2.out.size)
    have HL3 : Hid (OwI w3 w.heap.size g c ls) := HL2.out.below hb23 (Nat.le_refl _)
    have HIN2 : Hid (∀ T, Ins (w3.alloc (.cells #[.int .i64 0, .int .i64 2, .int .i64 3] T)) (some ⟨w3.heap.size, 0, none⟩) [0, 2, 3]) := fun T => by
      have := ins_newN w3 T [0, 2, 3] (by intro z hz; simp at hz; omega)
      simpa using this
    clear ho3 hb3 HIN hb23 hba HL2 HB2
    go_wp2_with fail
    refine (sameInts_yes _ _ _ _ [0, 2, 3] _ (HO3.out.alloc _) (HIN2.out _) (by simp)).mono ?_
    rintro e w4 ⟨rfl, n4, rfl⟩
    have HB4 : Hid (Below w.heap.size w ((w3.alloc (.cells #[.int .i64 0, .int .i64 2, .int .i64 3] 3)).drewN n4)) := (HB3.out.alloc HB3.out.size _).trans (below_dC _ _ |>.mono (by have := HB3.out.size; simp; omega))
    have HL4 : Hid (OwI ((w3.alloc (.cells #[.int .i64 0, .int .i64 2, .int .i64 3] 3)).drewN n4) w.heap.size g c ls) := (HL3.out.alloc _).drewN n4
    clear HO3 HB3 HIN2 HL3
    generalize (w3.alloc (.cells #[.int .i64 0, .int .i64 2, .int .i64 3] 3)).drewN n4 = w4 at *
    have HSP := specLens_any (some ⟨g, 0, none⟩) c ls w4 HL4.out.byt (by rw [HCL.out.1]; omega)
    rw [HCL.out.1, HNO.out.1] at HSP
    go_wp2_with fail
    refine HSP.mono ?_
    clear HSP
    rintro e w5 ⟨rfl, hw5⟩
    subst hw5
    go_wp2
    go_ret
    exact ⟨rfl, HB4.out⟩
end Go.Proofs.YtkjebacpmmfflaaDoor
