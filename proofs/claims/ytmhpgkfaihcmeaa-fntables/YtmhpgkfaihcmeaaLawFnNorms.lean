/-
  The law on Norm of drawn counts returns true, whatever is handed in, and writes nothing that was there.
-/
import Derived.Test.YtmhpgkfaihcmeaaDrNorm
import Derived.Test.YtmhpgkfaihcmeaaINormM
import Derived.Test.YtmhpgkfaihcmeaaSameI
namespace Go.Proofs.Ytmhpgkfaihcmeaa
open Go.RowKit
set_option linter.unusedVariables false

theorem below_dF (w : World) (n : Nat) : Below w.heap.size w (w.drewN n) := ⟨rfl, rfl, rfl, Nat.le_refl _, fun _ _ => rfl⟩
theorem below_dR {B : Nat} {a b : World} (h : Below B a b) (n : Nat) : Below B a (b.drewN n) := ⟨h.os, h.tape, h.output, h.size, h.block⟩
theorem one_sum : sumF one [3, 0, 1] = 2 := by decide
theorem one_room : roomy [3, 0, 1] := by unfold roomy; rw [one_sum]; omega
theorem one_cnt : cntB [3, 0, 1] = true := by decide
theorem one_shares : shares [3, 0, 1] (rest [3, 0, 1]) = [48, 0, 16] := by decide +kernel
theorem ne_pos {x y : Int} (h : 0 < x ↔ 0 < y) : (decide (0 < x) != decide (0 < y)) = false := by
  by_cases c : 0 < x
  · simp [c, h.1 c]
  · have : ¬ 0 < y := fun h' => c (h.2 h')
    simp [c, this]

set_option maxHeartbeats 4000000 in
theorem lawFnNorms_any (a : Option Addr) (cap : Nat) (bs : List Int) (w : World) (hb : Byt w a bs) (hm : bs.length ≤ maxLen) :
    Calls Try.prog 3 #[.slice a bs.length cap] w fun e w' => e = .returned (.bool true) ∧ Below w.heap.size w w' := by
  go_enter Try.func3, Try.ntmps3
  go_wp2_with fail
  refine (drawNorm_any a bs cap w hb hm).mono ?_
  rintro e w1 ⟨n, g, rfl, hn1, hn2, ⟨cs, hrow, hcl, hcr⟩, hb1⟩
  have HB1 : Hid (Below w.heap.size w w1) := hb1
  have HC1 : Hid (OwI w1 w.heap.size g n cs) := hrow
  have HCL : Hid (cs.length = n) := hcl
  have HCB : Hid (cntB cs = true) := by
    simp only [Hid, cntB, decide_eq_true_eq]
    exact ⟨by omega, by omega, fun z hz => by have := hcr z hz; omega⟩
  have HC0 : Hid (∀ i, i < cs.length → 0 ≤ cs.getD i 0) := fun i hi => (hcr _ (getD_mem hi)).1
  clear hb1 hrow hcl hcr
  have HN1 := implNorm_ok (some ⟨g, 0, none⟩) n cs w1 HC1.out.byt HCB.out
  rw [HCL.out] at HN1
  go_wp2_with fail
  refine HN1.mono ?_
  clear HN1
  rintro e w2 ⟨hb2, hno, hyes⟩
  have HB2 : Hid (Below w.heap.size w w2) := HB1.out.trans (hb2.mono HB1.out.size)
  have HC2 : Hid (OwI w2 w.heap.size g n cs) := HC1.out.below hb2 (Nat.le_refl _)
  have HIN : Hid (∀ T, Ins (w2.alloc (.cells #[.int .i64 3, .int .i64 0, .int .i64 1] T)) (some ⟨w2.heap.size, 0, none⟩) [3, 0, 1]) := fun T => by
    have := ins_newN w2 T [3, 0, 1] (by intro z hz; simp at hz; omega)
    simpa using this
  clear hb2 HB1 HC1
  generalize w1.heap.size = U at *
  by_cases hr : roomy cs
  · obtain ⟨rfl, ho2⟩ := hyes hr
    have HO2 : Hid (OwI w2 U U n (shares cs (rest cs))) := ho2
    have hs := some1_of hr.1
    have HFA : Hid (Fair cs (shares cs (rest cs)) (rest cs)) := fair_all hs _
    have HMO : Hid (Mono cs (shares cs (rest cs))) := mono_all hs HC0.out _
    have HNB : Hid (normB (shares cs (rest cs)) = true) := shares_norm HCB.out hr
    clear ho2 hs hno hyes
    generalize shares cs (rest cs) = ns at *
    generalize rest cs = j at *
    go_wp2_with fail
    refine (implNorm_ok (some ⟨w2.heap.size, 0, none⟩) 3 [3, 0, 1] _ (HIN.out _) one_cnt).mono ?_
    rintro e w3 ⟨hb3, -, hy3⟩
    obtain ⟨rfl, ho3⟩ := hy3 one_room
    rw [one_shares] at ho3
    have HO3 : Hid (Ins w3 (some ⟨w2.heap.size + 1, 0, none⟩) [48, 0, 16]) := by simpa [Hid] using ho3.byt
    have hb23 : Below w2.heap.size w2 w3 := ((Below.refl w2.heap.size w2).alloc (Nat.le_refl _) _).trans (hb3.mono (by simp))
    have HB3 : Hid (Below w.heap.size w w3) := HB2.out.trans (hb23.mono HB2.out.size)
    have HC3 : Hid (OwI w3 w.heap.size g n cs) := HC2.out.below hb23 (Nat.le_refl _)
    have HN3 : Hid (OwI w3 U U n ns) := HO2.out.below hb23 (Nat.le_refl _)
    have HIN2 : Hid (∀ T, Ins (w3.alloc (.cells #[.int .i64 48, .int .i64 0, .int .i64 16] T)) (some ⟨w3.heap.size, 0, none⟩) [48, 0, 16]) := fun T => by
      have := ins_newN w3 T [48, 0, 16] (by intro z hz; simp at hz; omega)
      simpa using this
    clear ho3 hb3 HIN hb23 HO2 HC2 hy3
    go_wp2_with fail
    refine (sameInts_yes _ _ _ _ [48, 0, 16] _ (HO3.out.alloc _) (HIN2.out _) (by simp)).mono ?_
    rintro e w4 ⟨rfl, n4, rfl⟩
    have HB4 : Hid (Below w.heap.size w ((w3.alloc (.cells #[.int .i64 48, .int .i64 0, .int .i64 16] 3)).drewN n4)) := (HB3.out.alloc HB3.out.size _).trans (below_dF _ _ |>.mono (by have := HB3.out.size; simp; omega))
    have HC4 : Hid (OwI ((w3.alloc (.cells #[.int .i64 48, .int .i64 0, .int .i64 16] 3)).drewN n4) w.heap.size g n cs) := (HC3.out.alloc _).drewN n4
    have HN4 : Hid (OwI ((w3.alloc (.cells #[.int .i64 48, .int .i64 0, .int .i64 16] 3)).drewN n4) U U n ns) := (HN3.out.alloc _).drewN n4
    clear HO3 HB3 HIN2 HC3 HN3
    generalize (w3.alloc (.cells #[.int .i64 48, .int .i64 0, .int .i64 16] 3)).drewN n4 = w4 at *
    have HNL : Hid (ns.length = n) := HFA.out.1.trans HCL.out
    go_wp2
    go_loopw [8] (fun i wr => ∃ k m : Nat, k ≤ n ∧ i = .int .i64 k ∧ wr = w4.drewN m) (fun i _ => n - (intOf i).toNat)
    case atStart => exact ⟨0, 0, Nat.zero_le _, rfl, rfl⟩
    case round =>
      obtain ⟨k, m, hk, rfl, rfl⟩ := hrel
      by_cases hlt : k < n
      · have c1 : w4.cell? ⟨g, k, none⟩ = some (.int .i64 (cs.getD k 0)) := HC4.out.cell k (by rw [HCL.out]; exact hlt)
        have c2 : w4.cell? ⟨U, k, none⟩ = some (.int .i64 (ns.getD k 0)) := HN4.out.cell k (by rw [HNL.out]; exact hlt)
        have hfk := HFA.out.2 k (by rw [HCL.out]; exact hlt)
        have hiff : 0 < ns.getD k 0 ↔ 0 < cs.getD k 0 := by
          constructor
          · intro h
            by_cases c : 0 < cs.getD k 0
            · exact c
            · have := hfk.2 c; omega
          · intro h; have := hfk.1 h; omega
        have HMK : Hid (∀ q, q < n → cs.getD q 0 < cs.getD k 0 → ns.getD q 0 ≤ ns.getD k 0) := fun q hq h => HMO.out k q (by rw [HCL.out]; exact hlt) (by rw [HCL.out]; exact hq) h
        have HIF : Hid (0 < ns.getD k 0 ↔ 0 < cs.getD k 0) := hiff
        clear hfk hiff
        generalize hx : cs.getD k 0 = x at *
        generalize hy : ns.getD k 0 = y at *
        clear hx hy
        obtain ⟨b, hbx, hby⟩ : ∃ b : Bool, decide (0 < x) = b ∧ decide (0 < y) = b := ⟨_, rfl, decide_eq_decide.2 HIF.out⟩
        have hbb : (b != b) = false := by simp
        go_wp2
        go_quiet (fail)
        go_wp2
        go_loopw [9] (fun i wr => ∃ q m : Nat, q ≤ n ∧ i = .int .i64 q ∧ wr = w4.drewN m) (fun i _ => n - (intOf i).toNat)
        case atStart => exact ⟨0, m + nq, Nat.zero_le _, rfl, by simp⟩
        case round =>
          obtain ⟨q, m2, hq, rfl, rfl⟩ := hrel
          by_cases hqlt : q < n
          · have c3 : w4.cell? ⟨g, q, none⟩ = some (.int .i64 (cs.getD q 0)) := HC4.out.cell q (by rw [HCL.out]; exact hqlt)
            have c4 : w4.cell? ⟨U, q, none⟩ = some (.int .i64 (ns.getD q 0)) := HN4.out.cell q (by rw [HNL.out]; exact hqlt)
            have hmk := HMK.out q hqlt
            generalize cs.getD q 0 = u at *
            generalize ns.getD q 0 = v at *
            by_cases hux : u < x
            · have hvy := hmk hux
              clear hmk
              go_wp2
              go_quiet (fail)
              go_wp2
              go_roundw
              case rel => exact ⟨q + 1, _, by omega, by go_num, rfl⟩
              case measure => simp [intOf]; omega
            · have hd1 : decide (u < x) = false := by simpa using hux
              clear hmk hux
              go_wp2
              go_quiet (fail)
              go_wp2
              go_roundw
              case rel => exact ⟨q + 1, _, by omega, by go_num, rfl⟩
              case measure => simp [intOf]; omega
          · go_wp2
            go_roundw
            case rel => exact ⟨k + 1, _, by omega, by go_num, rfl⟩
            case measure => simp [intOf]; omega
      · have hkn : k = n := by omega
        subst hkn
        have HCC := implNormOk_any (some ⟨U, 0, none⟩) k ns (w4.drewN m) HN4.out.byt (by rw [HNL.out]; omega)
        rw [HNL.out, HNB.out] at HCC
        have hkk : ((k : Int) == (k : Int)) = true := by simp
        go_wp2_with fail
        refine HCC.mono ?_
        rintro e w5 ⟨rfl, rfl⟩
        go_wp2
        go_ret
        exact ⟨rfl, below_dR HB4.out _⟩
  · obtain rfl := hno hr
    clear hno hyes
    go_wp2_with fail
    refine (implNorm_ok (some ⟨w2.heap.size, 0, none⟩) 3 [3, 0, 1] _ (HIN.out _) one_cnt).mono ?_
    rintro e w3 ⟨hb3, -, hy3⟩
    obtain ⟨rfl, ho3⟩ := hy3 one_room
    rw [one_shares] at ho3
    have HO3 : Hid (Ins w3 (some ⟨w2.heap.size + 1, 0, none⟩) [48, 0, 16]) := by simpa [Hid] using ho3.byt
    have hb23 : Below w2.heap.size w2 w3 := ((Below.refl w2.heap.size w2).alloc (Nat.le_refl _) _).trans (hb3.mono (by simp))
    have HB3 : Hid (Below w.heap.size w w3) := HB2.out.trans (hb23.mono HB2.out.size)
    have HIN2 : Hid (∀ T, Ins (w3.alloc (.cells #[.int .i64 48, .int .i64 0, .int .i64 16] T)) (some ⟨w3.heap.size, 0, none⟩) [48, 0, 16]) := fun T => by
      have := ins_newN w3 T [48, 0, 16] (by intro z hz; simp at hz; omega)
      simpa using this
    clear ho3 hb3 HIN hb23 HC2 hy3
    go_wp2_with fail
    refine (sameInts_yes _ _ _ _ [48, 0, 16] _ (HO3.out.alloc _) (HIN2.out _) (by simp)).mono ?_
    rintro e w4 ⟨rfl, n4, rfl⟩
    have HB4 : Hid (Below w.heap.size w ((w3.alloc (.cells #[.int .i64 48, .int .i64 0, .int .i64 16] 3)).drewN n4)) := (HB3.out.alloc HB3.out.size _).trans (below_dF _ _ |>.mono (by have := HB3.out.size; simp; omega))
    clear HO3 HB3 HIN2
    generalize (w3.alloc (.cells #[.int .i64 48, .int .i64 0, .int .i64 16] 3)).drewN n4 = w4 at *
    go_wp2
    go_ret
    exact ⟨rfl, HB4.out⟩
end Go.Proofs.Ytmhpgkfaihcmeaa
