/-
  The law on Counts of drawn texts returns true, whatever is handed in, and writes nothing that was there.
-/
import Derived.Test.YtopiagckbmdneaaDrCounts
import Derived.Test.YtopiagckbmdneaaICountsI
import Derived.Test.YtopiagckbmdneaaICntI
import Derived.Test.YtopiagckbmdneaaSameI
namespace Go.Proofs.Ytopiagckbmdneaa
open Go.RowKit
set_option linter.unusedVariables false

theorem sum_set (cs : List Int) (i : Nat) (v : Int) (h : i < cs.length) : (cs.set i v).sum = cs.sum - cs.getD i 0 + v := by
  induction cs generalizing i with
  | nil => simp at h
  | cons c cs ih =>
    cases i with
    | zero => simp; omega
    | succ i =>
      have := ih i (by simpa using h)
      simp only [List.set_cons_succ, List.sum_cons, this]
      simp
      omega
theorem cnts_sum {zs : List Int} {n : Nat} (h : txtB zs n = true) (k : Nat) (hk : k ≤ zs.length) : (cnts (zs.take k) n).sum = k := by
  induction k with
  | zero => simp [cnts]
  | succ k ih =>
    have h1 := ih (by omega)
    have h2 := txtB_get h k (by omega)
    rw [← cnts_take_succ zs n k (by omega)]
    unfold bump
    rw [sum_set _ _ _ (by rw [cnts_len]; omega), h1]
    simp
    omega
theorem cnts_ok {zs : List Int} {n : Nat} (h : txtB zs n = true) : cntB (cnts zs n) = true := by
  obtain ⟨h1, h2, h3⟩ := txtB_bnd h
  simp only [cntB, decide_eq_true_eq]
  rw [cnts_len]
  refine ⟨by omega, by omega, fun z hz => ?_⟩
  have := cnts_rng zs n z hz
  omega
theorem sum_takes (cs : List Int) (k : Nat) (h : k < cs.length) : (cs.take (k + 1)).sum = (cs.take k).sum + cs.getD k 0 := by
  rw [List.take_succ_eq_append_getElem h, List.sum_append]
  simp [List.getD_eq_getElem?_getD, List.getElem?_eq_getElem h]
theorem sum_le {cs : List Int} {m : Int} (h : ∀ c ∈ cs, 0 ≤ c ∧ c ≤ m) (k : Nat) (hk : k ≤ cs.length) : 0 ≤ (cs.take k).sum ∧ (cs.take k).sum ≤ m * k := by
  induction k with
  | zero => simp
  | succ k ih =>
    have h1 := ih (by omega)
    have h2 := h _ (getD_mem (zs := cs) (k := k) (by omega))
    rw [sum_takes cs k (by omega), show m * ((k + 1 : Nat) : Int) = m * k + m from by rw [Int.natCast_add, Int.mul_add]; simp]
    omega
theorem below_dF (w : World) (n : Nat) : Below w.heap.size w (w.drewN n) := ⟨rfl, rfl, rfl, Nat.le_refl _, fun _ _ => rfl⟩

set_option maxHeartbeats 4000000 in
theorem lawFnCounts_any (a : Option Addr) (cap : Nat) (bs : List Int) (w : World) (hb : Byt w a bs) (hm : bs.length ≤ maxLen) :
    Calls Try.prog 3 #[.slice a bs.length cap] w fun e w' => e = .returned (.bool true) ∧ Below w.heap.size w w' := by
  have T1 : txtB [2, 0, 2] ((3 : Nat) : Int) = true := by decide
  have T2 : cnts [2, 0, 2] 3 = [1, 0, 2] := by decide
  go_enter Try.func3, Try.ntmps3
  go_wp2_with fail
  refine (drawCounts_any a bs cap w hb hm).mono ?_
  rintro e w1 ⟨a1, c1, l, m, rfl, hm1, hl, hx1, hx2, hb1⟩
  have HB1 : Hid (Below w.heap.size w w1) := hb1
  have HI1 : Hid (Ins w1 a1 l) := hm1.byt
  clear hb1 hm1
  cases ht : txtB l m with
  | false =>
    have HT : Hid (txtB l m = false) := ht
    clear ht
    go_wp2_with fail
    refine (implCounts_no a1 c1 l m w1 HI1.out (by omega) HT.out).mono ?_
    rintro e w2 ⟨rfl, rfl⟩
    have HIN : Hid (∀ T, Ins (w2.alloc (.cells #[.int .i64 2, .int .i64 0, .int .i64 2] T)) (some ⟨w2.heap.size, 0, none⟩) [2, 0, 2]) := fun T => by
      have := ins_new w2 T [2, 0, 2] (by intro z hz; simp at hz; omega)
      simpa using this
    go_wp2_with fail
    refine (implCounts_yes (some ⟨w2.heap.size, 0, none⟩) 3 [2, 0, 2] 3 _ (HIN.out _) T1).mono ?_
    rintro e w3 ⟨rfl, ho3, hb3⟩
    rw [T2] at ho3
    have HO3 : Hid (Ins w3 (some ⟨w2.heap.size + 1, 0, none⟩) [1, 0, 2]) := by simpa [Hid] using ho3.byt
    have HB3 : Hid (Below w.heap.size w w3) := HB1.out.trans (((Below.refl w2.heap.size w2).alloc (Nat.le_refl _) _).trans (hb3.mono (by simp)) |>.mono HB1.out.size)
    have HIN2 : Hid (∀ T, Ins (w3.alloc (.cells #[.int .i64 1, .int .i64 0, .int .i64 2] T)) (some ⟨w3.heap.size, 0, none⟩) [1, 0, 2]) := fun T => by
      have := ins_new w3 T [1, 0, 2] (by intro z hz; simp at hz; omega)
      simpa using this
    clear ho3 hb3 HIN
    go_wp2_with fail
    refine (sameInts_yes _ _ _ _ [1, 0, 2] _ (HO3.out.alloc _) (HIN2.out _) (by simp)).mono ?_
    rintro e w4 ⟨rfl, n4, rfl⟩
    have HB4 : Hid (Below w.heap.size w ((w3.alloc (.cells #[.int .i64 1, .int .i64 0, .int .i64 2] 3)).drewN n4)) := (HB3.out.alloc HB3.out.size _).trans (below_dF _ _ |>.mono (by have := HB3.out.size; simp; omega))
    clear HO3 HB3 HIN2
    generalize (w3.alloc (.cells #[.int .i64 1, .int .i64 0, .int .i64 2] 3)).drewN n4 = w4 at *
    go_wp2
    go_ret
    exact ⟨rfl, HB4.out⟩
  | true =>
    obtain ⟨h1, h2, h3⟩ := txtB_bnd ht
    obtain ⟨n, rfl⟩ : ∃ n : Nat, m = n := ⟨m.toNat, by omega⟩
    have HT : Hid (txtB l n = true) := ht
    have HCS : Hid _ := cnts_sum ht l.length (Nat.le_refl _)
    rw [List.take_length] at HCS
    have HCK : Hid _ := cnts_ok ht
    have HCL : Hid _ := cnts_len l n
    have HCR : Hid _ := cnts_rng l n
    clear ht
    go_wp2_with fail
    refine (implCounts_yes a1 c1 l n w1 HI1.out HT.out).mono ?_
    rintro e w2 ⟨rfl, ho2, hb2⟩
    have HB2 : Hid (Below w.heap.size w w2) := HB1.out.trans (hb2.mono HB1.out.size)
    have HO2 : Hid (OwI w2 w1.heap.size w1.heap.size n (cnts l n)) := ho2
    have HIN : Hid (∀ T, Ins (w2.alloc (.cells #[.int .i64 2, .int .i64 0, .int .i64 2] T)) (some ⟨w2.heap.size, 0, none⟩) [2, 0, 2]) := fun T => by
      have := ins_new w2 T [2, 0, 2] (by intro z hz; simp at hz; omega)
      simpa using this
    clear ho2 hb2 HB1 HI1
    generalize w1.heap.size = U at *
    go_wp2_with fail
    refine (implCounts_yes (some ⟨w2.heap.size, 0, none⟩) 3 [2, 0, 2] 3 _ (HIN.out _) T1).mono ?_
    rintro e w3 ⟨rfl, ho3, hb3⟩
    rw [T2] at ho3
    have HO3 : Hid (Ins w3 (some ⟨w2.heap.size + 1, 0, none⟩) [1, 0, 2]) := by simpa [Hid] using ho3.byt
    have hb23 : Below w2.heap.size w2 w3 := ((Below.refl w2.heap.size w2).alloc (Nat.le_refl _) _).trans (hb3.mono (by simp))
    have HB3 : Hid (Below w.heap.size w w3) := HB2.out.trans (hb23.mono HB2.out.size)
    have HO23 : Hid (OwI w3 U U n (cnts l n)) := HO2.out.below hb23 (Nat.le_refl _)
    have HIN2 : Hid (∀ T, Ins (w3.alloc (.cells #[.int .i64 1, .int .i64 0, .int .i64 2] T)) (some ⟨w3.heap.size, 0, none⟩) [1, 0, 2]) := fun T => by
      have := ins_new w3 T [1, 0, 2] (by intro z hz; simp at hz; omega)
      simpa using this
    clear ho3 hb3 HIN hb23 HO2
    go_wp2_with fail
    refine (sameInts_yes _ _ _ _ [1, 0, 2] _ (HO3.out.alloc _) (HIN2.out _) (by simp)).mono ?_
    rintro e w4 ⟨rfl, n4, rfl⟩
    have HB4 : Hid (Below w.heap.size w ((w3.alloc (.cells #[.int .i64 1, .int .i64 0, .int .i64 2] 3)).drewN n4)) := (HB3.out.alloc HB3.out.size _).trans (below_dF _ _ |>.mono (by have := HB3.out.size; simp; omega))
    have HO4 : Hid (OwI ((w3.alloc (.cells #[.int .i64 1, .int .i64 0, .int .i64 2] 3)).drewN n4) U U n (cnts l n)) := (HO23.out.alloc _).drewN n4
    clear HO3 HB3 HIN2 HO23
    generalize (w3.alloc (.cells #[.int .i64 1, .int .i64 0, .int .i64 2] 3)).drewN n4 = w4 at *
    have HLL : Hid (l.length ≤ 300) := by unfold Hid; omega
    generalize hcs : cnts l n = cs at *
    clear hcs
    generalize hll : l.length = L at *
    clear hll
    have hn80 : n ≤ 80 := by omega
    go_wp2
    go_loop [9, 10] (fun x i => ∃ k : Nat, k ≤ n ∧ i = .int .i64 k ∧ x = .int .i64 (cs.take k).sum) (fun _ i => n - (intOf i).toNat)
    case atStart => exact ⟨0, Nat.zero_le _, rfl, by simp⟩
    case round =>
      obtain ⟨k, hk, rfl, rfl⟩ := hrel
      have hsl := sum_le HCR.out k (by rw [HCL.out]; exact hk)
      have hLk : (L : Int) * k ≤ 300 * 80 := by
        have h5 := HLL.out
        have : L * k ≤ 300 * 80 := Nat.mul_le_mul h5 (by omega)
        have e : ((L * k : Nat) : Int) = (L : Int) * k := by simp
        omega
      have hsb : 0 ≤ (cs.take k).sum ∧ (cs.take k).sum ≤ 24000 := by omega
      clear hsl hLk
      by_cases hlt : k < n
      · have hs1 := HO4.out.cell k (by rw [HCL.out]; exact hlt)
        have hx := HCR.out _ (getD_mem (zs := cs) (k := k) (by rw [HCL.out]; exact hlt))
        have h5 := HLL.out
        have HS : Hid _ := sum_takes cs k (by rw [HCL.out]; exact hlt)
        generalize cs.getD k 0 = x at *
        generalize (cs.take k).sum = F at *
        go_wp2
        go_round
        case rel => exact ⟨k + 1, by omega, by go_num, by rw [HS.out]⟩
        case measure => simp [intOf]; omega
      · have hkn : k = n := by omega
        subst hkn
        have e : cs.take k = cs := List.take_of_length_le (by rw [HCL.out]; exact Nat.le_refl _)
        rw [e, HCS.out]
        clear e hsb
        have HCC := implCnt_any (some ⟨U, 0, none⟩) k cs w4 HO4.out.byt (by rw [HCL.out]; omega)
        rw [HCL.out, HCK.out] at HCC
        have hkk : ((k : Int) == (k : Int)) = true := by simp
        have hLL : ((L : Int) == (L : Int)) = true := by simp
        go_wp2_with fail
        refine HCC.mono ?_
        rintro e w5 ⟨rfl, rfl⟩
        go_wp2
        go_ret
        exact ⟨rfl, HB4.out⟩
end Go.Proofs.Ytopiagckbmdneaa
