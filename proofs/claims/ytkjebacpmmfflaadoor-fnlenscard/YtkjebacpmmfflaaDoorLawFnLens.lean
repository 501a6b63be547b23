/-
  The law on Lens of drawn counts returns true, whatever is handed in, and writes nothing that was there.
-/
import Derived.Test.YtkjebacpmmfflaaDoorDrLn
import Derived.Test.YtkjebacpmmfflaaDoorLnN
import Derived.Test.YtkjebacpmmfflaaDoorPmB
import Derived.Test.YtkjebacpmmfflaaDoorSameI
import Derived.Test.YtkjebacpmmfflaaDoorILens3
namespace Go.Proofs.YtkjebacpmmfflaaDoor
open Go.RowKit
set_option linter.unusedVariables false

theorem lensV_511 : lensV [5, 1, 1] 4 = [1, 2, 2] := by decide +kernel
theorem coins_511 : (coinsS [5, 1, 1]).length = 3 := by decide +kernel
theorem ok_511 : lensOkB [5, 1, 1] ((4 : Nat) : Int) := ⟨by decide, by decide, by decide, by rw [coins_511]; decide, by rw [coins_511]; decide⟩
theorem lens511_any (a : Option Addr) (c : Nat) (w : World) (hb : Ins w a [5, 1, 1]) :
    Calls Tryd.prog 9 #[.slice a 3 c, .int .i64 4] w fun e w' => (∃ g, e = .returned (.tuple #[.slice (some ⟨g, 0, none⟩) 3 3, .bool true]) ∧ OwI w' w.heap.size g 3 [1, 2, 2]) ∧ Below w.heap.size w w' := by
  have h := implLens_yes a c [5, 1, 1] 4 w hb ok_511
  rw [lensV_511] at h
  exact h
/-- What the law asks of lengths. -/
structure LnsOk (cs ls : List Int) (n : Nat) (x : Int) : Prop where
  cl : cs.length = n
  ll : ls.length = n
  ok : lensB ls = true
  le : ∀ i, i < n → ls.getD i 0 ≤ x
  iff_ : ∀ i, i < n → (0 < ls.getD i 0 ↔ 0 < cs.getD i 0)
  less : ∀ i k, i < n → k < n → cs.getD k 0 < cs.getD i 0 → 0 < cs.getD k 0 → ls.getD i 0 ≤ ls.getD k 0
theorem lnsOk {cs : List Int} {n L : Nat} (hn : cs.length = n) (h : lensOkB cs (L : Int)) : LnsOk cs (lensV cs L) n L := by
  obtain ⟨hc, h1, h2, h3, h4⟩ := h
  rw [Int.toNat_natCast] at h4
  obtain ⟨lm, hF, -⟩ := lens_facts hc (L := L) (by omega) h3 h4
  have hc0 := hc
  simp only [cntB, decide_eq_true_eq] at hc0
  subst hn
  refine ⟨rfl, lensV_len _ _, hF.okB hc (by omega) h3, fun i hi => ?_, fun i hi => ?_, fun i k hi hk a1 a2 => hF.less hc0.2.1 i k hi hk a1 a2⟩
  · obtain ⟨r1, r2⟩ := hF.rng i hi
    by_cases hp : 0 < cs.getD i 0
    · obtain ⟨k, _, _, e, _, e2⟩ := r1 hp; omega
    · have := r2 hp; omega
  · obtain ⟨r1, r2⟩ := hF.rng i hi
    by_cases hp : 0 < cs.getD i 0
    · obtain ⟨k, _, _, e, e1, e2⟩ := r1 hp; omega
    · have := r2 hp; omega
theorem below_dF (w : World) (n : Nat) : Below w.heap.size w (w.drewN n) := ⟨rfl, rfl, rfl, Nat.le_refl _, fun _ _ => rfl⟩
theorem below_dR {B : Nat} {a b : World} (h : Below B a b) (n : Nat) : Below B a (b.drewN n) := ⟨h.os, h.tape, h.output, h.size, h.block⟩

set_option maxHeartbeats 8000000 in
theorem lawFnLens_any (a : Option Addr) (cap : Nat) (bs : List Int) (w : World) (hb : Byt w a bs) (hm : bs.length ≤ maxLen) (h4 : Four w) (hE : ErrT w) :
    Calls Tryd.prog 3 #[.slice a bs.length cap] w fun e w' => e = .returned (.bool true) ∧ Below w.heap.size w w' := by
  have H4 : Hid (Four w ∧ ErrT w) := ⟨h4, hE⟩
  clear h4 hE
  go_enter Tryd.func3, Tryd.ntmps3
  go_wp2_with fail
  refine (drawLens_any a bs cap w hb hm).mono ?_
  rintro e w1 ⟨n, g, x, rfl, hn1, hn2, ⟨cs, hrow, hcl, hcr⟩, hx1, hx2, hb1⟩
  have HB1 : Hid (Below w.heap.size w w1) := hb1
  have HC1 : Hid (OwI w1 w.heap.size g n cs) := hrow
  have HCL : Hid (cs.length = n ∧ True) := ⟨hcl, trivial⟩
  clear hb1 hrow hcl hcr
  by_cases hok : lensOkB cs x
  · obtain ⟨L, rfl⟩ : ∃ L : Nat, x = (L : Int) := ⟨x.toNat, by omega⟩
    have HN1 := implLens_yes (some ⟨g, 0, none⟩) n cs L w1 HC1.out.byt hok
    have HF : Hid (LnsOk cs (lensV cs L) n L) := lnsOk HCL.out.1 hok
    rw [HCL.out.1] at HN1
    clear hok
    generalize lensV cs L = ls at *
    go_wp2_with fail
    refine HN1.mono ?_
    clear HN1
    rintro e w2 ⟨⟨g2, rfl, ho2⟩, hb2⟩
    have HB2 : Hid (Below w.heap.size w w2) := HB1.out.trans (hb2.mono HB1.out.size)
    have HC2 : Hid (OwI w2 w.heap.size g n cs) := HC1.out.below hb2 (Nat.le_refl _)
    have HL2 : Hid (OwI w2 w1.heap.size g2 n ls) := ho2
    have HIN : Hid (∀ T, Ins (w2.alloc (.cells #[.int .i64 5, .int .i64 1, .int .i64 1] T)) (some ⟨w2.heap.size, 0, none⟩) [5, 1, 1]) := fun T => by
      have := ins_newN w2 T [5, 1, 1] (by intro z hz; simp at hz; omega)
      simpa using this
    clear hb2 HB1 HC1 ho2
    go_wp2_with fail
    refine (lens511_any (some ⟨w2.heap.size, 0, none⟩) 3 _ (HIN.out _)).mono ?_
    rintro e w3 ⟨⟨g3, rfl, ho3⟩, hb3⟩
    have HO3 : Hid (Ins w3 (some ⟨g3, 0, none⟩) [1, 2, 2]) := ho3.byt
    have hb23 : Below w2.heap.size w2 w3 := ((Below.refl w2.heap.size w2).alloc (Nat.le_refl _) _).trans (hb3.mono (by simp))
    have HB3 : Hid (Below w.heap.size w w3) := HB2.out.trans (hb23.mono HB2.out.size)
    have HC3 : Hid (OwI w3 w.heap.size g n cs) := HC2.out.below hb23 (Nat.le_refl _)
    have HL3 : Hid (OwI w3 w1.heap.size g2 n ls) := HL2.out.below hb23 (Nat.le_refl _)
    have HIN2 : Hid (∀ T, Ins (w3.alloc (.cells #[.int .i64 1, .int .i64 2, .int .i64 2] T)) (some ⟨w3.heap.size, 0, none⟩) [1, 2, 2]) := fun T => by
      have := ins_newN w3 T [1, 2, 2] (by intro z hz; simp at hz; omega)
      simpa using this
    clear ho3 hb3 HIN hb23 HL2 HC2 HB2
    go_wp2_with fail
    refine (sameInts_yes _ _ _ _ [1, 2, 2] _ (HO3.out.alloc _) (HIN2.out _) (by simp)).mono ?_
    rintro e w4 ⟨rfl, n4, rfl⟩
    have HB4 : Hid (Below w.heap.size w ((w3.alloc (.cells #[.int .i64 1, .int .i64 2, .int .i64 2] 3)).drewN n4)) := (HB3.out.alloc HB3.out.size _).trans (below_dF _ _ |>.mono (by have := HB3.out.size; simp; omega))
    have HC4 : Hid (OwI ((w3.alloc (.cells #[.int .i64 1, .int .i64 2, .int .i64 2] 3)).drewN n4) w.heap.size g n cs) := (HC3.out.alloc _).drewN n4
    have HL4 : Hid (OwI ((w3.alloc (.cells #[.int .i64 1, .int .i64 2, .int .i64 2] 3)).drewN n4) w1.heap.size g2 n ls) := (HL3.out.alloc _).drewN n4
    clear HO3 HB3 HIN2 HC3 HL3
    generalize (w3.alloc (.cells #[.int .i64 1, .int .i64 2, .int .i64 2] 3)).drewN n4 = w4 at *
    go_wp2
    go_loopw [9] (fun i wr => ∃ k m : Nat, k ≤ n ∧ i = .int .i64 k ∧ wr = w4.drewN m) (fun i _ => n - (intOf i).toNat)
    case atStart => exact ⟨0, 0, Nat.zero_le _, rfl, rfl⟩
    case round =>
      obtain ⟨k, m, hk, rfl, rfl⟩ := hrel
      by_cases hlt : k < n
      · have c1 : w4.cell? ⟨g, k, none⟩ = some (.int .i64 (cs.getD k 0)) := HC4.out.cell k (by rw [HF.out.cl]; exact hlt)
        have c2 : w4.cell? ⟨g2, k, none⟩ = some (.int .i64 (ls.getD k 0)) := HL4.out.cell k (by rw [HF.out.ll]; exact hlt)
        have HMK : Hid (∀ q, q < n → cs.getD q 0 < cs.getD k 0 → 0 < cs.getD q 0 → ls.getD k 0 ≤ ls.getD q 0) := fun q hq h1 h2 => HF.out.less k q hlt hq h1 h2
        have hle := HF.out.le k hlt
        have HIF : Hid (0 < ls.getD k 0 ↔ 0 < cs.getD k 0) := HF.out.iff_ k hlt
        generalize hx : cs.getD k 0 = x at *
        generalize hy : ls.getD k 0 = y at *
        clear hx hy
        have hd0 : decide ((L : Int) < y) = false := by simpa using hle
        obtain ⟨b, hbx, hby⟩ : ∃ b : Bool, decide (0 < x) = b ∧ decide (0 < y) = b := ⟨_, rfl, decide_eq_decide.2 HIF.out⟩
        have hbb : (b != b) = false := by simp
        clear hle
        go_wp2
        go_quiet (fail)
        go_wp2
        go_loopw [10] (fun i wr => ∃ q m : Nat, q ≤ n ∧ i = .int .i64 q ∧ wr = w4.drewN m) (fun i _ => n - (intOf i).toNat)
        case atStart => exact ⟨0, m + nq, Nat.zero_le _, rfl, by simp⟩
        case round =>
          obtain ⟨q, m2, hq, rfl, rfl⟩ := hrel
          by_cases hqlt : q < n
          · have c3 : w4.cell? ⟨g, q, none⟩ = some (.int .i64 (cs.getD q 0)) := HC4.out.cell q (by rw [HF.out.cl]; exact hqlt)
            have c4 : w4.cell? ⟨g2, q, none⟩ = some (.int .i64 (ls.getD q 0)) := HL4.out.cell q (by rw [HF.out.ll]; exact hqlt)
            have hmk := HMK.out q hqlt
            generalize cs.getD q 0 = u at *
            generalize ls.getD q 0 = v at *
            by_cases hux : u < x
            · have hd1 : decide (u < x) = true := by simpa using hux
              by_cases hu0 : 0 < u
              · have hvy := hmk hux hu0
                have hd2 : decide (0 < u) = true := by simpa using hu0
                have hd3 : decide (v < y) = false := by simpa using hvy
                clear hmk hux hu0 hvy
                go_wp2
                go_quiet (fail)
                go_wp2
                go_roundw
                case rel => exact ⟨q + 1, _, by omega, by go_num, rfl⟩
                case measure => simp [intOf]; omega
              · have hd2 : decide (0 < u) = false := by simpa using hu0
                clear hmk hux hu0
                go_wp2
                go_quiet (fail)
                go_wp2
                go_roundw
                case rel => exact ⟨q + 1, _, by omega, by go_num, rfl⟩
                case measure => simp [intOf]; omega
            · have hd1 : decide (u < x) = false := by simpa using hux
              clear hmk hux
              go_wp2
              go_quiet (fail)
              go_wp2
              go_roundw
              case rel => exact ⟨q + 1, _, by omega, by go_num, rfl⟩
              case measure => simp [intOf]; omega
          · go_wp2
            go_roundw
            case rel => exact ⟨k + 1, _, by omega, by go_num, rfl⟩
            case measure => simp [intOf]; omega
      · have hkn : k = n := by omega
        subst hkn
        have HCC := implLens_any (some ⟨g2, 0, none⟩) k ls (w4.drewN m) (HL4.out.drewN m).byt (by rw [HF.out.ll]; omega) (H4.out.1.below (below_dR HB4.out m)) (H4.out.2.below (below_dR HB4.out m))
        rw [HF.out.ll, HF.out.ok] at HCC
        have hkk : ((k : Int) == (k : Int)) = true := by simp
        go_wp2_with fail
        refine HCC.mono ?_
        rintro e w5 ⟨rfl, hb5⟩
        have HB5 : Hid (Below w.heap.size w w5) := HB4.out.trans ((below_dF w4 m).mono HB4.out.size |>.trans (hb5.mono HB4.out.size))
        clear hb5 HCC
        go_wp2
        go_ret
        exact ⟨rfl, HB5.out⟩
  · have HN1 := implLens_no (some ⟨g, 0, none⟩) n cs x w1 HC1.out.byt (by rw [HCL.out.1]; omega) hok
    rw [HCL.out.1] at HN1
    clear hok
    go_wp2_with fail
    refine HN1.mono ?_
    clear HN1
    rintro e w2 ⟨rfl, hb2⟩
    have HB2 : Hid (Below w.heap.size w w2) := HB1.out.trans (hb2.mono HB1.out.size)
    have HIN : Hid (∀ T, Ins (w2.alloc (.cells #[.int .i64 5, .int .i64 1, .int .i64 1] T)) (some ⟨w2.heap.size, 0, none⟩) [5, 1, 1]) := fun T => by
      have := ins_newN w2 T [5, 1, 1] (by intro z hz; simp at hz; omega)
      simpa using this
    clear hb2 HB1 HC1
    go_wp2_with fail
    refine (lens511_any (some ⟨w2.heap.size, 0, none⟩) 3 _ (HIN.out _)).mono ?_
    rintro e w3 ⟨⟨g3, rfl, ho3⟩, hb3⟩
    have HO3 : Hid (Ins w3 (some ⟨g3, 0, none⟩) [1, 2, 2]) := ho3.byt
    have hb23 : Below w2.heap.size w2 w3 := ((Below.refl w2.heap.size w2).alloc (Nat.le_refl _) _).trans (hb3.mono (by simp))
    have HB3 : Hid (Below w.heap.size w w3) := HB2.out.trans (hb23.mono HB2.out.size)
    have HIN2 : Hid (∀ T, Ins (w3.alloc (.cells #[.int .i64 1, .int .i64 2, .int .i64 2] T)) (some ⟨w3.heap.size, 0, none⟩) [1, 2, 2]) := fun T => by
      have := ins_newN w3 T [1, 2, 2] (by intro z hz; simp at hz; omega)
      simpa using this
    clear ho3 hb3 HIN hb23 HB2
    go_wp2_with fail
    refine (sameInts_yes _ _ _ _ [1, 2, 2] _ (HO3.out.alloc _) (HIN2.out _) (by simp)).mono ?_
    rintro e w4 ⟨rfl, n4, rfl⟩
    have HB4 : Hid (Below w.heap.size w ((w3.alloc (.cells #[.int .i64 1, .int .i64 2, .int .i64 2] 3)).drewN n4)) := (HB3.out.alloc HB3.out.size _).trans (below_dF _ _ |>.mono (by have := HB3.out.size; simp; omega))
    clear HO3 HB3 HIN2
    generalize (w3.alloc (.cells #[.int .i64 1, .int .i64 2, .int .i64 2] 3)).drewN n4 = w4 at *
    go_wp2
    go_ret
    exact ⟨rfl, HB4.out⟩
end Go.Proofs.YtkjebacpmmfflaaDoor
