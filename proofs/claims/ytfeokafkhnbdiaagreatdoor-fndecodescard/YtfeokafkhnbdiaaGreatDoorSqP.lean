/-
  Words about rows of sequences: letters, a length, a distance.
-/
import Derived.Test.YtfeokafkhnbdiaaGreatDoorTb5
import Derived.Test.YtfeokafkhnbdiaaGreatDoorINorm4
import Derived.Test.YtfeokafkhnbdiaaGreatDoorFp7
import Derived.Below
import Derived.Test.YtfeokafkhnbdiaaGreatDoorICntI
namespace Go.Proofs.YtfeokafkhnbdiaaGreatDoor
open Go.RowKit
set_option linter.unusedVariables false
set_option linter.unusedSimpArgs false

theorem byT_le {zs : List Int} (h : txtB zs 40 = true) (h1 : 1 ≤ zs.length) (n0 : Nat) : nbG (tS zs) n0 40 ≤ n0 + 280 := by
  have := nbG_le (tS_ok h h1).1 n0 40
  omega

set_option maxRecDepth 20000 in
set_option maxHeartbeats 8000000 in
theorem putByTable_any (R B n0 V0 : Nat) (a : Option Addr) (ca : Nat) (zs : List Int) (b : Option Addr) (cb : Nat) (ys : List Int) (m U : Nat) (w0 w : World) (hw : WI w B R n0 V0) (hi : InE w0 B a zs b ys m U) (hbel : Below B w0 w) (hn0 : n0 ≤ 100) :
    Calls Tryz.prog 87 #[.pointer (some ⟨R, 0, none⟩), .slice a zs.length ca, .agg #[.slice b ys.length cb, .int .i64 m]] w fun e w' => e = .returned .nilIface ∧ WI w' B R (byT zs m U n0 V0).1 (byT zs m U n0 V0).2 ∧ Below B w0 w' := by
  have HI : Hid (InE w0 B a zs b ys m U) := hi
  have hle := byT_le hi.ht hi.h1 n0
  obtain ⟨hok1, hok2, hok3⟩ := tS_ok hi.ht hi.h1
  have HTL : Hid (normB (tS zs) = true ∧ shd (tS zs) zs ∧ (tS zs).length = 40 ∧ nbG (tS zs) n0 40 ≤ n0 + 280 ∧ roomy (cnts zs 40)) := ⟨hok1, hok3, hok2, hle, tS_roomy hi.ht hi.h1⟩
  have HWA : Hid (Below w.heap.size w (w.alloc (.cells #[.slice b ys.length cb, .int .i64 m] 40))) := (Below.refl _ _).alloc (Nat.le_refl _) _
  have HQ0 : Hid ((w.alloc (.cells #[.slice b ys.length cb, .int .i64 m] 40)).heap[w.heap.size]? = some (.cells #[.slice b ys.length cb, .int .i64 m] 40 (0, 0))) := heap_alloc_new w _
  have hRlt : R < w.heap.size := by obtain ⟨_, h, _⟩ := hw; exact (Array.getElem?_eq_some_iff.1 h).1
  have hBw : B ≤ w.heap.size := by obtain ⟨_, _, _, _, _, h⟩ := hw; exact h
  have hz2 := hi.h2
  have hm5 := hi.hm
  have HW : Hid (WI (w.alloc (.cells #[.slice b ys.length cb, .int .i64 m] 40)) B R n0 V0 ∧ Below B w0 (w.alloc (.cells #[.slice b ys.length cb, .int .i64 m] 40))) := ⟨hw.stay HWA.out, hbel.trans (HWA.out.mono hBw)⟩
  have hzA : w.heap.size < (w.alloc (.cells #[.slice b ys.length cb, .int .i64 m] 40)).heap.size := by simp
  have HC1 : Calls Tryz.prog 94 #[.slice a zs.length ca, .int .i64 40] (w.alloc (.cells #[.slice b ys.length cb, .int .i64 m] 40)) _ := implCounts_yes a ca zs 40 _ (hi.hs.below HW.out.2 (by have := hi.hB; omega)) hi.ht
  clear hw hi hbel hle hok1 hok2 hok3 HWA
  go_enter Tryz.func87, Tryz.ntmps87
  go_wp2_with fail
  generalize w.alloc (.cells #[.slice b ys.length cb, .int .i64 m] 40) = WA at *
  generalize w.heap.size = Q0 at *
  refine HC1.mono ?_
  clear HC1
  rintro e w1 ⟨rfl, hoc, hb1⟩
  have HL := implNorm_ok (some ⟨WA.heap.size, 0, none⟩) 40 (cnts zs 40) w1 hoc.byt (cnts_cnt (n := 40) HI.out.ht)
  rw [cnts_len] at HL
  have HB1 : Hid (Below WA.heap.size WA w1) := hb1
  clear hoc hb1
  go_wp2_with fail
  refine HL.mono ?_
  clear HL
  rintro e w2 ⟨hb2, -, hyes2⟩
  obtain ⟨rfl, hog⟩ := hyes2 HTL.out.2.2.2.2
  clear hyes2
  have hg := hog.lt
  have hge := HB1.out.size
  generalize w1.heap.size = g at *
  have hgR : g ≠ R := by omega
  have HR2 : Hid (RowT w2 g (tS zs)) := hog.rowT
  have hb02 : Below WA.heap.size WA w2 := HB1.out.trans (hb2.mono hge)
  have HW2 : Hid (WI w2 B R n0 V0 ∧ Below B w0 w2 ∧ w2.heap[Q0]? = some (.cells #[.slice b ys.length cb, .int .i64 m] 40 (0, 0))) := ⟨HW.out.1.stay hb02, HW.out.2.trans (hb02.mono (by omega)), (hb02.block Q0 hzA).trans HQ0.out⟩
  have hQR : Q0 ≠ R := by omega
  have hP1 := putNorm_t g 40 (tS zs) R B n0 V0 w2 HR2.out hgR HW2.out.1 (by omega) HTL.out.1
  rw [HTL.out.2.2.1] at hP1
  clear hog hb2 hb02 HW HQ0 HB1 hg hge hzA
  go_wp2_with fail
  refine hP1.mono ?_
  clear hP1
  rintro e w3 ⟨rfl, hwi3, hb3, hk3⟩
  have HW3 : Hid (WI w3 B R (nbG (tS zs) n0 40) (vbG (tS zs) n0 V0 40) ∧ Below B w0 w3 ∧ RowT w3 g (tS zs) ∧ w3.heap[Q0]? = some (.cells #[.slice b ys.length cb, .int .i64 m] 40 (0, 0))) := ⟨hwi3, HW2.out.2.1.trans hb3, HR2.out.kp hk3 hgR, hk3 Q0 _ _ HW2.out.2.2 (by decide) hQR⟩
  have p1 : w3.cell? ⟨Q0, 1, none⟩ = some (.int .i64 m) := cellR (j := 1) HW3.out.2.2.2 rfl
  have hP2 := HW3.out.1.putPn m 9 (by omega) (by omega) (by have := HTL.out.2.2.2.1; omega)
  clear hwi3 hb3 hk3 HW2 HR2
  go_wp2_with fail
  refine hP2.mono ?_
  clear hP2
  rintro e w4 ⟨rfl, hwi4, hb4, hk4⟩
  have hQ4 := hk4 Q0 _ _ HW3.out.2.2.2 (by decide) hQR
  have HW4 : Hid (RowT w4 g (tS zs)) := HW3.out.2.2.1.kp hk4 hgR
  have q0 : w4.cell? ⟨Q0, 0, none⟩ = some (.slice b ys.length cb) := cellR (j := 0) hQ4 rfl
  have q1 : w4.cell? ⟨Q0, 1, none⟩ = some (.int .i64 m) := cellR (j := 1) hQ4 rfl
  have hR4 : R < w4.heap.size := by obtain ⟨_, h, _⟩ := hwi4; exact (Array.getElem?_eq_some_iff.1 h).1
  have hB4 : B ≤ w4.heap.size := by obtain ⟨_, _, _, _, _, h⟩ := hwi4; exact h
  have HA5 : Hid (Below w4.heap.size w4 (w4.alloc (.cells #[.slice b ys.length cb, .int .i64 m, .int .i64 0] 109))) := (Below.refl _ _).alloc (Nat.le_refl _) _
  have hbw5 : Below B w0 (w4.alloc (.cells #[.slice b ys.length cb, .int .i64 m, .int .i64 0] 109)) := HW3.out.2.1.trans (hb4.trans (HA5.out.mono hB4))
  obtain ⟨pe, hpe⟩ := (HI.out.sE.belowB HI.out.hB hbw5).ov
  have hP3 := pour_w R B w4.heap.size b cb ys (nbG (tS zs) n0 40 + 9) _ m U pe _ (hwi4.stay HA5.out) (heap_alloc_new w4 _) (HI.out.hb.below hbw5 (by have := HI.out.hB; omega)) HI.out.hy HI.out.hU (by have := HTL.out.2.2.2; omega) (by omega) (by have := HTL.out.2.2.2; omega) hB4 (by have := HI.out.sE.hG.2; have := HI.out.hB; omega) HI.out.blk hpe
  have HB5 : Hid (Below B w0 (w4.alloc (.cells #[.slice b ys.length cb, .int .i64 m, .int .i64 0] 109)) ∧ RowT (w4.alloc (.cells #[.slice b ys.length cb, .int .i64 m, .int .i64 0] 109)) g (tS zs) ∧ g ≠ w4.heap.size) := ⟨hbw5, HW4.out.kp (Kp.below (R := R) HA5.out) hgR, by have := HW4.out.lt; omega⟩
  clear hb4 hk4 hwi4 hQ4 HW3 hbw5 hpe HA5 p1 HW4
  go_wp2_with fail
  refine hP3.mono ?_
  clear hP3
  rintro e w6 ⟨rfl, hwi6, hb6, hk6⟩
  obtain ⟨cur, hc1, hc2⟩ := HB5.out.2.1
  have HR6 : Hid (RowT w6 g (tS zs)) := ⟨cur, hk6 g cur _ hc1 (by decide) hgR HB5.out.2.2, hc2⟩
  have HF : Hid (WI w6 B R (nbG (tS zs) n0 40 + 9 + m) (vbG (tS zs) n0 V0 40 + m * 2 ^ nbG (tS zs) n0 40 + U * 2 ^ (nbG (tS zs) n0 40 + 9)) ∧ Below B w0 w6) := ⟨hwi6, HB5.out.1.trans hb6⟩
  have hR6 : R < w6.heap.size := by obtain ⟨_, h, _⟩ := hwi6; exact (Array.getElem?_eq_some_iff.1 h).1
  have hB6 : B ≤ w6.heap.size := by obtain ⟨_, _, _, _, _, h⟩ := hwi6; exact h
  have hP4 := cellsOf_any (some ⟨g, 0, none⟩) 40 (tS zs) w6 (HR6.out.ins (fun z hz => by have := (normB_sum HTL.out.1).2 z hz; omega)) HTL.out.1
  rw [HTL.out.2.2.1] at hP4
  clear hwi6 hb6 hk6 hc1 hc2 HB5 q0 q1
  go_wp2_with fail
  refine hP4.mono ?_
  clear hP4
  rintro e w7 ⟨gt, rfl, hgt, hgc, hb7⟩
  have hP5 := putText_any R B gt (nbG (tS zs) n0 40 + 9 + m) (vbG (tS zs) n0 V0 40 + m * 2 ^ nbG (tS zs) n0 40 + U * 2 ^ (nbG (tS zs) n0 40 + 9)) a ca (tS zs) zs (tT zs) w0 w7 (HF.out.1.stay hb7) hgc (by omega) (tT_ok HI.out.ht HI.out.h1) HI.out.hs HI.out.hB (HF.out.2.trans (hb7.mono hB6)) (by omega) (by have := HTL.out.2.2.2; omega) (fun k hk => by rw [HTL.out.2.2.1]; exact txtB_get HI.out.ht k hk) HI.out.sE.sS (by have := HI.out.sE.hG.1; have := HI.out.hB; omega)
  clear hgc hb7 HF HR6
  go_wp2_with fail
  refine hP5.mono ?_
  clear hP5
  rintro e w8 ⟨hb8, hyes8, -⟩
  obtain ⟨rfl, hwi8⟩ := hyes8 HTL.out.2.1
  have HF : Hid (WI w8 B R (byT zs m U n0 V0).1 (byT zs m U n0 V0).2 ∧ Below B w0 w8) := ⟨hwi8, hb8⟩
  clear hwi8 hb8 hyes8
  go_wp2
  go_ret
  exact ⟨rfl, HF.out⟩
/-- How many letters from a on are those from p on, at most f. -/
def alkF (ys : List Int) (p a : Nat) : Nat → Nat
  | 0 => 0
  | f + 1 => if ys.getD p 0 = ys.getD a 0 then alkF ys (p + 1) (a + 1) f + 1 else 0
def alk (ys : List Int) (p a : Nat) : Nat := alkF ys p a (ys.length - a)
theorem alkF_le (ys : List Int) : ∀ f p a, alkF ys p a f ≤ f
  | 0, p, a => Nat.le_refl _
  | f + 1, p, a => by
    have h := alkF_le ys f (p + 1) (a + 1)
    simp only [alkF]
    split <;> omega
theorem alkF_eq (ys : List Int) : ∀ f p a j, j < alkF ys p a f → ys.getD (p + j) 0 = ys.getD (a + j) 0
  | 0, p, a, j, h => by simp [alkF] at h
  | f + 1, p, a, j, h => by
    simp only [alkF] at h
    split at h
    · rename_i h1
      cases j with
      | zero => exact h1
      | succ j =>
        have := alkF_eq ys f (p + 1) (a + 1) j (by omega)
        rw [show p + (j + 1) = p + 1 + j by omega, show a + (j + 1) = a + 1 + j by omega]
        exact this
    · omega
theorem alkF_end (ys : List Int) : ∀ f p a, alkF ys p a f < f → ys.getD (p + alkF ys p a f) 0 ≠ ys.getD (a + alkF ys p a f) 0
  | 0, p, a, h => by omega
  | f + 1, p, a, h => by
    simp only [alkF] at h ⊢
    split at h
    · rename_i h1
      rw [if_pos h1]
      have := alkF_end ys f (p + 1) (a + 1) (by omega)
      rw [show p + (alkF ys (p + 1) (a + 1) f + 1) = p + 1 + alkF ys (p + 1) (a + 1) f by omega, show a + (alkF ys (p + 1) (a + 1) f + 1) = a + 1 + alkF ys (p + 1) (a + 1) f by omega]
      exact this
    · rename_i h1
      rw [if_neg h1]
      exact h1
theorem alk_le (ys : List Int) (p a : Nat) : alk ys p a ≤ ys.length - a := alkF_le ys _ p a
/-- A number that goes on while letters are alike, and stops, is it. -/
theorem alk_is (ys : List Int) (p a n : Nat) (h1 : a + n ≤ ys.length) (h2 : ∀ j, j < n → ys.getD (p + j) 0 = ys.getD (a + j) 0) (h3 : a + n < ys.length → ys.getD (p + n) 0 ≠ ys.getD (a + n) 0) : alk ys p a = n := by
  rcases Nat.lt_trichotomy (alk ys p a) n with h | h | h
  · exact absurd (h2 _ h) (alkF_end ys _ p a (by show alk ys p a < _; omega))
  · exact h
  · have h4 := alk_le ys p a
    exact absurd (alkF_eq ys _ p a n h) (h3 (by omega))
theorem alk_three (ys : List Int) (p a : Nat) (h : a + 3 ≤ ys.length) : 3 ≤ alk ys p a ↔ (ys.getD p 0 = ys.getD a 0 ∧ ys.getD (p + 1) 0 = ys.getD (a + 1) 0 ∧ ys.getD (p + 2) 0 = ys.getD (a + 2) 0) := by
  constructor
  · intro h1
    exact ⟨alkF_eq ys _ p a 0 (by show 0 < alk ys p a; omega), alkF_eq ys _ p a 1 (by show 1 < alk ys p a; omega), alkF_eq ys _ p a 2 (by show 2 < alk ys p a; omega)⟩
  · rintro ⟨h1, h2, h3⟩
    rcases Nat.lt_or_ge (alk ys p a) 3 with h4 | h4
    · exfalso
      have h5 := alkF_end ys _ p a (show alk ys p a < ys.length - a by omega)
      have h6 : alk ys p a = 0 ∨ alk ys p a = 1 ∨ alk ys p a = 2 := by omega
      change ys.getD (p + alk ys p a) 0 ≠ ys.getD (a + alk ys p a) 0 at h5
      rcases h6 with h6 | h6 | h6 <;> rw [h6] at h5
      · exact h5 h1
      · exact h5 h2
      · exact h5 h3
    · exact h4
/-- The model's best one of the distances up to k; the program's best one of the first k places. -/
def lzD (ys : List Int) (a : Nat) : Nat → Nat × Nat
  | 0 => (0, 0)
  | k + 1 => if (lzD ys a k).1 < alk ys (a - (k + 1)) a then (alk ys (a - (k + 1)) a, k + 1) else lzD ys a k
def lzP (ys : List Int) (a : Nat) : Nat → Nat × Nat
  | 0 => (0, 0)
  | k + 1 => if 3 ≤ alk ys k a ∧ (lzP ys a k).1 ≤ alk ys k a then (alk ys k a, a - k) else lzP ys a k
theorem lzD_spec (ys : List Int) (a : Nat) : ∀ k, (∀ d, 1 ≤ d → d ≤ k → alk ys (a - d) a ≤ (lzD ys a k).1) ∧ (lzD ys a k = (0, 0) ∨ ∃ d, 1 ≤ d ∧ d ≤ k ∧ lzD ys a k = (alk ys (a - d) a, d) ∧ ∀ e, 1 ≤ e → e < d → alk ys (a - e) a < alk ys (a - d) a)
  | 0 => ⟨fun d h1 h2 => by omega, .inl rfl⟩
  | k + 1 => by
    obtain ⟨h1, h2⟩ := lzD_spec ys a k
    simp only [lzD]
    split
    · rename_i h
      refine ⟨fun d d1 d2 => ?_, .inr ⟨k + 1, by omega, Nat.le_refl _, rfl, fun e e1 e2 => Nat.lt_of_le_of_lt (h1 e e1 (by omega)) h⟩⟩
      rcases Nat.lt_or_ge d (k + 1) with h3 | h3
      · exact Nat.le_trans (h1 d d1 (by omega)) (Nat.le_of_lt h)
      · rw [show d = k + 1 by omega]
        exact Nat.le_refl _
    · rename_i h
      refine ⟨fun d d1 d2 => ?_, ?_⟩
      · rcases Nat.lt_or_ge d (k + 1) with h3 | h3
        · exact h1 d d1 (by omega)
        · rw [show d = k + 1 by omega]
          omega
      · rcases h2 with h2 | ⟨d, d1, d2, d3, d4⟩
        · exact .inl h2
        · exact .inr ⟨d, d1, by omega, d3, d4⟩
theorem lzP_spec (ys : List Int) (a : Nat) : ∀ k, (∀ p, p < k → 3 ≤ alk ys p a → alk ys p a ≤ (lzP ys a k).1) ∧ ((lzP ys a k = (0, 0) ∧ ∀ p, p < k → alk ys p a < 3) ∨ ∃ p, p < k ∧ lzP ys a k = (alk ys p a, a - p) ∧ 3 ≤ alk ys p a ∧ ∀ q, p < q → q < k → alk ys q a < alk ys p a)
  | 0 => ⟨fun d h1 => by omega, .inl ⟨rfl, fun p hp => by omega⟩⟩
  | k + 1 => by
    obtain ⟨h1, h2⟩ := lzP_spec ys a k
    simp only [lzP]
    split
    · rename_i h
      refine ⟨fun p p1 p2 => ?_, .inr ⟨k, by omega, rfl, h.1, fun q q1 q2 => by omega⟩⟩
      rcases Nat.lt_or_ge p k with h3 | h3
      · exact Nat.le_trans (h1 p h3 p2) h.2
      · rw [show p = k by omega]
        exact Nat.le_refl _
    · rename_i h
      refine ⟨fun p p1 p2 => ?_, ?_⟩
      · rcases Nat.lt_or_ge p k with h3 | h3
        · exact h1 p h3 p2
        · rw [show p = k by omega] at p2 ⊢
          rcases Nat.lt_or_ge (alk ys k a) (lzP ys a k).1 with h4 | h4
          · omega
          · exact absurd ⟨p2, h4⟩ h
      · rcases h2 with ⟨h2, h3⟩ | ⟨p, p1, p2, p3, p4⟩
        · refine .inl ⟨h2, fun p hp => ?_⟩
          rcases Nat.lt_or_ge p k with h5 | h5
          · exact h3 p h5
          · rw [show p = k by omega]
            rcases Nat.lt_or_ge (alk ys k a) 3 with h6 | h6
            · exact h6
            · exact absurd ⟨h6, by rw [h2]; omega⟩ h
        · refine .inr ⟨p, by omega, p2, p3, fun q q1 q2 => ?_⟩
          rcases Nat.lt_or_ge q k with h5 | h5
          · exact p4 q q1 h5
          · rw [show q = k by omega]
            rcases Nat.lt_or_ge (alk ys k a) (alk ys p a) with h6 | h6
            · exact h6
            · exact absurd ⟨by omega, by rw [p2]; exact h6⟩ h
/-- What Longest answers. -/
def lzA (ys : List Int) (a : Nat) : Nat × Nat := if (lzD ys a a).1 < 3 then (0, 0) else lzD ys a a
theorem lzP_lzA (ys : List Int) (a : Nat) : lzP ys a a = lzA ys a := by
  obtain ⟨d1, d2⟩ := lzD_spec ys a a
  obtain ⟨p1, p2⟩ := lzP_spec ys a a
  unfold lzA
  split
  · rename_i h
    rcases p2 with ⟨p2, _⟩ | ⟨p, q1, q2, q3, q4⟩
    · exact p2
    · have := d1 (a - p) (by omega) (by omega)
      rw [show a - (a - p) = p by omega] at this
      omega
  · rename_i h
    rcases d2 with d2 | ⟨d, e1, e2, e3, e4⟩
    · rw [d2] at h
      simp at h
    · have h3 : 3 ≤ alk ys (a - d) a := by rw [e3] at h; simp only at h; omega
      have hp := p1 (a - d) (by omega) h3
      rcases p2 with ⟨p2, p3⟩ | ⟨p, q1, q2, q3, q4⟩
      · have := p3 (a - d) (by omega)
        omega
      · rw [q2] at hp
        simp only at hp
        have h5 := d1 (a - p) (by omega) (by omega)
        rw [show a - (a - p) = p by omega, e3] at h5
        simp only at h5
        have h6 : p = a - d := by
          rcases Nat.lt_trichotomy p (a - d) with h7 | h7 | h7
          · have := q4 (a - d) h7 (by omega)
            omega
          · exact h7
          · have := e4 (a - p) (by omega) (by omega)
            rw [show a - (a - p) = p by omega] at this
            omega
        rw [q2, e3, h6, show a - (a - d) = d by omega]
/-- The longest piece at a place; none behind the end. -/
def lz (ys : List Int) (q : Nat) : Nat × Nat := if q < ys.length then lzA ys q else (0, 0)
/-- The letters from f up to q. -/
def cutL (ys : List Int) (f q : Nat) : List Int := (ys.drop f).take (q - f)
theorem cutL_nil (ys : List Int) (q : Nat) : cutL ys q q = [] := by simp [cutL]
theorem cutL_snoc (ys : List Int) (f q : Nat) (hf : f ≤ q) (hq : q < ys.length) : cutL ys f q ++ [ys.getD q 0] = cutL ys f (q + 1) := by
  unfold cutL
  rw [show q + 1 - f = (q - f) + 1 by omega, List.take_succ_eq_append_getElem (by simp; omega)]
  congr 1
  simp only [List.getElem_drop]
  rw [List.getD_eq_getElem?_getD, List.getElem?_eq_getElem hq]
  simp [show f + (q - f) = q by omega]
theorem cutL_len (ys : List Int) (f q : Nat) (hf : f ≤ q) (hq : q ≤ ys.length) : (cutL ys f q).length = q - f := by
  unfold cutL
  rw [List.length_take, List.length_drop]
  omega
theorem cutL_mem {ys : List Int} {f q : Nat} {z : Int} (h : z ∈ cutL ys f q) : z ∈ ys := List.mem_of_mem_drop (List.mem_of_mem_take h)
/-- At q the piece is taken. -/
def takes (ys : List Int) (q : Nat) : Prop := 0 < (lz ys q).1 ∧ (lz ys (q + 1)).1 ≤ (lz ys q).1
theorem lz_le (ys : List Int) (q : Nat) : q + (lz ys q).1 ≤ max q ys.length ∧ (lz ys q).2 ≤ q := by
  unfold lz
  split
  · unfold lzA
    have h1 := lzD_spec ys q q
    split
    · simp; omega
    · rcases h1.2 with h | ⟨d, d1, d2, h, _⟩
      · rw [h]; simp; omega
      · have := alk_le ys (q - d) q
        rw [h]
        simp only
        omega
  · simp; omega
/-- All that is found: what is taken, and the letters that are left. -/
def fin (ys : List Int) (f : Nat) (cs : List (List Int × Int × Int)) : List (List Int × Int × Int) := if f < ys.length then cs ++ [(cutL ys f ys.length, 0, 0)] else cs
/-- The same by steps that are counted. -/
def go (ys : List Int) : Nat → Nat → Nat → List (List Int × Int × Int) → Nat × List (List Int × Int × Int)
  | 0, f, q, cs => (f, cs)
  | n + 1, f, q, cs => if q < ys.length then (if 0 < (lz ys q).1 ∧ (lz ys (q + 1)).1 ≤ (lz ys q).1 then go ys n (q + (lz ys q).1) (q + (lz ys q).1) (cs ++ [(cutL ys f q, ((lz ys q).1 : Int), ((lz ys q).2 : Int))]) else go ys n f (q + 1) cs) else (f, cs)
/-- What Find tells of a text. -/
def found (ys : List Int) : List (List Int × Int × Int) := fin ys (go ys ys.length 0 0 []).1 (go ys ys.length 0 0 []).2
/-- Where the search is: letters wait from f on, it looks at q, cs is found. -/
structure St (ys : List Int) (f q : Nat) (cs : List (List Int × Int × Int)) : Prop where
  fq : f ≤ q
  ql : q ≤ ys.length
  cl : cs.length ≤ q
  parts : ∀ c ∈ cs, c.1.length ≤ ys.length ∧ (∃ n d : Nat, c.2 = ((n : Int), (d : Int)) ∧ n ≤ ys.length ∧ d ≤ ys.length)
  run : ∃ m, ys.length ≤ m + q ∧ go ys m f q cs = go ys ys.length 0 0 []
theorem St.start (ys : List Int) : St ys 0 0 [] := ⟨Nat.le_refl _, Nat.zero_le _, Nat.le_refl _, by simp, ys.length, by omega, rfl⟩
theorem St.wait {ys : List Int} {f q : Nat} {cs : List (List Int × Int × Int)} (h : St ys f q cs) (hq : q < ys.length) (ht : ¬ takes ys q) : St ys f (q + 1) cs := by
  have h1 := h.fq
  have h2 := h.cl
  refine ⟨by omega, hq, by omega, h.parts, ?_⟩
  obtain ⟨m, hm, hg⟩ := h.run
  obtain ⟨k, rfl⟩ : ∃ k, m = k + 1 := ⟨m - 1, by omega⟩
  refine ⟨k, by omega, ?_⟩
  rw [← hg]
  simp only [go]
  rw [if_pos hq, if_neg (show ¬ (0 < (lz ys q).1 ∧ (lz ys (q + 1)).1 ≤ (lz ys q).1) from ht)]
theorem St.take {ys : List Int} {f q : Nat} {cs : List (List Int × Int × Int)} (h : St ys f q cs) (hq : q < ys.length) (ht : takes ys q) : St ys (q + (lz ys q).1) (q + (lz ys q).1) (cs ++ [(cutL ys f q, ((lz ys q).1 : Int), ((lz ys q).2 : Int))]) := by
  have h1 := h.fq
  have h2 := h.cl
  have h3 := lz_le ys q
  have h4 := ht.1
  refine ⟨Nat.le_refl _, by omega, by rw [List.length_append]; simp; omega, ?_, ?_⟩
  · intro c hc
    rcases List.mem_append.1 hc with hc | hc
    · exact h.parts c hc
    · simp only [List.mem_singleton] at hc
      subst hc
      have h5 := cutL_len ys f q h1 h.ql
      exact ⟨by show (cutL ys f q).length ≤ _; omega, _, _, rfl, by omega, by omega⟩
  · obtain ⟨m, hm, hg⟩ := h.run
    obtain ⟨k, rfl⟩ : ∃ k, m = k + 1 := ⟨m - 1, by omega⟩
    refine ⟨k, by omega, ?_⟩
    rw [← hg]
    simp only [go]
    rw [if_pos hq, if_pos (show 0 < (lz ys q).1 ∧ (lz ys (q + 1)).1 ≤ (lz ys q).1 from ht)]
theorem St.done {ys : List Int} {f q : Nat} {cs : List (List Int × Int × Int)} (h : St ys f q cs) (hq : ¬ q < ys.length) : found ys = fin ys f cs := by
  obtain ⟨m, hm, hg⟩ := h.run
  have e : go ys m f q cs = (f, cs) := by
    cases m with
    | zero => rfl
    | succ m => simp only [go]; rw [if_neg hq]
  rw [e] at hg
  unfold found
  rw [← hg]
theorem lz_at {ys : List Int} {q : Nat} (h : q < ys.length) : lz ys q = lzA ys q := if_pos h
theorem lz_end {ys : List Int} {q : Nat} (h : ¬ q < ys.length) : lz ys q = (0, 0) := if_neg h
/-- A sequence as it lies: where its letters are, the letters, a length, a distance. -/
structure Sq where
  a : Option Addr
  c : Nat
  ls : List Int
  n : Int
  d : Int
/-- What it says. -/
def Sq.ct (s : Sq) : List Int × Int × Int := (s.ls, s.n, s.d)
def dq : Sq := ⟨none, 0, [], 0, 0⟩
def rI (z : Int) : Prop := -9223372036854775808 ≤ z ∧ z ≤ 9223372036854775807
def Sq.cells (s : Sq) : List Value := [.slice s.a s.ls.length s.c, .int .i64 s.n, .int .i64 s.d]

/-- It lies at an offset of a block. -/
structure Lies (w : World) (b o : Nat) (s : Sq) : Prop where
  c0 : w.cell? ⟨b, o, none⟩ = some (.slice s.a s.ls.length s.c)
  c1 : w.cell? ⟨b, o + 1, none⟩ = some (.int .i64 s.n)
  c2 : w.cell? ⟨b, o + 2, none⟩ = some (.int .i64 s.d)
  byt : Byt w s.a s.ls

/-- A slice value that starts at 'a' and has as many elements as 'ss' reads as the sequences 'ss'. -/
def Sqs (w : World) (a : Option Addr) (ss : List Sq) : Prop :=
  (∀ s ∈ ss, rI s.n ∧ rI s.d ∧ s.ls.length ≤ maxLen) ∧ (0 < ss.length → ∃ b off, a = some ⟨b, off, none⟩ ∧ b < w.heap.size ∧ ∀ i, i < ss.length → Lies w b (off + i * 3) (ss.getD i dq))

theorem Lies.below {w w' : World} {b o : Nat} {s : Sq} {B : Nat} (h : Lies w b o s) (hb : Below B w w') (hB : w.heap.size ≤ B) (hlt : b < w.heap.size) : Lies w' b o s :=
  ⟨keep hb (by omega) h.c0, keep hb (by omega) h.c1, keep hb (by omega) h.c2, h.byt.below hb hB⟩
theorem Sqs.below {w w' : World} {a : Option Addr} {ss : List Sq} {B : Nat} (h : Sqs w a ss) (hb : Below B w w') (hB : w.heap.size ≤ B) : Sqs w' a ss := by
  refine ⟨h.1, fun hz => ?_⟩
  obtain ⟨b, off, rfl, hlt, hc⟩ := h.2 hz
  exact ⟨b, off, rfl, Nat.lt_of_lt_of_le hlt hb.size, fun i hi => (hc i hi).below hb hB hlt⟩
theorem Sqs.len_pos {w : World} {a : Option Addr} {ss : List Sq} (h : Sqs w a ss) (i : Nat) (hi : i < ss.length) : ∃ b off, a = some ⟨b, off, none⟩ ∧ b < w.heap.size ∧ ∀ i, i < ss.length → Lies w b (off + i * 3) (ss.getD i dq) := h.2 (by omega)
theorem getD_memS {ss : List Sq} {k : Nat} (hk : k < ss.length) : ss.getD k dq ∈ ss := by
  rw [List.getD_eq_getElem?_getD, List.getElem?_eq_getElem hk]; exact List.getElem_mem hk
theorem Sqs.rng {w : World} {a : Option Addr} {ss : List Sq} (h : Sqs w a ss) (k : Nat) (hk : k < ss.length) : rI (ss.getD k dq).n ∧ rI (ss.getD k dq).d ∧ (ss.getD k dq).ls.length ≤ maxLen := h.1 _ (getD_memS hk)

/-! Rows of the call's own -/
theorem flat_len (ss : List Sq) : (ss.flatMap Sq.cells).length = ss.length * 3 := by
  induction ss with
  | nil => rfl
  | cons s ss ih => rw [List.flatMap_cons, List.length_append, ih, List.length_cons]; simp [Sq.cells]; omega
theorem flat_get (ss : List Sq) : ∀ k, k < ss.length → (ss.flatMap Sq.cells)[k * 3]? = some (.slice (ss.getD k dq).a (ss.getD k dq).ls.length (ss.getD k dq).c) ∧ (ss.flatMap Sq.cells)[k * 3 + 1]? = some (.int .i64 (ss.getD k dq).n) ∧ (ss.flatMap Sq.cells)[k * 3 + 2]? = some (.int .i64 (ss.getD k dq).d) := by
  induction ss with
  | nil => intro k hk; simp at hk
  | cons s ss ih =>
    intro k hk
    cases k with
    | zero => simp [List.flatMap_cons, Sq.cells]
    | succ k =>
      have := ih k (by simpa using hk)
      rw [List.flatMap_cons, show (k + 1) * 3 = k * 3 + 3 from by omega]
      simpa [Sq.cells] using this
theorem flat_set (s : Sq) (ss : List Sq) : ∀ k, k < ss.length → (((ss.flatMap Sq.cells).set (k * 3) (.slice s.a s.ls.length s.c)).set (k * 3 + 1) (.int .i64 s.n)).set (k * 3 + 2) (.int .i64 s.d) = (ss.set k s).flatMap Sq.cells := by
  induction ss with
  | nil => intro k hk; simp at hk
  | cons x ss ih =>
    intro k hk
    cases k with
    | zero => simp [List.flatMap_cons, Sq.cells]
    | succ k =>
      have := ih k (by simpa using hk)
      rw [List.set_cons_succ, List.flatMap_cons, List.flatMap_cons, ← this, show (k + 1) * 3 = k * 3 + 3 from by omega]
      simp [Sq.cells]

/-- A row of sequences that the call itself made, from block 'B' on; each has its letters in memory of its own. -/
structure OwS (w : World) (B g cap : Nat) (ss : List Sq) : Prop where
  row : w.ownsRow B 37 3 (.slice (some ⟨g, 0, none⟩) ss.length cap) ss.length (ss.flatMap Sq.cells)
  rng : ∀ s ∈ ss, rI s.n ∧ rI s.d ∧ s.ls.length ≤ maxLen
  mine : ∀ s ∈ ss, Mine w B w.heap.size s.a s.c s.ls
  apart : ∀ i j, i < ss.length → j < ss.length → i ≠ j → ∀ k, rowOf (ss.getD i dq).a k → ¬ rowOf (ss.getD j dq).a k

section
variable {w w' : World} {B g cap : Nat} {ss : List Sq}
theorem OwS.lt (h : OwS w B g cap ss) : B ≤ g ∧ g < w.heap.size := h.row.lt g rfl
theorem OwS.lies (h : OwS w B g cap ss) (i : Nat) (hi : i < ss.length) : Lies w g (0 + i * 3) (ss.getD i dq) := by
  obtain ⟨f0, f1, f2⟩ := flat_get ss i hi
  refine ⟨?_, ?_, ?_, (h.mine _ (getD_memS hi)).byt⟩
  · rw [Nat.zero_add, h.row.cellAt (i * 3) (by omega), f0]
  · rw [Nat.zero_add, h.row.cellAt (i * 3 + 1) (by omega), f1]
  · rw [Nat.zero_add, h.row.cellAt (i * 3 + 2) (by omega), f2]
theorem OwS.sqs (h : OwS w B g cap ss) : Sqs w (some ⟨g, 0, none⟩) ss := ⟨h.rng, fun _ => ⟨g, 0, rfl, h.lt.2, fun i hi => h.lies i hi⟩⟩
theorem OwS.frozen (h : OwS w B g cap ss) (i : Nat) : w.frozen? ⟨g, i, none⟩ = false := h.row.frozenAt i
theorem rowStay {T : TypeId} {sz : Nat} {v : Value} {n : Nat} {xs : List Value} {S : Nat → Prop} (h : w.ownsRow B T sz v n xs) (ho : Only S w w') (hs : ∀ k, v.ownBlock = some k → ¬ S k) : w'.ownsRow B T sz v n xs := by
  refine ⟨h.1, ?_⟩
  rcases h.2 with h' | ⟨g, cap, cur, rfl, hg, hh, r⟩
  · exact .inl h'
  · exact .inr ⟨g, cap, cur, rfl, hg, (ho.block g (Array.getElem?_eq_some_iff.1 hh).1 (hs g rfl)).trans hh, r⟩
theorem OwS.only {S : Nat → Prop} (h : OwS w B g cap ss) (ho : Only S w w') (hs : ∀ k, B ≤ k → k < w.heap.size → ¬ S k) : OwS w' B g cap ss :=
  ⟨rowStay h.row ho (fun k hk => by
      have e : g = k := by simpa [Value.ownBlock] using hk
      subst e
      exact hs g h.lt.1 h.lt.2), h.rng, fun s hm => ((h.mine s hm).only ho hs).mono (Nat.le_refl _) ho.size, h.apart⟩
theorem OwS.below (h : OwS w B g cap ss) (hb : Below w.heap.size w w') : OwS w' B g cap ss := h.only (Only.ofBelow (S := fun _ => False) hb (Nat.le_refl _)) (by simp)
theorem Mine.rowB {a : Option Addr} {U c k : Nat} {zs : List Int} (h : Mine w B U a c zs) (hr : rowOf a k) : B ≤ k ∧ k < U := by
  obtain ⟨x, hx, rfl⟩ := hr
  rcases h with ⟨h', _⟩ | ⟨g, h', g1, g2, _⟩
  · rw [h'] at hx; cases hx
  · rw [h'] at hx
    simp at hx
    rw [← hx]
    exact ⟨g1, g2⟩
/-- Letters lie in another block than the row of sequences. -/
theorem OwS.other (h : OwS w B g cap ss) {a : Option Addr} {B' U c : Nat} {zs : List Int} (hm : Mine w B' U a c zs) : ¬ rowOf a g := by
  rintro ⟨x, hx, hxg⟩
  rcases hm with ⟨h', _⟩ | ⟨g', h', g1, g2, ho⟩
  · rw [h'] at hx; cases hx
  · rw [h'] at hx
    simp at hx
    rw [← hx] at hxg
    simp at hxg
    subst hxg
    rcases ho.1.2 with ⟨e, _⟩ | ⟨k, cap1, cur1, e, _, hh, _⟩
    · simp at e
    · obtain rfl : g' = k := by simp at e; exact e.1
      rcases h.row.2 with ⟨e2, _⟩ | ⟨k2, cap2, cur2, e2, _, hh2, _⟩
      · simp at e2
      · obtain rfl : g' = k2 := by simp at e2; exact e2.1
        rw [hh] at hh2
        simp at hh2
theorem getD_setS (ss : List Sq) (k i : Nat) (s : Sq) (hk : k < ss.length) : (ss.set k s).getD i dq = if i = k then s else ss.getD i dq := by
  by_cases h : i = k
  · subst h
    rw [if_pos rfl, List.getD_eq_getElem?_getD, List.getElem?_set_self hk]; rfl
  · rw [if_neg h]
    simp only [List.getD_eq_getElem?_getD, List.getElem?_set_ne (Ne.symm h)]
theorem OwS.store (h : OwS w B g cap ss) (k : Nat) (hk : k < ss.length) (s : Sq) (hr : rI s.n ∧ rI s.d ∧ s.ls.length ≤ maxLen) (hm : Mine w B w.heap.size s.a s.c s.ls) (hap : ∀ i, i < ss.length → i ≠ k → ∀ b, rowOf s.a b → ¬ rowOf (ss.getD i dq).a b) :
    OwS (((w.setCell ⟨g, k * 3, none⟩ (.slice s.a s.ls.length s.c)).setCell ⟨g, k * 3 + 1, none⟩ (.int .i64 s.n)).setCell ⟨g, k * 3 + 2, none⟩ (.int .i64 s.d)) B g cap (ss.set k s) := by
  have r1 := (h.row.stored (k * 3) (.slice s.a s.ls.length s.c)).1
  have r2 := (r1.stored (k * 3 + 1) (.int .i64 s.n)).1
  have r3 := (r2.stored (k * 3 + 2) (.int .i64 s.d)).1
  rw [flat_set s ss k hk] at r3
  have hon : Only (fun b => b = g) w (((w.setCell ⟨g, k * 3, none⟩ (.slice s.a s.ls.length s.c)).setCell ⟨g, k * 3 + 1, none⟩ (.int .i64 s.n)).setCell ⟨g, k * 3 + 2, none⟩ (.int .i64 s.d)) :=
    (((Only.refl (fun b => b = g) w).setCell (p := ⟨g, k * 3, none⟩) (.inl rfl) _).setCell (p := ⟨g, k * 3 + 1, none⟩) (.inl rfl) _).setCell (p := ⟨g, k * 3 + 2, none⟩) (.inl rfl) _
  have stay : ∀ {t : Sq}, Mine w B w.heap.size t.a t.c t.ls → Mine (((w.setCell ⟨g, k * 3, none⟩ (.slice s.a s.ls.length s.c)).setCell ⟨g, k * 3 + 1, none⟩ (.int .i64 s.n)).setCell ⟨g, k * 3 + 2, none⟩ (.int .i64 s.d)) B (((w.setCell ⟨g, k * 3, none⟩ (.slice s.a s.ls.length s.c)).setCell ⟨g, k * 3 + 1, none⟩ (.int .i64 s.n)).setCell ⟨g, k * 3 + 2, none⟩ (.int .i64 s.d)).heap.size t.a t.c t.ls := by
    intro t ht
    have hne := h.other ht
    rcases ht with ht | ⟨g', h', g1, g2, ho⟩
    · exact .inl ht
    · refine .inr ⟨g', h', g1, Nat.lt_of_lt_of_le g2 hon.size, ho.only hon (fun e => hne ⟨_, h', e⟩)⟩
  refine ⟨by rw [List.length_set]; exact r3, ?_, ?_, ?_⟩
  · intro t ht
    rcases List.mem_or_eq_of_mem_set ht with ht | rfl
    · exact h.rng t ht
    · exact hr
  · intro t ht
    rcases List.mem_or_eq_of_mem_set ht with ht | rfl
    · exact stay (h.mine t ht)
    · exact stay hm
  · intro i j hi hj hij b
    rw [List.length_set] at hi hj
    rw [getD_setS ss k i s hk, getD_setS ss k j s hk]
    by_cases h1 : i = k
    · rw [if_pos h1, if_neg (by omega)]
      exact hap j hj (by omega) b
    · rw [if_neg h1]
      by_cases h2 : j = k
      · rw [if_pos h2]
        exact fun h3 h4 => hap i hi h1 b h4 h3
      · rw [if_neg h2]
        exact h.apart i j hi hj hij b
end
end Go.Proofs.YtfeokafkhnbdiaaGreatDoor
