/-
  What DrawCodes draws.
-/
import Derived.Test.YtkjebacpmmfflaaDoorDrRow
import Derived.Test.YtkjebacpmmfflaaDoorISome
import Derived.Test.YtkjebacpmmfflaaDoorEkL
import Derived.Test.YtkjebacpmmfflaaDoorLnN
import Derived.Test.YtkjebacpmmfflaaDoorPmB
import Derived.Test.YtkjebacpmmfflaaDoorIApp
namespace Go.Proofs.YtkjebacpmmfflaaDoor
open Go.RowKit
set_option linter.unusedVariables false

theorem drawn_ok {q : List Int} {n L : Nat} (hl : q.length = n) (hn1 : 1 ≤ n) (hn2 : n ≤ 12) (hr : ∀ z ∈ q, 0 ≤ z ∧ z ≤ 1000) (hs : 1 ≤ (coinsS q).length) (hL : L = 4 ∨ L = 5 ∨ L = 12) : lensOkB q (L : Int) ∧ lensB (lensV q L) = true ∧ (lensV q L).length = n := by
  have hc : cntB q = true := by
    simp only [cntB, decide_eq_true_eq]
    exact ⟨by omega, by omega, fun z hz => by have := hr z hz; omega⟩
  have h1 : (coinsS q).length ≤ 12 := by rw [coinsS_len]; have := coinsL_len q q.length; omega
  have h2 : (coinsS q).length ≤ 2 ^ L := by
    rcases hL with rfl | rfl | rfl
    · have : (2 : Nat) ^ 4 = 16 := by decide
      omega
    · have : (2 : Nat) ^ 5 = 32 := by decide
      omega
    · have : (2 : Nat) ^ 12 = 4096 := by decide
      omega
  obtain ⟨lm, hF, -⟩ := lens_facts hc (L := L) (by omega) hs h2
  exact ⟨⟨hc, by omega, by omega, hs, by rw [Int.toNat_natCast]; exact h2⟩, hF.okB hc (by omega) hs, by rw [lensV_len]; exact hl⟩
theorem set_some {q : List Int} (h : 1 ≤ q.length) : 1 ≤ (coinsS (q.set 0 1)).length := by
  obtain ⟨k, hk, _⟩ := coinsS_has (q.set 0 1) 0 (by simp; omega) (by
    rw [List.getD_eq_getElem?_getD, List.getElem?_set_self (by omega)]; decide)
  omega

set_option maxHeartbeats 3200000 in
theorem Dr.lens {w0 w : World} {B R : Nat} {a : Option Addr} {bs : List Int} {cap : Nat} (h : Dr w0 w B R a bs cap) :
    Calls Tryd.prog 50 #[.pointer (some ⟨R, 0, none⟩)] w fun e w' => ∃ (n g : Nat) (ls : List Int), e = .returned (.slice (some ⟨g, 0, none⟩) n n) ∧ 1 ≤ n ∧ n ≤ 12 ∧ OwI w' w.heap.size g n ls ∧ ls.length = n ∧ lensB ls = true ∧ Dr w0 w' B R a bs cap ∧ Only (fun k => k = R) w w' := by
  have H : Hid (Dr w0 w B R a bs cap) := h
  have hRB := h.cur.lt
  have hwB : B ≤ w.heap.size := by omega
  clear h
  go_enter Tryd.func50, Tryd.ntmps50
  go_wp2_with fail
  refine H.out.counts.mono ?_
  rintro e w1 ⟨n, g, rfl, hn1, hn2, ⟨q, hrow, hql, hqr⟩, hd1, ho1⟩
  have HR1 : Hid (OwI w1 w.heap.size g n q) := hrow
  have HD1 : Hid (Dr w0 w1 B R a bs cap) := hd1
  have HO1 : Hid (Only (fun k => k = R) w w1) := ho1
  have HQ : Hid (q.length = n ∧ ∀ z ∈ q, 0 ≤ z ∧ z ≤ 1000) := ⟨hql, hqr⟩
  have hg := hrow.lt
  have HSM := l2some_any (some ⟨g, 0, none⟩) n q w1 hrow.byt (by omega)
  rw [hql] at HSM
  clear hrow hd1 ho1 hqr H
  go_wp2_with fail
  refine HSM.mono ?_
  clear HSM
  rintro e w2 ⟨rfl, hw2⟩
  subst hw2
  obtain ⟨m, hm⟩ : ∃ m : Nat, sumF one q = m := ⟨_, some_len q⟩
  have HM : Hid (m = (coinsS q).length ∧ True) := ⟨by have := some_len q; omega, trivial⟩
  rw [hm]
  clear hm hql
  by_cases h0 : m = 0
  · subst h0
    have hc0 : w2.cell? ⟨g, 0, none⟩ = some (.int .i64 (q.getD 0 0)) := HR1.out.cell 0 (by rw [HQ.out.1]; exact hn1)
    have hfz := HR1.out.frozen 0
    have HR : Hid (OwI (w2.setCell ⟨g, 0, none⟩ (.int .i64 1)) w.heap.size g n (q.set 0 1)) := HR1.out.store 0 1 (by omega)
    have HD : Hid (Dr w0 (w2.setCell ⟨g, 0, none⟩ (.int .i64 1)) B R a bs cap) := HD1.out.other (S := fun b => b = g) (Only.setCell (Only.refl (fun b => b = g) w2) (p := ⟨g, 0, none⟩) (.inl rfl) _) (by omega) (fun b hb => by omega)
    have HO : Hid (Only (fun k => k = R) w (w2.setCell ⟨g, 0, none⟩ (.int .i64 1))) := Only.setCell (S := fun k => k = R) HO1.out (p := ⟨g, 0, none⟩) (.inr hg.1) _
    have HQ2 : Hid ((q.set 0 1).length = n ∧ (∀ z ∈ q.set 0 1, 0 ≤ z ∧ z ≤ 1000) ∧ 1 ≤ (coinsS (q.set 0 1)).length) := by
      refine ⟨by rw [List.length_set]; exact HQ.out.1, fun z hz => ?_, set_some (by rw [HQ.out.1]; exact hn1)⟩
      rcases List.mem_or_eq_of_mem_set hz with hz | rfl
      · exact HQ.out.2 z hz
      · omega
    have hg2 : g < (w2.setCell ⟨g, 0, none⟩ (.int .i64 1)).heap.size := HR.out.lt.2
    have hwz : w.heap.size ≤ (w2.setCell ⟨g, 0, none⟩ (.int .i64 1)).heap.size := HO.out.size
    clear HR1 HD1 HO1 HQ HM hg
    generalize q.set 0 1 = q2 at *
    have HIN : Hid (∀ T, Ins ((w2.setCell ⟨g, 0, none⟩ (.int .i64 1)).alloc (.cells #[.int .i64 4, .int .i64 5, .int .i64 12] T)) (some ⟨(w2.setCell ⟨g, 0, none⟩ (.int .i64 1)).heap.size, 0, none⟩) [4, 5, 12]) := fun T => by
      have := ins_newN (w2.setCell ⟨g, 0, none⟩ (.int .i64 1)) T [4, 5, 12] (by intro z hz; simp at hz; omega)
      simpa using this
    go_wp2_with fail
    have e3 : (w2.setCell ⟨g, 0, none⟩ (.int .i64 1)).heap.size = w2.heap.size := by simp [World.setCell]
    have HIN3 := HIN.out 3
    have hoa : Only (fun _ => False) (w2.setCell ⟨g, 0, none⟩ (.int .i64 1)) ((w2.setCell ⟨g, 0, none⟩ (.int .i64 1)).alloc (Obj.cells #[.int .i64 4, .int .i64 5, .int .i64 12] 3)) := (Only.refl _ _).alloc _
    have hda := HD.out.other hoa (by simp) (by simp)
    have hra := HR.out.only hoa (by simp)
    have hoo := HO.out.trans (hoa.mono (by simp))
    have hRne : w2.heap.size ≠ R := by have := HD.out.cur.lt; rw [e3] at this; omega
    rw [e3] at HIN3
    clear hoa HIN HD HR HO e3
    refine (hda.pick w2.heap.size 3 [4, 5, 12] HIN3 hRne (by simp) (by simp)).mono ?_
    rintro e w3 ⟨⟨y, hy, rfl⟩, hd3, ho3⟩
    obtain ⟨L, rfl, hL⟩ : ∃ L : Nat, y = (L : Int) ∧ (L = 4 ∨ L = 5 ∨ L = 12) := by
      simp at hy
      exact ⟨y.toNat, by omega, by omega⟩
    obtain ⟨hok, hlb, hll⟩ := drawn_ok HQ2.out.1 hn1 hn2 HQ2.out.2.1 HQ2.out.2.2 hL
    have hr3 := hra.only ho3 (by have := hra.lt; omega)
    have HLN := l2lens_any (some ⟨g, 0, none⟩) n q2 L w3 hr3.byt hok
    rw [HQ2.out.1] at HLN
    have HD3 : Hid (Dr w0 w3 B R a bs cap) := hd3
    have HO3 : Hid (Only (fun k => k = R) w w3) := hoo.trans ho3
    have HLV : Hid (lensB (lensV q2 L) = true ∧ (lensV q2 L).length = n) := ⟨hlb, hll⟩
    clear hok hlb hll hr3 hd3 ho3 hda hra hoo HIN3 hRne hy hL
    generalize lensV q2 L = ls at *
    go_wp2_with fail
    refine HLN.mono ?_
    clear HLN
    rintro e w4 ⟨⟨g2, rfl, ho4⟩, hb4⟩
    have hz3 := HO3.out.size
    have hon4 : Only (fun _ => False) w3 w4 := Only.ofBelow hb4 (Nat.le_refl _)
    have HR4 : Hid (OwI w4 w.heap.size g2 n ls) := ho4.mono hz3
    have HD4 : Hid (Dr w0 w4 B R a bs cap) := HD3.out.other hon4 (by simp) (by simp)
    have HO4 : Hid (Only (fun k => k = R) w w4) := HO3.out.trans (hon4.mono (by simp))
    clear ho4 hb4 hon4 HD3 HO3
    go_wp2
    go_ret
    exact ⟨n, g2, ls, rfl, hn1, hn2, HR4.out, HLV.out.2, HLV.out.1, HD4.out, HO4.out⟩
  · have HR : Hid (OwI w2 w.heap.size g n q) := HR1.out
    have HD : Hid (Dr w0 w2 B R a bs cap) := HD1.out
    have HO : Hid (Only (fun k => k = R) w w2) := HO1.out
    have HQ2 : Hid (q.length = n ∧ (∀ z ∈ q, 0 ≤ z ∧ z ≤ 1000) ∧ 1 ≤ (coinsS q).length) := ⟨HQ.out.1, HQ.out.2, by have := HM.out.1; omega⟩
    have hg2 := hg.2
    have hwz : w.heap.size ≤ w2.heap.size := HO.out.size
    have hm0 : ¬ (m : Int) = 0 := by omega
    clear HR1 HD1 HO1 HQ HM hg
    generalize q = q2 at *
    have HIN : Hid (∀ T, Ins (w2.alloc (.cells #[.int .i64 4, .int .i64 5, .int .i64 12] T)) (some ⟨w2.heap.size, 0, none⟩) [4, 5, 12]) := fun T => by
      have := ins_newN w2 T [4, 5, 12] (by intro z hz; simp at hz; omega)
      simpa using this
    go_wp2_with fail
    have HIN3 := HIN.out 3
    have hoa : Only (fun _ => False) w2 (w2.alloc (Obj.cells #[.int .i64 4, .int .i64 5, .int .i64 12] 3)) := (Only.refl _ _).alloc _
    have hda := HD.out.other hoa (by simp) (by simp)
    have hra := HR.out.only hoa (by simp)
    have hoo := HO.out.trans (hoa.mono (by simp))
    have hRne : w2.heap.size ≠ R := by have := HD.out.cur.lt; omega
    clear hoa HIN HD HR HO
    refine (hda.pick w2.heap.size 3 [4, 5, 12] HIN3 hRne (by simp) (by simp)).mono ?_
    rintro e w3 ⟨⟨y, hy, rfl⟩, hd3, ho3⟩
    obtain ⟨L, rfl, hL⟩ : ∃ L : Nat, y = (L : Int) ∧ (L = 4 ∨ L = 5 ∨ L = 12) := by
      simp at hy
      exact ⟨y.toNat, by omega, by omega⟩
    obtain ⟨hok, hlb, hll⟩ := drawn_ok HQ2.out.1 hn1 hn2 HQ2.out.2.1 HQ2.out.2.2 hL
    have hr3 := hra.only ho3 (by have := hra.lt; omega)
    have HLN := l2lens_any (some ⟨g, 0, none⟩) n q2 L w3 hr3.byt hok
    rw [HQ2.out.1] at HLN
    have HD3 : Hid (Dr w0 w3 B R a bs cap) := hd3
    have HO3 : Hid (Only (fun k => k = R) w w3) := hoo.trans ho3
    have HLV : Hid (lensB (lensV q2 L) = true ∧ (lensV q2 L).length = n) := ⟨hlb, hll⟩
    clear hok hlb hll hr3 hd3 ho3 hda hra hoo HIN3 hRne hy hL
    generalize lensV q2 L = ls at *
    go_wp2_with fail
    refine HLN.mono ?_
    clear HLN
    rintro e w4 ⟨⟨g2, rfl, ho4⟩, hb4⟩
    have hz3 := HO3.out.size
    have hon4 : Only (fun _ => False) w3 w4 := Only.ofBelow hb4 (Nat.le_refl _)
    have HR4 : Hid (OwI w4 w.heap.size g2 n ls) := ho4.mono hz3
    have HD4 : Hid (Dr w0 w4 B R a bs cap) := HD3.out.other hon4 (by simp) (by simp)
    have HO4 : Hid (Only (fun k => k = R) w w4) := HO3.out.trans (hon4.mono (by simp))
    clear ho4 hb4 hon4 HD3 HO3
    go_wp2
    go_ret
    exact ⟨n, g2, ls, rfl, hn1, hn2, HR4.out, HLV.out.2, HLV.out.1, HD4.out, HO4.out⟩
/-- A row of numbers as lengths are drawn. -/
def BentR (ls : List Int) : Prop := 1 ≤ ls.length ∧ ls.length ≤ 81 ∧ ∀ z ∈ ls, -1 ≤ z ∧ z ≤ 13
theorem bent_of {ls : List Int} {n : Nat} (hl : ls.length = n) (h1 : 1 ≤ n) (h2 : n ≤ 12) (h : lensB ls = true) : BentR ls := by
  simp only [lensB, decide_eq_true_eq] at h
  exact ⟨by omega, by omega, fun z hz => by have := h.2.2.1 z hz; omega⟩
theorem BentR.set {ls : List Int} (h : BentR ls) (y : Int) (hy : -1 ≤ y ∧ y ≤ 13) : BentR (ls.set 0 y) := by
  refine ⟨by rw [List.length_set]; exact h.1, by rw [List.length_set]; exact h.2.1, fun z hz => ?_⟩
  rcases List.mem_or_eq_of_mem_set hz with hz | rfl
  · exact h.2.2 z hz
  · exact hy
theorem BentR.app {ls : List Int} (h : BentR ls) (hl : ls.length ≤ 80) (y : Int) (hy : -1 ≤ y ∧ y ≤ 13) : BentR (ls ++ [y]) := by
  refine ⟨by simp, by simp; omega, fun z hz => ?_⟩
  rcases List.mem_append.1 hz with hz | hz
  · exact h.2.2 z hz
  · simp at hz; subst hz; exact hy
theorem bent_zero (n : Nat) (h1 : 1 ≤ n) (h2 : n ≤ 81) : BentR (List.replicate n 0) := ⟨by simpa using h1, by simpa using h2, fun z hz => by simp at hz; omega⟩
theorem OVI.ow {w : World} {B g n c : Nat} {zs : List Int} (hl : zs.length = n) (h : OVI w B (.slice (some ⟨g, 0, none⟩) n c) zs) : OwI w B g c zs := by
  subst hl
  exact ⟨h.1, h.2⟩

set_option maxHeartbeats 3200000 in
theorem Dr.bentLens {w0 w : World} {B R : Nat} {a : Option Addr} {bs : List Int} {cap : Nat} (h : Dr w0 w B R a bs cap) :
    Calls Tryd.prog 37 #[.pointer (some ⟨R, 0, none⟩)] w fun e w' => ∃ (n g c : Nat) (ls : List Int), e = .returned (.slice (some ⟨g, 0, none⟩) n c) ∧ ls.length = n ∧ BentR ls ∧ OwI w' w.heap.size g c ls ∧ Dr w0 w' B R a bs cap ∧ Only (fun k => k = R) w w' := by
  obtain ⟨i0, hi, hz0, hz1, hz2⟩ := info_parts Tryd.infoI64
  have H : Hid (Dr w0 w B R a bs cap) := h
  have hRB := h.cur.lt
  have hwB : B ≤ w.heap.size := by omega
  clear h
  go_enter Tryd.func37, Tryd.ntmps37
  go_wp2_with fail
  refine H.out.lens.mono ?_
  rintro e w1 ⟨n, g, ls, rfl, hn1, hn2, hr1, hl1, hb1, hd1, ho1⟩
  have HR1 : Hid (OwI w1 w.heap.size g n ls) := hr1
  have HD1 : Hid (Dr w0 w1 B R a bs cap) := hd1
  have HO1 : Hid (Only (fun k => k = R) w w1) := ho1
  have HL : Hid (ls.length = n ∧ BentR ls) := ⟨hl1, bent_of hl1 hn1 hn2 hb1⟩
  clear hr1 hd1 ho1 hl1 hb1 H
  go_wp2_with fail
  refine (HD1.out.once 7 (by omega) (by omega)).mono ?_
  rintro e w2 ⟨⟨b, rfl⟩, hd2, ho2⟩
  have HR2 : Hid (OwI w2 w.heap.size g n ls) := HR1.out.only ho2 (by have := HR1.out.lt; omega)
  have HD2 : Hid (Dr w0 w2 B R a bs cap) := hd2
  have HO2 : Hid (Only (fun k => k = R) w w2) := HO1.out.trans ho2
  clear hd2 ho2 HR1 HD1 HO1
  cases b
  · go_wp2
    go_ret
    exact ⟨n, g, n, ls, rfl, HL.out.1, HL.out.2, HR2.out, HD2.out, HO2.out⟩
  · go_wp2_with fail
    refine (HD2.out.below 3 (by omega) (by omega)).mono ?_
    rintro e w3 ⟨⟨x, hx1, hx2, rfl⟩, hd3, ho3⟩
    have HR3 : Hid (OwI w3 w.heap.size g n ls) := HR2.out.only ho3 (by have := HR2.out.lt; omega)
    have HD3 : Hid (Dr w0 w3 B R a bs cap) := hd3
    have HO3 : Hid (Only (fun k => k = R) w w3) := HO2.out.trans ho3
    clear hd3 ho3 HR2 HD2 HO2
    have hz3 := HO3.out.size
    have hg3 := HR3.out.lt
    obtain rfl | rfl | rfl : x = 0 ∨ x = 1 ∨ x = 2 := by omega
    · have HIN : Hid (∀ T, Ins (w3.alloc (.cells #[.int .i64 (-1), .int .i64 0, .int .i64 1, .int .i64 12, .int .i64 13] T)) (some ⟨w3.heap.size, 0, none⟩) [-1, 0, 1, 12, 13]) := fun T => by
        have := ins_newN w3 T [-1, 0, 1, 12, 13] (by intro z hz; simp at hz; omega)
        simpa using this
      go_wp2_with fail
      have hoa : Only (fun _ => False) w3 (w3.alloc (Obj.cells #[.int .i64 (-1), .int .i64 0, .int .i64 1, .int .i64 12, .int .i64 13] 3)) := (Only.refl _ w3).alloc _
      refine ((HD3.out.other hoa (by simp) (by simp)).pick w3.heap.size 5 [-1, 0, 1, 12, 13] (HIN.out _) (by have := HD3.out.cur.lt; omega) (by simp) (by simp)).mono ?_
      rintro e w4 ⟨⟨y, hy, rfl⟩, hd4, ho4⟩
      have hyr : -1 ≤ y ∧ y ≤ 13 := by simp at hy; omega
      have hr4 : OwI w4 w.heap.size g n ls := (HR3.out.only hoa (by simp)).only ho4 (by omega)
      have hc4 : w4.cell? ⟨g, 0, none⟩ = some (.int .i64 (ls.getD 0 0)) := hr4.cell 0 (by rw [HL.out.1]; exact hn1)
      have hfz := hr4.frozen 0
      have HR5 : Hid (OwI (w4.setCell ⟨g, 0, none⟩ (.int .i64 y)) w.heap.size g n (ls.set 0 y)) := hr4.store 0 y (by omega)
      have HD5 : Hid (Dr w0 (w4.setCell ⟨g, 0, none⟩ (.int .i64 y)) B R a bs cap) := hd4.other (S := fun b => b = g) (Only.setCell (Only.refl (fun b => b = g) w4) (p := ⟨g, 0, none⟩) (.inl rfl) _) (by omega) (fun b hb => by omega)
      have HO5 : Hid (Only (fun k => k = R) w (w4.setCell ⟨g, 0, none⟩ (.int .i64 y))) := Only.setCell (S := fun k => k = R) ((HO3.out.trans (hoa.mono (by simp))).trans ho4) (p := ⟨g, 0, none⟩) (.inr hg3.1) _
      clear hd4 ho4 hr4 hoa HIN HR3 HD3 HO3 hy
      go_wp2
      go_ret
      exact ⟨n, g, n, ls.set 0 y, rfl, by rw [List.length_set]; exact HL.out.1, HL.out.2.set y hyr, HR5.out, HD5.out, HO5.out⟩
    · go_wp2_with fail
      refine (HD3.out.below 13 (by omega) (by omega)).mono ?_
      rintro e w4 ⟨⟨y, hy1, hy2, rfl⟩, hd4, ho4⟩
      have HR4 : Hid (OwI w4 w.heap.size g n ls) := HR3.out.only ho4 (by omega)
      have HD4 : Hid (Dr w0 w4 B R a bs cap) := hd4
      have HO4 : Hid (Only (fun k => k = R) w w4) := HO3.out.trans ho4
      have hz4 := HO4.out.size
      have hu : w4.ownsRow w.heap.size 3 1 (.slice (some ⟨g, 0, none⟩) n n) n (ls.map (Value.int .i64)) := by have := HR4.out.1; rw [HL.out.1] at this; exact this
      clear hd4 ho4 HR3 HD3 HO3
      go_wp2_with (at_builtin; (refine wpList_append_lies _ rfl (.tmp 23) (.tmp 26) 23 rfl w.heap.size 3 i0 (.int .i64 0) 1 8 Tryd.underlying23 hi hz0 hz1 hz2 rfl (by decide) (.slice (some ⟨g, 0, none⟩) n n) n (ls.map (Value.int .i64)) rfl (hu.alloc _) ⟨w4.heap.size, 0, none⟩ 1 1 [.int .i64 y] rfl rfl (by intro j u hj; match j, hj with | 0, hj => (simp at hj; subst hj; simp [Addr.add])) (by intro u hu; simp at hu; subst hu; rfl) (by omega) (by unfold maxLen; omega) (by omega) (by simp; omega) _ rfl ?_); intro g5 cap5 w5 hown hgrow hat hlt1; have HOV5 : Hid (OVI w5 w.heap.size (.slice (some ⟨g5, 0, none⟩) (n + 1) cap5) (ls ++ [y])) := OVI.app HL.out.1 HR4.out.2 (by omega) hown; have hon5 : Only (fun b => (Value.slice (some ⟨g, 0, none⟩) n n).ownBlock = some b) w4 w5 := Only.grown ((Only.refl _ w4).alloc _) hgrow (fun b hb => .inl hb); have hbk : ∀ b, (Value.slice (some ⟨g, 0, none⟩) n n).ownBlock = some b → b = g := (fun b hb => by simp [Value.ownBlock] at hb; omega); have HD5 : Hid (Dr w0 w5 B R a bs cap) := HD4.out.other hon5 (fun hh => by have := hbk _ hh; omega) (fun b hh => by have := hbk _ hh; omega); have HO5 : Hid (Only (fun k => k = R) w w5) := Only.grown (HO4.out.alloc _) hgrow (fun b hb => .inr (by have := hbk _ hb; omega)); clear hown hgrow hat hlt1 hon5 hbk hu HR4 HD4 HO4)
      go_ret
      exact ⟨n + 1, g5, cap5, ls ++ [y], by simp, by simp [HL.out.1], HL.out.2.app (by rw [HL.out.1]; omega) y (by omega), OVI.ow (by simp [HL.out.1]) HOV5.out, HD5.out, HO5.out⟩
    · go_wp2_with fail
      refine (HD3.out.below 2 (by omega) (by omega)).mono ?_
      rintro e w4 ⟨⟨y, hy1, hy2, rfl⟩, hd4, ho4⟩
      obtain ⟨m, hm⟩ : ∃ m : Nat, 80 + y = m := ⟨(80 + y).toNat, by omega⟩
      have HD4 : Hid (Dr w0 w4 B R a bs cap) := hd4
      have HO4 : Hid (Only (fun k => k = R) w w4) := HO3.out.trans ho4
      have hz4 := HO4.out.size
      have hm1 : 1 ≤ m := by omega
      have hm2 : m ≤ 81 := by omega
      clear hd4 ho4 HR3 HD3 HO3
      go_wp2_with (at_make; refine wpList_make_full _ rfl _ _ 23 rfl w.heap.size 3 i0 (.int .i64 0) 1 Tryd.underlying23 hi hz0 hz1 .i64 .i64 _ _ m (by simp [Act.eval]; try omega) rfl rfl rfl (by rw [hz2]; omega) (by unfold maxLen; omega) hz4 ?_; intro w5 hown hgrow; have hon5 : Only (fun _ => False) w4 w5 := Only.grown (Only.refl _ w4) hgrow (fun k hk => by cases hk); have HR5 : Hid (OwI w5 w.heap.size w4.heap.size m (List.replicate m 0)) := (by rw [made_zeroI] at hown; exact ⟨by simpa using hown, by intro z hz; simp at hz; omega⟩); have HD5 : Hid (Dr w0 w5 B R a bs cap) := HD4.out.other hon5 (by simp) (by simp); have HO5 : Hid (Only (fun k => k = R) w w5) := HO4.out.trans (hon5.mono (by simp)); clear hown hgrow hon5 HD4 HO4)
      go_ret
      exact ⟨m, w4.heap.size, m, List.replicate m 0, rfl, by simp, bent_zero m hm1 hm2, HR5.out, HD5.out, HO5.out⟩
set_option maxHeartbeats 1600000 in
theorem drawCodes_any (a : Option Addr) (bs : List Int) (cap : Nat) (w : World) (hb : Byt w a bs) (hl : bs.length ≤ maxLen) :
    Calls Tryd.prog 19 #[.slice a bs.length cap] w fun e w' => ∃ (n g c : Nat) (ls : List Int), e = .returned (.slice (some ⟨g, 0, none⟩) n c) ∧ ls.length = n ∧ BentR ls ∧ OwI w' w.heap.size g c ls ∧ Below w.heap.size w w' := by
  go_enter Tryd.func19, Tryd.ntmps19
  go_wp2_with fail
  refine (l1New_any a bs cap w hb hl).mono ?_
  rintro e w1 ⟨rfl, hd1⟩
  have HD1 : Hid (Dr w w1 w.heap.size w.heap.size a bs cap) := hd1
  have hz1 := hd1.bel.size
  clear hd1
  go_wp2_with fail
  refine HD1.out.bentLens.mono ?_
  rintro e w2 ⟨n, g, c, ls, rfl, h1, h2, h3, h4, h5⟩
  have H : Hid (ls.length = n ∧ BentR ls ∧ OwI w2 w.heap.size g c ls ∧ Below w.heap.size w w2) := ⟨h1, h2, h3.mono hz1, h4.bel⟩
  clear h1 h2 h3 h4 h5
  go_wp2
  go_ret
  exact ⟨n, g, c, ls, rfl, H.out⟩
end Go.Proofs.YtkjebacpmmfflaaDoor
