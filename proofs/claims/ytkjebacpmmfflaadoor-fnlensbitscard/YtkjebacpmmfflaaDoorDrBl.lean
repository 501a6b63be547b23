/-
  Drawn lengths, and bent ones. (Typed by wip/mkdrbl.py.)
-/
import Derived.Test.YtkjebacpmmfflaaDoorDrRow
import Derived.Test.YtkjebacpmmfflaaDoorPcA
import Derived.Test.YtkjebacpmmfflaaDoorEkL
import Derived.Test.YtkjebacpmmfflaaDoorLnN
import Derived.Test.YtkjebacpmmfflaaDoorPmB
import Derived.Test.YtkjebacpmmfflaaDoorIApp
namespace Go.Proofs.YtkjebacpmmfflaaDoor
open Go.RowKit
set_option linter.unusedVariables false

theorem drawn_ok {q : List Int} {n L : Nat} (hl : q.length = n) (hn1 : 1 ≤ n) (hn2 : n ≤ 12) (hr : ∀ z ∈ q, 0 ≤ z ∧ z ≤ 1000) (hs : 1 ≤ (coinsS q).length) (hL : L = 4 ∨ L = 5 ∨ L = 12) : lensOkB q (L : Int) ∧ lensB (lensV q L) = true ∧ (lensV q L).length = n := by
  have hc : cntB q = true := by
    simp only [cntB, decide_eq_true_eq]
    exact ⟨by omega, by omega, fun z hz => by have := hr z hz; omega⟩
  have h1 : (coinsS q).length ≤ 12 := by rw [coinsS_len]; have := coinsL_len q q.length; omega
  have h2 : (coinsS q).length ≤ 2 ^ L := by
    rcases hL with rfl | rfl | rfl
    · have : (2 : Nat) ^ 4 = 16 := by decide
      omega
    · have : (2 : Nat) ^ 5 = 32 := by decide
      omega
    · have : (2 : Nat) ^ 12 = 4096 := by decide
      omega
  obtain ⟨lm, hF, -⟩ := lens_facts hc (L := L) (by omega) hs h2
  exact ⟨⟨hc, by omega, by omega, hs, by rw [Int.toNat_natCast]; exact h2⟩, hF.okB hc (by omega) hs, by rw [lensV_len]; exact hl⟩
theorem set_some {q : List Int} (h : 1 ≤ q.length) : 1 ≤ (coinsS (q.set 0 1)).length := by
  obtain ⟨k, hk, _⟩ := coinsS_has (q.set 0 1) 0 (by simp; omega) (by
    rw [List.getD_eq_getElem?_getD, List.getElem?_set_self (by omega)]; decide)
  omega

set_option maxHeartbeats 3200000 in
theorem Dr.lens {w0 w : World} {B R : Nat} {a : Option Addr} {bs : List Int} {cap : Nat} (h : Dr w0 w B R a bs cap) :
    Calls Tryd.prog 50 #[.pointer (some ⟨R, 0, none⟩)] w fun e w' => ∃ (n g : Nat) (ls : List Int), e = .returned (.slice (some ⟨g, 0, none⟩) n n) ∧ 1 ≤ n ∧ n ≤ 12 ∧ OwI w' w.heap.size g n ls ∧ ls.length = n ∧ lensB ls = true ∧ Dr w0 w' B R a bs cap ∧ Only (fun k => k = R) w w' := by
  have H : Hid (Dr w0 w B R a bs cap) := h
  have hRB := h.cur.lt
  have hwB : B ≤ w.heap.size := by omega
  clear h
  go_enter Tryd.func50, Tryd.ntmps50
  go_wp2_with fail
  refine H.out.counts.mono ?_
  rintro e w1 ⟨n, g, rfl, hn1, hn2, ⟨q, hrow, hql, hqr⟩, hd1, ho1⟩
  have HR1 : Hid (OwI w1 w.heap.size g n q) := hrow
  have HD1 : Hid (Dr w0 w1 B R a bs cap) := hd1
  have HO1 : Hid (Only (fun k => k = R) w w1) := ho1
  have HQ : Hid (q.length = n ∧ ∀ z ∈ q, 0 ≤ z ∧ z ≤ 1000) := ⟨hql, hqr⟩
  have hg := hrow.lt
  have HSM := l2some_any (some ⟨g, 0, none⟩) n q w1 hrow.byt (by omega)
  rw [hql] at HSM
  clear hrow hd1 ho1 hqr H
  go_wp2_with fail
  refine HSM.mono ?_
  clear HSM
  rintro e w2 ⟨rfl, hw2⟩
  subst hw2
  obtain ⟨m, hm⟩ : ∃ m : Nat, sumF one q = m := ⟨_, some_len q⟩
  have HM : Hid (m = (coinsS q).length ∧ True) := ⟨by have := some_len q; omega, trivial⟩
  rw [hm]
  clear hm hql
  by_cases h0 : m = 0
  · subst h0
    have hc0 : w2.cell? ⟨g, 0, none⟩ = some (.int .i64 (q.getD 0 0)) := HR1.out.cell 0 (by rw [HQ.out.1]; exact hn1)
    have hfz := HR1.out.frozen 0
    have HR : Hid (OwI (w2.setCell ⟨g, 0, none⟩ (.int .i64 1)) w.heap.size g n (q.set 0 1)) := HR1.out.store 0 1 (by omega)
    have HD : Hid (Dr w0 (w2.setCell ⟨g, 0, none⟩ (.int .i64 1)) B R a bs cap) := HD1.out.other (S := fun b => b = g) (Only.setCell (Only.refl (fun b => b = g) w2) (p := ⟨g, 0, none⟩) (.inl rfl) _) (by omega) (fun b hb => by omega)
    have HO : Hid (Only (fun k => k = R) w (w2.setCell ⟨g, 0, none⟩ (.int .i64 1))) := Only.setCell (S := fun k => k = R) HO1.out (p := ⟨g, 0, none⟩) (.inr hg.1) _
    have HQ2 : Hid ((q.set 0 1).length = n ∧ (∀ z ∈ q.set 0 1, 0 ≤ z ∧ z ≤ 1000) ∧ 1 ≤ (coinsS (q.set 0 1)).length) := by
      refine ⟨by rw [List.length_set]; exact HQ.out.1, fun z hz => ?_, set_some (by rw [HQ.out.1]; exact hn1)⟩
      rcases List.mem_or_eq_of_mem_set hz with hz | rfl
      · exact HQ.out.2 z hz
      · omega
    have hg2 : g < (w2.setCell ⟨g, 0, none⟩ (.int .i64 1)).heap.size := HR.out.lt.2
    have hwz : w.heap.size ≤ (w2.setCell ⟨g, 0, none⟩ (.int .i64 1)).heap.size := HO.out.size
    clear HR1 HD1 HO1 HQ HM hg
    generalize q.set 0 1 = q2 at *
    have HIN : Hid (∀ T, Ins ((w2.setCell ⟨g, 0, none⟩ (.int .i64 1)).alloc (.cells #[.int .i64 4, .int .i64 5, .int .i64 12] T)) (some ⟨(w2.setCell ⟨g, 0, none⟩ (.int .i64 1)).heap.size, 0, none⟩) [4, 5, 12]) := fun T => by
      have := ins_newN (w2.setCell ⟨g, 0, none⟩ (.int .i64 1)) T [4, 5, 12] (by intro z hz; simp at hz; omega)
      simpa using this
    go_wp2_with fail
    have e3 : (w2.setCell ⟨g, 0, none⟩ (.int .i64 1)).heap.size = w2.heap.size := by simp [World.setCell]
    have HIN3 := HIN.out 3
    have hoa : Only (fun _ => False) (w2.setCell ⟨g, 0, none⟩ (.int .i64 1)) ((w2.setCell ⟨g, 0, none⟩ (.int .i64 1)).alloc (Obj.cells #[.int .i64 4, .int .i64 5, .int .i64 12] 3)) := (Only.refl _ _).alloc _
    have hda := HD.out.other hoa (by simp) (by simp)
    have hra := HR.out.only hoa (by simp)
    have hoo := HO.out.trans (hoa.mono (by simp))
    have hRne : w2.heap.size ≠ R := by have := HD.out.cur.lt; rw [e3] at this; omega
    rw [e3] at HIN3
    clear hoa HIN HD HR HO e3
    refine (hda.pick w2.heap.size 3 [4, 5, 12] HIN3 hRne (by simp) (by simp)).mono ?_
    rintro e w3 ⟨⟨y, hy, rfl⟩, hd3, ho3⟩
    obtain ⟨L, rfl, hL⟩ : ∃ L : Nat, y = (L : Int) ∧ (L = 4 ∨ L = 5 ∨ L = 12) := by
      simp at hy
      exact ⟨y.toNat, by omega, by omega⟩
    obtain ⟨hok, hlb, hll⟩ := drawn_ok HQ2.out.1 hn1 hn2 HQ2.out.2.1 HQ2.out.2.2 hL
    have hr3 := hra.only ho3 (by have := hra.lt; omega)
    have HLN := l2lens_any (some ⟨g, 0, none⟩) n q2 L w3 hr3.byt hok
    rw [HQ2.out.1] at HLN
    have HD3 : Hid (Dr w0 w3 B R a bs cap) := hd3
    have HO3 : Hid (Only (fun k => k = R) w w3) := hoo.trans ho3
    have HLV : Hid (lensB (lensV q2 L) = true ∧ (lensV q2 L).length = n) := ⟨hlb, hll⟩
    clear hok hlb hll hr3 hd3 ho3 hda hra hoo HIN3 hRne hy hL
    generalize lensV q2 L = ls at *
    go_wp2_with fail
    refine HLN.mono ?_
    clear HLN
    rintro e w4 ⟨⟨g2, rfl, ho4⟩, hb4⟩
    have hz3 := HO3.out.size
    have hon4 : Only (fun _ => False) w3 w4 := Only.ofBelow hb4 (Nat.le_refl _)
    have HR4 : Hid (OwI w4 w.heap.size g2 n ls) := ho4.mono hz3
    have HD4 : Hid (Dr w0 w4 B R a bs cap) := HD3.out.other hon4 (by simp) (by simp)
    have HO4 : Hid (Only (fun k => k = R) w w4) := HO3.out.trans (hon4.mono (by simp))
    clear ho4 hb4 hon4 HD3 HO3
    go_wp2
    go_ret
    exact ⟨n, g2, ls, rfl, hn1, hn2, HR4.out, HLV.out.2, HLV.out.1, HD4.out, HO4.out⟩
  · have HR : Hid (OwI w2 w.heap.size g n q) := HR1.out
    have HD : Hid (Dr w0 w2 B R a bs cap) := HD1.out
    have HO : Hid (Only (fun k => k = R) w w2) := HO1.out
    have HQ2 : Hid (q.length = n ∧ (∀ z ∈ q, 0 ≤ z ∧ z ≤ 1000) ∧ 1 ≤ (coinsS q).length) := ⟨HQ.out.1, HQ.out.2, by have := HM.out.1; omega⟩
    have hg2 := hg.2
    have hwz : w.heap.size ≤ w2.heap.size := HO.out.size
    have hm0 : ¬ (m : Int) = 0 := by omega
    clear HR1 HD1 HO1 HQ HM hg
    generalize q = q2 at *
    have HIN : Hid (∀ T, Ins (w2.alloc (.cells #[.int .i64 4, .int .i64 5, .int .i64 12] T)) (some ⟨w2.heap.size, 0, none⟩) [4, 5, 12]) := fun T => by
      have := ins_newN w2 T [4, 5, 12] (by intro z hz; simp at hz; omega)
      simpa using this
    go_wp2_with fail
    have HIN3 := HIN.out 3
    have hoa : Only (fun _ => False) w2 (w2.alloc (Obj.cells #[.int .i64 4, .int .i64 5, .int .i64 12] 3)) := (Only.refl _ _).alloc _
    have hda := HD.out.other hoa (by simp) (by simp)
    have hra := HR.out.only hoa (by simp)
    have hoo := HO.out.trans (hoa.mono (by simp))
    have hRne : w2.heap.size ≠ R := by have := HD.out.cur.lt; omega
    clear hoa HIN HD HR HO
    refine (hda.pick w2.heap.size 3 [4, 5, 12] HIN3 hRne (by simp) (by simp)).mono ?_
    rintro e w3 ⟨⟨y, hy, rfl⟩, hd3, ho3⟩
    obtain ⟨L, rfl, hL⟩ : ∃ L : Nat, y = (L : Int) ∧ (L = 4 ∨ L = 5 ∨ L = 12) := by
      simp at hy
      exact ⟨y.toNat, by omega, by omega⟩
    obtain ⟨hok, hlb, hll⟩ := drawn_ok HQ2.out.1 hn1 hn2 HQ2.out.2.1 HQ2.out.2.2 hL
    have hr3 := hra.only ho3 (by have := hra.lt; omega)
    have HLN := l2lens_any (some ⟨g, 0, none⟩) n q2 L w3 hr3.byt hok
    rw [HQ2.out.1] at HLN
    have HD3 : Hid (Dr w0 w3 B R a bs cap) := hd3
    have HO3 : Hid (Only (fun k => k = R) w w3) := hoo.trans ho3
    have HLV : Hid (lensB (lensV q2 L) = true ∧ (lensV q2 L).length = n) := ⟨hlb, hll⟩
    clear hok hlb hll hr3 hd3 ho3 hda hra hoo HIN3 hRne hy hL
    generalize lensV q2 L = ls at *
    go_wp2_with fail
    refine HLN.mono ?_
    clear HLN
    rintro e w4 ⟨⟨g2, rfl, ho4⟩, hb4⟩
    have hz3 := HO3.out.size
    have hon4 : Only (fun _ => False) w3 w4 := Only.ofBelow hb4 (Nat.le_refl _)
    have HR4 : Hid (OwI w4 w.heap.size g2 n ls) := ho4.mono hz3
    have HD4 : Hid (Dr w0 w4 B R a bs cap) := HD3.out.other hon4 (by simp) (by simp)
    have HO4 : Hid (Only (fun k => k = R) w w4) := HO3.out.trans (hon4.mono (by simp))
    clear ho4 hb4 hon4 HD3 HO3
    go_wp2
    go_ret
    exact ⟨n, g2, ls, rfl, hn1, hn2, HR4.out, HLV.out.2, HLV.out.1, HD4.out, HO4.out⟩
end Go.Proofs.YtkjebacpmmfflaaDoor
