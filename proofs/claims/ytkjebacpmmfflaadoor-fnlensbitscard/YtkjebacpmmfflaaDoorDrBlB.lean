/-
  Bent lengths.
-/
import Derived.Test.YtkjebacpmmfflaaDoorDrBl
namespace Go.Proofs.YtkjebacpmmfflaaDoor
open Go.RowKit
set_option linter.unusedVariables false

/-- A row of numbers as lengths are drawn. -/
def BentR (ls : List Int) : Prop := 1 ≤ ls.length ∧ ls.length ≤ 81 ∧ ∀ z ∈ ls, -1 ≤ z ∧ z ≤ 13
theorem bent_of {ls : List Int} {n : Nat} (hl : ls.length = n) (h1 : 1 ≤ n) (h2 : n ≤ 12) (h : lensB ls = true) : BentR ls := by
  simp only [lensB, decide_eq_true_eq] at h
  exact ⟨by omega, by omega, fun z hz => by have := h.2.2.1 z hz; omega⟩
theorem BentR.set {ls : List Int} (h : BentR ls) (y : Int) (hy : -1 ≤ y ∧ y ≤ 13) : BentR (ls.set 0 y) := by
  refine ⟨by rw [List.length_set]; exact h.1, by rw [List.length_set]; exact h.2.1, fun z hz => ?_⟩
  rcases List.mem_or_eq_of_mem_set hz with hz | rfl
  · exact h.2.2 z hz
  · exact hy
theorem BentR.app {ls : List Int} (h : BentR ls) (hl : ls.length ≤ 80) (y : Int) (hy : -1 ≤ y ∧ y ≤ 13) : BentR (ls ++ [y]) := by
  refine ⟨by simp, by simp; omega, fun z hz => ?_⟩
  rcases List.mem_append.1 hz with hz | hz
  · exact h.2.2 z hz
  · simp at hz; subst hz; exact hy
theorem bent_zero (n : Nat) (h1 : 1 ≤ n) (h2 : n ≤ 81) : BentR (List.replicate n 0) := ⟨by simpa using h1, by simpa using h2, fun z hz => by simp at hz; omega⟩
theorem OVI.ow {w : World} {B g n c : Nat} {zs : List Int} (hl : zs.length = n) (h : OVI w B (.slice (some ⟨g, 0, none⟩) n c) zs) : OwI w B g c zs := by
  subst hl
  exact ⟨h.1, h.2⟩

set_option maxHeartbeats 3200000 in
theorem Dr.bentLens {w0 w : World} {B R : Nat} {a : Option Addr} {bs : List Int} {cap : Nat} (h : Dr w0 w B R a bs cap) :
    Calls Tryd.prog 37 #[.pointer (some ⟨R, 0, none⟩)] w fun e w' => ∃ (n g c : Nat) (ls : List Int), e = .returned (.slice (some ⟨g, 0, none⟩) n c) ∧ ls.length = n ∧ BentR ls ∧ OwI w' w.heap.size g c ls ∧ Dr w0 w' B R a bs cap ∧ Only (fun k => k = R) w w' := by
  obtain ⟨i0, hi, hz0, hz1, hz2⟩ := info_parts Tryd.infoI64
  have H : Hid (Dr w0 w B R a bs cap) := h
  have hRB := h.cur.lt
  have hwB : B ≤ w.heap.size := by omega
  clear h
  go_enter Tryd.func37, Tryd.ntmps37
  go_wp2_with fail
  refine H.out.lens.mono ?_
  rintro e w1 ⟨n, g, ls, rfl, hn1, hn2, hr1, hl1, hb1, hd1, ho1⟩
  have HR1 : Hid (OwI w1 w.heap.size g n ls) := hr1
  have HD1 : Hid (Dr w0 w1 B R a bs cap) := hd1
  have HO1 : Hid (Only (fun k => k = R) w w1) := ho1
  have HL : Hid (ls.length = n ∧ BentR ls) := ⟨hl1, bent_of hl1 hn1 hn2 hb1⟩
  clear hr1 hd1 ho1 hl1 hb1 H
  go_wp2_with fail
  refine (HD1.out.once 7 (by omega) (by omega)).mono ?_
  rintro e w2 ⟨⟨b, rfl⟩, hd2, ho2⟩
  have HR2 : Hid (OwI w2 w.heap.size g n ls) := HR1.out.only ho2 (by have := HR1.out.lt; omega)
  have HD2 : Hid (Dr w0 w2 B R a bs cap) := hd2
  have HO2 : Hid (Only (fun k => k = R) w w2) := HO1.out.trans ho2
  clear hd2 ho2 HR1 HD1 HO1
  cases b
  · go_wp2
    go_ret
    exact ⟨n, g, n, ls, rfl, HL.out.1, HL.out.2, HR2.out, HD2.out, HO2.out⟩
  · go_wp2_with fail
    refine (HD2.out.below 3 (by omega) (by omega)).mono ?_
    rintro e w3 ⟨⟨x, hx1, hx2, rfl⟩, hd3, ho3⟩
    have HR3 : Hid (OwI w3 w.heap.size g n ls) := HR2.out.only ho3 (by have := HR2.out.lt; omega)
    have HD3 : Hid (Dr w0 w3 B R a bs cap) := hd3
    have HO3 : Hid (Only (fun k => k = R) w w3) := HO2.out.trans ho3
    clear hd3 ho3 HR2 HD2 HO2
    have hz3 := HO3.out.size
    have hg3 := HR3.out.lt
    obtain rfl | rfl | rfl : x = 0 ∨ x = 1 ∨ x = 2 := by omega
    · have HIN : Hid (∀ T, Ins (w3.alloc (.cells #[.int .i64 (-1), .int .i64 0, .int .i64 1, .int .i64 12, .int .i64 13] T)) (some ⟨w3.heap.size, 0, none⟩) [-1, 0, 1, 12, 13]) := fun T => by
        have := ins_newN w3 T [-1, 0, 1, 12, 13] (by intro z hz; simp at hz; omega)
        simpa using this
      go_wp2_with fail
      have hoa : Only (fun _ => False) w3 (w3.alloc (Obj.cells #[.int .i64 (-1), .int .i64 0, .int .i64 1, .int .i64 12, .int .i64 13] 3)) := (Only.refl _ w3).alloc _
      refine ((HD3.out.other hoa (by simp) (by simp)).pick w3.heap.size 5 [-1, 0, 1, 12, 13] (HIN.out _) (by have := HD3.out.cur.lt; omega) (by simp) (by simp)).mono ?_
      rintro e w4 ⟨⟨y, hy, rfl⟩, hd4, ho4⟩
      have hyr : -1 ≤ y ∧ y ≤ 13 := by simp at hy; omega
      have hr4 : OwI w4 w.heap.size g n ls := (HR3.out.only hoa (by simp)).only ho4 (by omega)
      have hc4 : w4.cell? ⟨g, 0, none⟩ = some (.int .i64 (ls.getD 0 0)) := hr4.cell 0 (by rw [HL.out.1]; exact hn1)
      have hfz := hr4.frozen 0
      have HR5 : Hid (OwI (w4.setCell ⟨g, 0, none⟩ (.int .i64 y)) w.heap.size g n (ls.set 0 y)) := hr4.store 0 y (by omega)
      have HD5 : Hid (Dr w0 (w4.setCell ⟨g, 0, none⟩ (.int .i64 y)) B R a bs cap) := hd4.other (S := fun b => b = g) (Only.setCell (Only.refl (fun b => b = g) w4) (p := ⟨g, 0, none⟩) (.inl rfl) _) (by omega) (fun b hb => by omega)
      have HO5 : Hid (Only (fun k => k = R) w (w4.setCell ⟨g, 0, none⟩ (.int .i64 y))) := Only.setCell (S := fun k => k = R) ((HO3.out.trans (hoa.mono (by simp))).trans ho4) (p := ⟨g, 0, none⟩) (.inr hg3.1) _
      clear hd4 ho4 hr4 hoa HIN HR3 HD3 HO3 hy
      go_wp2
      go_ret
      exact ⟨n, g, n, ls.set 0 y, rfl, by rw [List.length_set]; exact HL.out.1, HL.out.2.set y hyr, HR5.out, HD5.out, HO5.out⟩
    · go_wp2_with fail
      refine (HD3.out.below 13 (by omega) (by omega)).mono ?_
      rintro e w4 ⟨⟨y, hy1, hy2, rfl⟩, hd4, ho4⟩
      have HR4 : Hid (OwI w4 w.heap.size g n ls) := HR3.out.only ho4 (by omega)
      have HD4 : Hid (Dr w0 w4 B R a bs cap) := hd4
      have HO4 : Hid (Only (fun k => k = R) w w4) := HO3.out.trans ho4
      have hz4 := HO4.out.size
      have hu : w4.ownsRow w.heap.size 3 1 (.slice (some ⟨g, 0, none⟩) n n) n (ls.map (Value.int .i64)) := by have := HR4.out.1; rw [HL.out.1] at this; exact this
      clear hd4 ho4 HR3 HD3 HO3
      go_wp2_with (at_builtin; (refine wpList_append_lies _ rfl (.tmp 23) (.tmp 26) 23 rfl w.heap.size 3 i0 (.int .i64 0) 1 8 Tryd.underlying23 hi hz0 hz1 hz2 rfl (by decide) (.slice (some ⟨g, 0, none⟩) n n) n (ls.map (Value.int .i64)) rfl (hu.alloc _) ⟨w4.heap.size, 0, none⟩ 1 1 [.int .i64 y] rfl rfl (by intro j u hj; match j, hj with | 0, hj => (simp at hj; subst hj; simp [Addr.add])) (by intro u hu; simp at hu; subst hu; rfl) (by omega) (by unfold maxLen; omega) (by omega) (by simp; omega) _ rfl ?_); intro g5 cap5 w5 hown hgrow hat hlt1; have HOV5 : Hid (OVI w5 w.heap.size (.slice (some ⟨g5, 0, none⟩) (n + 1) cap5) (ls ++ [y])) := OVI.app HL.out.1 HR4.out.2 (by omega) hown; have hon5 : Only (fun b => (Value.slice (some ⟨g, 0, none⟩) n n).ownBlock = some b) w4 w5 := Only.grown ((Only.refl _ w4).alloc _) hgrow (fun b hb => .inl hb); have hbk : ∀ b, (Value.slice (some ⟨g, 0, none⟩) n n).ownBlock = some b → b = g := (fun b hb => by simp [Value.ownBlock] at hb; omega); have HD5 : Hid (Dr w0 w5 B R a bs cap) := HD4.out.other hon5 (fun hh => by have := hbk _ hh; omega) (fun b hh => by have := hbk _ hh; omega); have HO5 : Hid (Only (fun k => k = R) w w5) := Only.grown (HO4.out.alloc _) hgrow (fun b hb => .inr (by have := hbk _ hb; omega)); clear hown hgrow hat hlt1 hon5 hbk hu HR4 HD4 HO4)
      go_ret
      exact ⟨n + 1, g5, cap5, ls ++ [y], by simp, by simp [HL.out.1], HL.out.2.app (by rw [HL.out.1]; omega) y (by omega), OVI.ow (by simp [HL.out.1]) HOV5.out, HD5.out, HO5.out⟩
    · go_wp2_with fail
      refine (HD3.out.below 2 (by omega) (by omega)).mono ?_
      rintro e w4 ⟨⟨y, hy1, hy2, rfl⟩, hd4, ho4⟩
      obtain ⟨m, hm⟩ : ∃ m : Nat, 80 + y = m := ⟨(80 + y).toNat, by omega⟩
      have HD4 : Hid (Dr w0 w4 B R a bs cap) := hd4
      have HO4 : Hid (Only (fun k => k = R) w w4) := HO3.out.trans ho4
      have hz4 := HO4.out.size
      have hm1 : 1 ≤ m := by omega
      have hm2 : m ≤ 81 := by omega
      clear hd4 ho4 HR3 HD3 HO3
      go_wp2_with (at_make; refine wpList_make_full _ rfl _ _ 23 rfl w.heap.size 3 i0 (.int .i64 0) 1 Tryd.underlying23 hi hz0 hz1 .i64 .i64 _ _ m (by simp [Act.eval]; try omega) rfl rfl rfl (by rw [hz2]; omega) (by unfold maxLen; omega) hz4 ?_; intro w5 hown hgrow; have hon5 : Only (fun _ => False) w4 w5 := Only.grown (Only.refl _ w4) hgrow (fun k hk => by cases hk); have HR5 : Hid (OwI w5 w.heap.size w4.heap.size m (List.replicate m 0)) := (by rw [made_zeroI] at hown; exact ⟨by simpa using hown, by intro z hz; simp at hz; omega⟩); have HD5 : Hid (Dr w0 w5 B R a bs cap) := HD4.out.other hon5 (by simp) (by simp); have HO5 : Hid (Only (fun k => k = R) w w5) := HO4.out.trans (hon5.mono (by simp)); clear hown hgrow hon5 HD4 HO4)
      go_ret
      exact ⟨m, w4.heap.size, m, List.replicate m 0, rfl, by simp, bent_zero m hm1 hm2, HR5.out, HD5.out, HO5.out⟩
end Go.Proofs.YtkjebacpmmfflaaDoor
