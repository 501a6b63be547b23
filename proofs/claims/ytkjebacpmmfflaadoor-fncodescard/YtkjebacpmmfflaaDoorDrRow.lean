/-
  Drawn counts.
-/
import Derived.Test.YtkjebacpmmfflaaDoorDraw2
import Derived.Test.YtkjebacpmmfflaaDoorIList
namespace Go.Proofs.YtkjebacpmmfflaaDoor
open Go.RowKit
set_option linter.unusedVariables false

theorem ins_newN (W : World) (T : TypeId) (zs : List Int) (hr : ∀ z ∈ zs, -9223372036854775808 ≤ z ∧ z ≤ 9223372036854775807) : Ins (W.alloc (.cells (zs.map (Value.int .i64)).toArray T)) (some ⟨W.heap.size, 0, none⟩) zs := by
  refine ⟨hr, fun hp => ⟨W.heap.size, 0, rfl, by simp, fun i hi => ?_⟩⟩
  rw [Nat.zero_add, cell_of_row _ W.heap.size i _ T (0, 0) (heap_alloc_new W _)]
  simp [hi]
/-- A row of n counts at g, each at most m. -/
def Row (w : World) (B g n : Nat) (m : Int) : Prop := ∃ q : List Int, OwI w B g n q ∧ q.length = n ∧ ∀ z ∈ q, 0 ≤ z ∧ z ≤ m
theorem Row.only {w w' : World} {B g n : Nat} {m : Int} {S : Nat → Prop} (h : Row w B g n m) (ho : Only S w w') (hs : ¬ S g) : Row w' B g n m := by
  obtain ⟨q, h1, h2, h3⟩ := h
  exact ⟨q, h1.only ho hs, h2, h3⟩
theorem Row.store {w : World} {B g n : Nat} {m : Int} (h : Row w B g n m) (i : Nat) (z : Int) (hz : 0 ≤ z ∧ z ≤ m) (hm : m ≤ 1000000) : Row (w.setCell ⟨g, i, none⟩ (.int .i64 z)) B g n m := by
  obtain ⟨q, h1, h2, h3⟩ := h
  refine ⟨q.set i z, h1.store i z (by omega), by simpa using h2, fun y hy => ?_⟩
  rcases List.mem_or_eq_of_mem_set hy with hy | rfl
  · exact h3 y hy
  · exact hz
theorem Row.cell {w : World} {B g n : Nat} {m : Int} (h : Row w B g n m) (i : Nat) (hi : i < n) : ∃ v, w.cell? ⟨g, i, none⟩ = some (.int .i64 v) := by
  obtain ⟨q, h1, h2, h3⟩ := h
  exact ⟨_, h1.cell i (by omega)⟩
theorem Row.frozen {w : World} {B g n : Nat} {m : Int} (h : Row w B g n m) (i : Nat) : w.frozen? ⟨g, i, none⟩ = false := by
  obtain ⟨q, h1, h2, h3⟩ := h
  exact h1.frozen i
theorem Row.lt {w : World} {B g n : Nat} {m : Int} (h : Row w B g n m) : B ≤ g ∧ g < w.heap.size := by
  obtain ⟨q, h1, h2, h3⟩ := h
  exact h1.lt

set_option maxHeartbeats 3200000 in
theorem Dr.counts {w0 w : World} {B R : Nat} {a : Option Addr} {bs : List Int} {cap : Nat} (h : Dr w0 w B R a bs cap) :
    Calls Tryd.prog 27 #[.pointer (some ⟨R, 0, none⟩)] w fun e w' => ∃ n g : Nat, e = .returned (.slice (some ⟨g, 0, none⟩) n n) ∧ 1 ≤ n ∧ n ≤ 12 ∧ Row w' w.heap.size g n 1000 ∧ Dr w0 w' B R a bs cap ∧ Only (fun k => k = R) w w' := by
  obtain ⟨i0, hi, hz0, hz1, hz2⟩ := info_parts Tryd.infoI64
  have H : Hid (Dr w0 w B R a bs cap) := h
  have hRB := h.cur.lt
  have hwB : B ≤ w.heap.size := by omega
  clear h
  go_enter Tryd.func27, Tryd.ntmps27
  go_wp2_with fail
  refine (H.out.below 12 (by omega) (by omega)).mono ?_
  rintro e w1 ⟨⟨N, hN1, hN2, rfl⟩, hd, ho⟩
  obtain ⟨n, rfl⟩ := Int.eq_ofNat_of_zero_le hN1
  have HD : Hid (Dr w0 w1 B R a bs cap) := hd
  have HO : Hid (Only (fun k => k = R) w w1) := ho
  have hn : n < 12 := by omega
  have hs1 := ho.size
  clear hd ho H hN1 hN2
  have e1 : (1 : Int) + (n : Nat) = ((1 + n : Nat) : Int) := by simp
  have hn1 : 1 + n ≤ 12 := by omega
  have hn2 : 1 ≤ 1 + n := by omega
  generalize 1 + n = m at *
  go_wp2_with (at_make; refine wpList_make_full _ rfl _ _ 23 rfl w.heap.size 3 i0 (.int .i64 0) 1 Tryd.underlying23 hi hz0 hz1 .i64 .i64 _ _ m (by simp [Act.eval]; try omega) rfl rfl rfl (by rw [hz2]; omega) (by unfold maxLen; omega) hs1 ?_; intro w2 hown hgrow)
  have honly2 : Only (fun _ => False) w1 w2 := Only.grown (Only.refl _ w1) hgrow (fun k hk => by cases hk)
  have HR2 : Hid (Row w2 w.heap.size w1.heap.size m 1000) := by
    refine ⟨List.replicate m 0, ⟨?_, by intro z hz; simp at hz; omega⟩, by simp, by intro z hz; simp at hz; omega⟩
    rw [made_zeroI] at hown
    simpa using hown
  have HD2 : Hid (Dr w0 w2 B R a bs cap) := HD.out.other honly2 (by simp) (by simp)
  have HO2 : Hid (Only (fun k => k = R) w w2) := HO.out.trans (honly2.mono (by simp))
  clear hown hgrow honly2 hi hz0 hz1 hz2 HD HO e1 hn
  generalize w1.heap.size = g at *
  go_loopw [4] (fun i wr => ∃ k : Nat, k ≤ m ∧ i = .int .i64 k ∧ Row wr w.heap.size g m 1000 ∧ Dr w0 wr B R a bs cap ∧ Only (fun k => k = R) w wr) (fun i _ => m - (intOf i).toNat)
  case atStart => exact ⟨0, Nat.zero_le _, rfl, HR2.out, HD2.out, HO2.out⟩
  case round =>
    clear HR2 HD2 HO2
    obtain ⟨k, hk, rfl, hr, hd, ho⟩ := hrel
    have HR : Hid (Row wr w.heap.size g m 1000) := hr
    have HD : Hid (Dr w0 wr B R a bs cap) := hd
    have HO : Hid (Only (fun k => k = R) w wr) := ho
    clear hr hd ho
    by_cases hlt : k < m
    · go_wp2_with fail
      refine (HD.out.once 4 (by omega) (by omega)).mono ?_
      rintro e w3 ⟨⟨b, rfl⟩, hd3, ho3⟩
      have HR3 : Hid (Row w3 w.heap.size g m 1000) := HR.out.only ho3 (by omega)
      have HD3 : Hid (Dr w0 w3 B R a bs cap) := hd3
      have HO3 : Hid (Only (fun k => k = R) w w3) := HO.out.trans ho3
      clear hd3 ho3 HR HD HO
      cases b
      · go_wp2_with fail
        refine (HD3.out.below 90 (by omega) (by omega)).mono ?_
        rintro e w4 ⟨⟨x, hx1, hx2, rfl⟩, hd4, ho4⟩
        have HR4 : Hid (Row w4 w.heap.size g m 1000) := HR3.out.only ho4 (by omega)
        have HD4 : Hid (Dr w0 w4 B R a bs cap) := hd4
        have HO4 : Hid (Only (fun k => k = R) w w4) := HO3.out.trans ho4
        clear hd4 ho4 HR3 HD3 HO3
        have HIN : Hid (∀ T, Ins (w4.alloc (.cells #[.int .i64 1, .int .i64 1, .int .i64 2, .int .i64 3, .int .i64 10, .int .i64 1000, .int .i64 x] T)) (some ⟨w4.heap.size, 0, none⟩) [1, 1, 2, 3, 10, 1000, x]) := fun T => by
          have := ins_newN w4 T [1, 1, 2, 3, 10, 1000, x] (by intro z hz; simp at hz; omega)
          simpa using this
        have hz4 : R < w4.heap.size := HD4.out.cur.lt.2
        have hg4 : g < w4.heap.size := HR4.out.lt.2
        go_wp2_with fail
        have hoa : Only (fun _ => False) w4 (w4.alloc (Obj.cells #[.int .i64 1, .int .i64 1, .int .i64 2, .int .i64 3, .int .i64 10, .int .i64 1000, .int .i64 x] 3)) := (Only.refl _ w4).alloc _
        refine ((HD4.out.other hoa (by simp) (by simp)).pick w4.heap.size 7 [1, 1, 2, 3, 10, 1000, x] (HIN.out _) (by omega) (by simp) (by simp)).mono ?_
        rintro e w5 ⟨⟨y, hy, rfl⟩, hd5, ho5⟩
        have hyr : 0 ≤ y ∧ y ≤ 1000 := by simp at hy; omega
        have hr5 : Row w5 w.heap.size g m 1000 := (HR4.out.only hoa (by simp)).only ho5 (by omega)
        have ho5' : Only (fun k => k = R) w w5 := (HO4.out.trans (hoa.mono (by simp))).trans ho5
        obtain ⟨old, hdst⟩ := hr5.cell k hlt
        have hfz := hr5.frozen k
        have HR6 : Hid (Row (w5.setCell ⟨g, k, none⟩ (.int .i64 y)) w.heap.size g m 1000) := hr5.store k y hyr (by omega)
        have HO6 : Hid (Only (fun k => k = R) w (w5.setCell ⟨g, k, none⟩ (.int .i64 y))) := Only.setCell (S := fun k => k = R) ho5' (p := ⟨g, k, none⟩) (.inr hs1) _
        have HD6 : Hid (Dr w0 (w5.setCell ⟨g, k, none⟩ (.int .i64 y)) B R a bs cap) := hd5.other (S := fun b => b = g) (Only.setCell (Only.refl (fun b => b = g) w5) (p := ⟨g, k, none⟩) (.inl rfl) _) (by omega) (fun b hb => by omega)
        clear hr5 ho5' ho5 hd5 hoa HIN HR4 HD4 HO4 hy
        go_wp2
        go_roundw
        case rel => exact ⟨k + 1, by omega, by go_num, by simpa using HR6.out, by simpa using HD6.out, by simpa using HO6.out⟩
        case measure => simp [intOf]; omega
      · go_wp2
        go_roundw
        case rel => exact ⟨k + 1, by omega, by go_num, HR3.out, HD3.out, HO3.out⟩
        case measure => simp [intOf]; omega
    · go_wp2
      go_ret
      exact ⟨m, g, rfl, hn2, hn1, HR.out, HD.out, HO.out⟩
end Go.Proofs.YtkjebacpmmfflaaDoor
