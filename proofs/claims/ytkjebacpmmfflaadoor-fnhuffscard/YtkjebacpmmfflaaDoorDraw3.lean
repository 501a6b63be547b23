/-
  A drawn text.
-/
import Derived.Test.YtkjebacpmmfflaaDoorDrRow
import Derived.Test.YtkjebacpmmfflaaDoorPcV
namespace Go.Proofs.YtkjebacpmmfflaaDoor
open Go.RowKit
set_option linter.unusedVariables false

theorem ins_new (W : World) (T : TypeId) (zs : List Int) (hr : ∀ z ∈ zs, -9223372036854775808 ≤ z ∧ z ≤ 9223372036854775807) : Ins (W.alloc (.cells (zs.map (Value.int .i64)).toArray T)) (some ⟨W.heap.size, 0, none⟩) zs := by
  refine ⟨hr, fun hp => ⟨W.heap.size, 0, rfl, by simp, fun i hi => ?_⟩⟩
  rw [Nat.zero_add, cell_of_row _ W.heap.size i _ T (0, 0) (heap_alloc_new W _)]
  simp [hi]

set_option maxHeartbeats 3200000 in
theorem Dr.text {w0 w : World} {B R : Nat} {a : Option Addr} {bs : List Int} {cap : Nat} (h : Dr w0 w B R a bs cap) (s : Int) (hs1 : 1 ≤ s) (hs2 : s ≤ 90) :
    Calls Tryd.prog 39 #[.pointer (some ⟨R, 0, none⟩), .int .i64 s] w fun e w' => ∃ (v : Value) (l : List Int), e = .returned v ∧ OVI w' w.heap.size v l ∧ l.length ≤ 30 ∧ (∀ z ∈ l, 0 ≤ z ∧ z < s) ∧ Dr w0 w' B R a bs cap ∧ Only (fun k => k = R) w w' := by
  obtain ⟨i0, hi, hz0, hz1, hz2⟩ := info_parts Tryd.infoI64
  have H : Hid (Dr w0 w B R a bs cap) := h
  have hRB := h.cur.lt
  have hwB : B ≤ w.heap.size := by omega
  clear h
  go_enter Tryd.func39, Tryd.ntmps39
  go_wp2_with fail
  refine (H.out.below 30 (by omega) (by omega)).mono ?_
  rintro e w1 ⟨⟨N, hN1, hN2, rfl⟩, hd, ho⟩
  obtain ⟨n, rfl⟩ := Int.eq_ofNat_of_zero_le hN1
  have HD : Hid (Dr w0 w1 B R a bs cap) := hd
  have HO : Hid (Only (fun k => k = R) w w1) := ho
  have hn : n < 30 := by omega
  clear hd ho H hN1 hN2
  go_wp2
  go_loopw [5, 7] (fun o i wr => ∃ (k : Nat) (q : List Int), k ≤ n ∧ i = .int .i64 k ∧ OVI wr w.heap.size o q ∧ q.length = k ∧ (∀ z ∈ q, 0 ≤ z ∧ z < s) ∧ Dr w0 wr B R a bs cap ∧ Only (fun k => k = R) w wr) (fun _ i _ => n - (intOf i).toNat)
  case atStart => exact ⟨0, [], Nat.zero_le _, rfl, OVI.nil _ _, rfl, by simp, HD.out, HO.out⟩
  case round =>
    clear HD HO
    obtain ⟨k, q, hk, rfl, hov, hql, hqr, hd, ho⟩ := hrel
    obtain ⟨au, cu, rfl⟩ := hov.form
    have HQL : Hid (q.length = k) := hql
    rw [hql] at hov ⊢
    have HQR : Hid (∀ z ∈ q, 0 ≤ z ∧ z < s) := hqr
    have HOV : Hid (OVI wr w.heap.size (.slice au k cu) q) := hov
    have HD : Hid (Dr w0 wr B R a bs cap) := hd
    have HO : Hid (Only (fun k => k = R) w wr) := ho
    clear hov hql hqr hd ho
    by_cases hlt : k < n
    · go_wp2_with fail
      refine (HD.out.below s (by omega) (by omega)).mono ?_
      rintro e w2 ⟨⟨x, hx1, hx2, rfl⟩, hd2, ho2⟩
      have HD2 : Hid (Dr w0 w2 B R a bs cap) := hd2
      have HO2 : Hid (Only (fun k => k = R) w w2) := HO.out.trans ho2
      have HOV2 : Hid (OVI w2 w.heap.size (.slice au k cu) q) := HOV.out.only ho2 (fun b hb => by omega)
      clear hd2 ho2 HD HO HOV
      go_wp2_with fail
      refine (HD2.out.once 2 (by omega) (by omega)).mono ?_
      rintro e w3 ⟨⟨b, rfl⟩, hd3, ho3⟩
      have HD3 : Hid (Dr w0 w3 B R a bs cap) := hd3
      have HO3 : Hid (Only (fun k => k = R) w w3) := HO2.out.trans ho3
      have HOV3 : Hid (OVI w3 w.heap.size (.slice au k cu) q) := HOV2.out.only ho3 (fun b hb => by omega)
      have hz3 := HO3.out.size
      have hu : w3.ownsRow w.heap.size 3 1 (.slice au k cu) k (q.map (Value.int .i64)) := by have := HOV3.out.1; rw [HQL.out] at this; exact this
      clear hd3 ho3 HD2 HO2 HOV2
      cases b
      · go_wp2_with (at_builtin; (refine wpList_append_lies _ rfl (.tmp 23) (.tmp 25) 23 rfl w.heap.size 3 i0 (.int .i64 0) 1 8 Tryd.underlying23 hi hz0 hz1 hz2 rfl (by decide) (.slice au k cu) k (q.map (Value.int .i64)) rfl (hu.alloc _) ⟨w3.heap.size, 0, none⟩ 1 1 [.int .i64 x] rfl rfl (by intro j y hj; match j, hj with | 0, hj => (simp at hj; subst hj; simp [Addr.add])) (by intro y hy; simp at hy; subst hy; rfl) (by omega) (by unfold maxLen; omega) (by omega) (by simp; omega) _ rfl ?_); intro g cap1 w4 hown hgrow hat hlt1)
        have HOV4 : Hid (OVI w4 w.heap.size (.slice (some ⟨g, 0, none⟩) (k + 1) cap1) (q ++ [x])) := OVI.app HQL.out HOV3.out.2 (by omega) hown
        have hon4 : Only (fun b => (Value.slice au k cu).ownBlock = some b) w3 w4 := Only.grown ((Only.refl _ w3).alloc _) hgrow (fun b hb => .inl hb)
        have HD4 : Hid (Dr w0 w4 B R a bs cap) := HD3.out.other hon4 (fun hh => by have := HOV3.out.blk hh; omega) (fun b hh => by have := HOV3.out.blk hh; omega)
        have HO4 : Hid (Only (fun k => k = R) w w4) := Only.grown (HO3.out.alloc _) hgrow (fun b hb => .inr (HOV3.out.blk hb))
        clear hown hgrow hat hlt1 hon4 HOV3 HD3 HO3 hu
        go_roundw
        case rel => exact ⟨k + 1, q ++ [x], by omega, by go_num, HOV4.out, by rw [List.length_append, HQL.out]; rfl, by
          intro z hz
          rcases List.mem_append.1 hz with hz | hz
          · exact HQR.out z hz
          · simp at hz; subst hz; omega, HD4.out, HO4.out⟩
        case measure => simp [intOf]; omega
      · go_wp2_with (at_builtin; (refine wpList_append_lies _ rfl (.tmp 23) (.tmp 25) 23 rfl w.heap.size 3 i0 (.int .i64 0) 1 8 Tryd.underlying23 hi hz0 hz1 hz2 rfl (by decide) (.slice au k cu) k (q.map (Value.int .i64)) rfl (hu.alloc _) ⟨w3.heap.size, 0, none⟩ 1 1 [.int .i64 (x / 3)] rfl rfl (by intro j y hj; match j, hj with | 0, hj => (simp at hj; subst hj; simp [Addr.add])) (by intro y hy; simp at hy; subst hy; rfl) (by omega) (by unfold maxLen; omega) (by omega) (by simp; omega) _ rfl ?_); intro g cap1 w4 hown hgrow hat hlt1)
        have HOV4 : Hid (OVI w4 w.heap.size (.slice (some ⟨g, 0, none⟩) (k + 1) cap1) (q ++ [(x / 3)])) := OVI.app HQL.out HOV3.out.2 (by omega) hown
        have hon4 : Only (fun b => (Value.slice au k cu).ownBlock = some b) w3 w4 := Only.grown ((Only.refl _ w3).alloc _) hgrow (fun b hb => .inl hb)
        have HD4 : Hid (Dr w0 w4 B R a bs cap) := HD3.out.other hon4 (fun hh => by have := HOV3.out.blk hh; omega) (fun b hh => by have := HOV3.out.blk hh; omega)
        have HO4 : Hid (Only (fun k => k = R) w w4) := Only.grown (HO3.out.alloc _) hgrow (fun b hb => .inr (HOV3.out.blk hb))
        clear hown hgrow hat hlt1 hon4 HOV3 HD3 HO3 hu
        go_roundw
        case rel => exact ⟨k + 1, q ++ [(x / 3)], by omega, by go_num, HOV4.out, by rw [List.length_append, HQL.out]; rfl, by
          intro z hz
          rcases List.mem_append.1 hz with hz | hz
          · exact HQR.out z hz
          · simp at hz; subst hz; omega, HD4.out, HO4.out⟩
        case measure => simp [intOf]; omega
    · have hkn : k = n := by omega
      subst hkn
      go_wp2
      go_ret
      exact ⟨_, q, rfl, HOV.out, by rw [HQL.out]; omega, HQR.out, HD.out, HO.out⟩
end Go.Proofs.YtkjebacpmmfflaaDoor
