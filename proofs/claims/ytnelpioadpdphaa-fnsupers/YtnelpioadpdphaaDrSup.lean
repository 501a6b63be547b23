/-
  A drawn sector that may be a saved map: the model's l8super, DrawNewest, DrawSuperBytes.
-/
import Derived.Test.YtnelpioadpdphaaDrBnM
import Derived.Test.YtnelpioadpdphaaDrBig
import Derived.Test.YtnelpioadpdphaaMpSm
namespace Go.Proofs.Ytnelpioadpdphaa
open Go.RowKit
set_option linter.unusedVariables false
set_option linter.unusedSimpArgs false

/-- Bytes that were drawn: where they are, and how much room there is. -/
structure DrY (w W : World) (sa : Option Addr) (sc : Nat) (zs : List Int) : Prop where
  byt : Byt W sa zs
  len : zs.length ≤ 256
  cap : zs.length ≤ sc ∧ sc ≤ maxLen
  blk : ∀ k, rowOf sa k → w.heap.size ≤ k ∧ k < W.heap.size
theorem DrY.only {S : Nat → Prop} {w W W' : World} {sa : Option Addr} {sc : Nat} {zs : List Int} (h : DrY w W sa sc zs) (ho : Only S W W') (hs : ∀ k, w.heap.size ≤ k → ¬ S k) : DrY w W' sa sc zs := by
  refine ⟨⟨h.byt.1, fun hp => ?_⟩, h.len, h.cap, fun k hk => ⟨(h.blk k hk).1, Nat.lt_of_lt_of_le (h.blk k hk).2 ho.size⟩⟩
  obtain ⟨b, o, rfl, hl, hc⟩ := h.byt.2 hp
  have hb := (h.blk b ⟨_, rfl, rfl⟩).1
  exact ⟨b, o, rfl, Nat.lt_of_lt_of_le hl ho.size, fun i hi => ho.cell hl (hs b hb) (hc i hi)⟩
theorem DrY.weak {w v W : World} {sa : Option Addr} {sc : Nat} {zs : List Int} (h : DrY w W sa sc zs) (hv : v.heap.size ≤ w.heap.size) : DrY v W sa sc zs := ⟨h.byt, h.len, h.cap, fun k hk => ⟨Nat.le_trans hv (h.blk k hk).1, (h.blk k hk).2⟩⟩
theorem ins6 (W : World) (T : TypeId) : Ins (W.alloc (.cells #[.int .i64 0, .int .i64 3, .int .i64 4, .int .i64 5, .int .i64 9, .int .i64 255] T)) (some ⟨W.heap.size, 0, none⟩) [0, 3, 4, 5, 9, 255] := by
  have := ins_new8 W T [0, 3, 4, 5, 9, 255] (by intro z hz; simp at hz; omega)
  simpa using this
theorem ins5b (W : World) (T : TypeId) : Ins (W.alloc (.cells #[.int .i64 0, .int .i64 1, .int .i64 2, .int .i64 30, .int .i64 255] T)) (some ⟨W.heap.size, 0, none⟩) [0, 1, 2, 30, 255] := by
  have := ins_new8 W T [0, 1, 2, 30, 255] (by intro z hz; simp at hz; omega)
  simpa using this
theorem ins6b (W : World) (T : TypeId) : Ins (W.alloc (.cells #[.int .i64 0, .int .i64 1, .int .i64 257, .int .i64 60000, .int .i64 60001, .int .i64 (-1)] T)) (some ⟨W.heap.size, 0, none⟩) [0, 1, 257, 60000, 60001, -1] := by
  have := ins_new8 W T [0, 1, 257, 60000, 60001, -1] (by intro z hz; simp at hz; omega)
  simpa using this
theorem Own.caps {w : World} {B g cap : Nat} {zs : List Int} (h : Own w B g cap zs) : zs.length ≤ cap ∧ cap ≤ maxLen := by
  rcases h.1.2 with ⟨e, _⟩ | ⟨g', cap', cur, e, _, _, h1, h2, _⟩
  · simp at e
  · simp at e
    obtain ⟨-, rfl⟩ := e
    exact ⟨h1, h2⟩

set_option maxRecDepth 20000 in
set_option maxHeartbeats 8000000 in
theorem Dr.super {w0 w : World} {B R : Nat} {a : Option Addr} {bs : List Int} {cap : Nat} (h : Dr w0 w B R a bs cap) :
    Calls Try.prog 20 #[.pointer (some ⟨R, 0, none⟩)] w fun e w' => ∃ (sa : Option Addr) (sc : Nat) (zs : List Int), e = .returned (.slice sa zs.length sc) ∧ DrY w w' sa sc zs ∧ Dr w0 w' B R a bs cap ∧ Only (fun k => k = R) w w' := by
  have hRB := h.cur.lt
  have H : Hid (Dr w0 w B R a bs cap) := h
  clear h
  go_enter Try.func20, Try.ntmps20
  go_wp2_with fail
  refine (H.out.belowBig 300 (by omega) (by omega)).mono ?_
  rintro e w1 ⟨⟨x, hx1, hx2, rfl⟩, hd1, ho1⟩
  have H1 : Hid (Dr w0 w1 B R a bs cap ∧ Only (fun k => k = R) w w1) := ⟨hd1, ho1⟩
  clear hd1 ho1 H
  go_wp2_with fail
  refine H1.out.1.map.mono ?_
  rintro e w2 ⟨g, ps, rfl, hp1, hp9, hbp, how, hd2, ho2⟩
  have H2 : Hid (Dr w0 w2 B R a bs cap ∧ Only (fun k => k = R) w w2) := ⟨hd2, H1.out.2.trans ho2⟩
  have HL := l8bytes_any (some ⟨g, 0, none⟩) ps.length ps x w2 how.pls hbp ⟨hp1, by omega⟩ ⟨hx1, by omega⟩
  have hsl := sbL_len x ps (by omega)
  clear hd2 ho2 H1 how hbp
  go_wp2_with fail
  refine HL.mono ?_
  clear HL
  rintro e w3 ⟨⟨v, rfl, hov⟩, hb3⟩
  have ho3 : Only (fun _ => False) w2 w3 := Only.ofBelow hb3 (Nat.le_refl _)
  have hs2 := H2.out.2.size
  obtain ⟨va, vc, rfl, hmi⟩ := hov.mine
  have H3 : Hid (Dr w0 w3 B R a bs cap ∧ Only (fun k => k = R) w w3) := ⟨H2.out.1.other ho3 (by simp) (by simp), H2.out.2.trans (ho3.mono (by simp))⟩
  obtain ⟨gz, rfl, g1, g2, hown⟩ : ∃ gz, va = some ⟨gz, 0, none⟩ ∧ w2.heap.size ≤ gz ∧ gz < w3.heap.size ∧ Own w3 w2.heap.size gz vc (sbL x ps) := by
    rcases hmi with ⟨-, h0, -⟩ | ⟨gz, e, h1, h2, h3⟩
    · rw [h0] at hsl; simp at hsl
    · exact ⟨gz, e, h1, h2, h3⟩
  have HOW : Hid (Own w3 w.heap.size gz vc (sbL x ps)) := hown.mono hs2
  have hgR : w.heap.size ≤ gz := by omega
  generalize sbL x ps = zs at *
  clear hov hmi hb3 ho3 H2 hown g1 g2 hs2
  -- whatever is written into it, it has 256 bytes
  have HEND : Hid (∀ (W : World) (ys : List Int), Own W w.heap.size gz vc ys → ys.length = 256 → Dr w0 W B R a bs cap → Only (fun k => k = R) w W → DrY w W (some ⟨gz, 0, none⟩) vc ys ∧ DrY w W (some ⟨gz, 1, none⟩) (vc - 1) (ys.drop 1) ∧ 1 < vc) := by
    intro W ys h1 h2 h3 h4
    have hc := h1.caps
    have hl := h1.lt
    refine ⟨⟨h1.byt, by omega, hc, fun k hk => ?_⟩, ⟨?_, by simp; omega, by rw [List.length_drop]; omega, fun k hk => ?_⟩, by omega⟩
    · obtain ⟨q, e, rfl⟩ := hk
      have : q = ⟨gz, 0, none⟩ := by simpa using e.symm
      rw [this]; exact hl
    · have := h1.byt.drop 1
      simpa using this
    · obtain ⟨q, e, rfl⟩ := hk
      have : q = ⟨gz, 1, none⟩ := by simpa using e.symm
      rw [this]; exact hl
  rw [hsl]
  have HZL : Hid (zs.length = 256 ∧ True) := ⟨hsl, trivial⟩
  clear hsl
  go_wp2_with fail
  refine (H3.out.1.once 4 (by omega) (by omega)).mono ?_
  rintro e w4 ⟨⟨bb, rfl⟩, hd4, ho4⟩
  have H4 : Hid (Dr w0 w4 B R a bs cap ∧ Only (fun k => k = R) w w4 ∧ Own w4 w.heap.size gz vc zs) := ⟨hd4, H3.out.2.trans ho4, HOW.out.only ho4 (by omega)⟩
  clear hd4 ho4 H3 HOW
  have HLAST : Hid (∀ (W : World) (ys : List Int), Own W w.heap.size gz vc ys → ys.length = 256 → Dr w0 W B R a bs cap → Only (fun k => k = R) w W → True) := fun _ _ _ _ _ _ => trivial
  cases bb with
  | false =>
    go_wp2_with fail
    refine (H4.out.1.once 20 (by omega) (by omega)).mono ?_
    rintro e w5 ⟨⟨cc, rfl⟩, hd5, ho5⟩
    have HE := HEND.out w5 zs (H4.out.2.2.only ho5 (by omega)) HZL.out.1 hd5 (H4.out.2.1.trans ho5)
    have HF : Hid (DrY w w5 (some ⟨gz, 0, none⟩) vc zs ∧ DrY w w5 (some ⟨gz, 1, none⟩) (vc - 1) (zs.drop 1) ∧ Dr w0 w5 B R a bs cap ∧ Only (fun k => k = R) w w5) := ⟨HE.1, HE.2.1, hd5, H4.out.2.1.trans ho5⟩
    have hvc : 1 < vc := HE.2.2
    have hvc2 : 256 ≤ vc := by have := HE.1.cap; have := HZL.out.1; omega
    clear HE hd5 ho5 H4 HEND
    cases cc with
    | false =>
      go_wp2
      go_ret
      exact ⟨_, _, zs, by rw [HZL.out.1]; rfl, HF.out.1, HF.out.2.2.1, HF.out.2.2.2⟩
    | true =>
      have hv1 : ¬ vc = 1 := by omega
      have hv2 : 1 ≤ vc := by omega
      go_wp2
      go_ret
      exact ⟨_, _, zs.drop 1, by rw [List.length_drop, HZL.out.1]; rfl, HF.out.2.1, HF.out.2.2.1, HF.out.2.2.2⟩
  | true =>
    go_wp2_with fail
    have hz4 : R < w4.heap.size := H4.out.1.cur.lt.2
    have hoa : Only (fun _ => False) w4 (w4.alloc (Obj.cells #[.int .i64 0, .int .i64 3, .int .i64 4, .int .i64 5, .int .i64 9, .int .i64 255] 3)) := (Only.refl _ w4).alloc _
    refine ((H4.out.1.other hoa (by simp) (by simp)).pick w4.heap.size 6 [0, 3, 4, 5, 9, 255] (ins6 _ _) (by omega) (by simp) (by simp)).mono ?_
    rintro e w5 ⟨⟨j, jm, rfl⟩, hd5, ho5⟩
    have H5 : Hid (Dr w0 w5 B R a bs cap ∧ Only (fun k => k = R) w w5 ∧ Own w5 w.heap.size gz vc zs) := ⟨hd5, (H4.out.2.1.trans (hoa.mono (by simp))).trans ho5, (H4.out.2.2.only hoa (by simp)).only ho5 (by omega)⟩
    have hj : 0 ≤ j ∧ j < 256 := by simp at jm; omega
    clear hd5 ho5 hoa H4 jm
    go_wp2_with fail
    have hz5 : R < w5.heap.size := H5.out.1.cur.lt.2
    have hob : Only (fun _ => False) w5 (w5.alloc (Obj.cells #[.int .i64 0, .int .i64 1, .int .i64 2, .int .i64 30, .int .i64 255] 3)) := (Only.refl _ w5).alloc _
    refine ((H5.out.1.other hob (by simp) (by simp)).pick w5.heap.size 5 [0, 1, 2, 30, 255] (ins5b _ _) (by omega) (by simp) (by simp)).mono ?_
    rintro e w6 ⟨⟨y, ym, rfl⟩, hd6, ho6⟩
    have H6 : Hid (Dr w0 w6 B R a bs cap ∧ Only (fun k => k = R) w w6 ∧ Own w6 w.heap.size gz vc zs) := ⟨hd6, (H5.out.2.1.trans (hob.mono (by simp))).trans ho6, (H5.out.2.2.only hob (by simp)).only ho6 (by omega)⟩
    have hy : 0 ≤ y ∧ y ≤ 255 := by simp at ym; omega
    clear hd6 ho6 hob H5 ym
    obtain ⟨j, rfl⟩ := Int.eq_ofNat_of_zero_le hj.1
    have hj2 : j < 256 := by omega
    have q0 := H6.out.2.2.cell j (by rw [HZL.out.1]; exact hj2)
    have z0 := H6.out.2.2.frozen j
    have hwy : IntKind.u8.wrap y = y := IntWalk.u8_in _ (by omega)
    have H7 : Hid (Dr w0 (w6.setCell ⟨gz, j, none⟩ (.int .u8 y)) B R a bs cap ∧ Only (fun k => k = R) w (w6.setCell ⟨gz, j, none⟩ (.int .u8 y)) ∧ Own (w6.setCell ⟨gz, j, none⟩ (.int .u8 y)) w.heap.size gz vc (zs.set j y) ∧ (zs.set j y).length = 256) :=
      ⟨H6.out.1.other (S := fun k => k = gz) ((Only.refl (fun k => k = gz) w6).setCell (p := ⟨gz, j, none⟩) (.inl rfl) _) (by omega) (fun k hk => by omega), H6.out.2.1.setCell (p := ⟨gz, j, none⟩) (.inr hgR) _, H6.out.2.2.store j y hy, by simp [HZL.out.1]⟩
    generalize zs.getD j 0 = old at *
    go_wp2_with fail
    refine (H7.out.1.once 20 (by omega) (by omega)).mono ?_
    rintro e w8 ⟨⟨cc, rfl⟩, hd8, ho8⟩
    have HE := HEND.out w8 (zs.set j y) (H7.out.2.2.1.only ho8 (by omega)) H7.out.2.2.2 hd8 (H7.out.2.1.trans ho8)
    have HF : Hid (DrY w w8 (some ⟨gz, 0, none⟩) vc (zs.set j y) ∧ DrY w w8 (some ⟨gz, 1, none⟩) (vc - 1) ((zs.set j y).drop 1) ∧ Dr w0 w8 B R a bs cap ∧ Only (fun k => k = R) w w8 ∧ (zs.set j y).length = 256) := ⟨HE.1, HE.2.1, hd8, H7.out.2.1.trans ho8, H7.out.2.2.2⟩
    have hvc : 1 < vc := HE.2.2
    have hvc2 : 256 ≤ vc := by have := HE.1.cap; have := H7.out.2.2.2; omega
    clear HE hd8 ho8 H7 HEND H6 q0 z0 hwy
    generalize zs.set j y = us at *
    cases cc with
    | false =>
      go_wp2
      go_ret
      exact ⟨_, _, us, by rw [HF.out.2.2.2.2]; rfl, HF.out.1, HF.out.2.2.1, HF.out.2.2.2.1⟩
    | true =>
      have hv1 : ¬ vc = 1 := by omega
      have hv2 : 1 ≤ vc := by omega
      go_wp2
      go_ret
      exact ⟨_, _, us.drop 1, by rw [List.length_drop, HF.out.2.2.2.2]; rfl, HF.out.2.1, HF.out.2.2.1, HF.out.2.2.2.1⟩
end Go.Proofs.Ytnelpioadpdphaa
