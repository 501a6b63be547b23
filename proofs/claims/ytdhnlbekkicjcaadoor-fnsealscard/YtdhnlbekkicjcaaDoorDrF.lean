/-
  What DrawBitsOpen draws: some bytes, sealed bits or not.
-/
import Derived.Test.YtdhnlbekkicjcaaDoorDrC
import Derived.Test.YtdhnlbekkicjcaaDoorSeal1
namespace Go.Proofs.YtdhnlbekkicjcaaDoor
open Go.RowKit
set_option linter.unusedVariables false

set_option maxRecDepth 20000 in
set_option maxHeartbeats 8000000 in
theorem drawBitsOpen_any (a : Option Addr) (bs : List Int) (cap : Nat) (w : World) (hb : Byt w a bs) (hl : bs.length ≤ maxLen) :
    Calls Tryd.prog 21 #[.slice a bs.length cap] w fun e w' => ∃ (a' : Option Addr) (c' : Nat) (ys : List Int), e = .returned (.slice a' ys.length c') ∧ ys.length ≤ 600 ∧ Byt w' a' ys ∧ Below w.heap.size w w' := by
  obtain ⟨i0, hi, hz0, hz1, hz2⟩ := info_parts Tryd.infoU8
  have HNW := l1New_any a bs cap w hb hl
  go_enter Tryd.func21, Tryd.ntmps21
  go_wp2_with fail
  refine HNW.mono ?_
  clear HNW
  rintro e w1 ⟨rfl, hd1⟩
  have HD1 : Hid (Dr w w1 w.heap.size w.heap.size a bs cap) := hd1
  clear hd1 hb
  generalize hB : w.heap.size = B at *
  have HBB : Hid (w.heap.size = B) := hB
  clear hB
  go_wp2_with fail
  refine HD1.out.bits.mono ?_
  rintro e w2 ⟨⟨a1, c1, n, V, rfl, hn, hV, hm2⟩, hdr2, ho2⟩
  have hR1 := HD1.out.cur.lt.2
  have hR2 := hdr2.cur.lt.2
  have HSL := l1seal_any a1 c1 (enc n V) n V w2 hm2.byt rfl hV (by omega)
  have hel := enc_len (n + 1) (V + 2 ^ n)
  have hyl : (enc (n + 1) (V + 2 ^ n)).length ≤ 20 := by omega
  have HD2 : Hid (Dr w w2 B B a bs cap) := hdr2
  clear hm2 hdr2 ho2 HD1 hel
  generalize enc (n + 1) (V + 2 ^ n) = ys at *
  generalize enc n V = zs at *
  clear hV
  go_wp2_with fail
  refine HSL.mono ?_
  clear HSL
  rintro e w3 ⟨a2, c2, rfl, hm3, hb3⟩
  have HD3 : Hid (Dr w w3 B B a bs cap) := HD2.out.other (below_only hb3) (by omega) (fun k hk => by omega)
  have HV3 : Hid (OVB w3 (B + 1) (.slice a2 ys.length c2) ys) := hm3.ovb.weak (by omega)
  clear hm3 hb3 HD2
  go_wp2_with fail
  refine (HD3.out.once 3 (by omega) (by omega)).mono ?_
  rintro e w6 ⟨⟨b, rfl⟩, hd4, ho4⟩
  have HV6 : Hid (OVB w6 (B + 1) (.slice a2 ys.length c2) ys) := HV3.out.stay ho4 (fun k hk => by omega)
  have HD6 : Hid (Dr w w6 B B a bs cap) := hd4
  have hz6 : B + 1 ≤ w6.heap.size := by have := hd4.cur.lt.2; omega
  have HM : Hid (ys.length = ys.length) := rfl
  generalize hm : ys.length = m at HV6 HM ⊢
  have hul : m ≤ 20 := by omega
  clear HM
  have HM : Hid (ys.length = m) := hm
  clear hm
  clear hd4 ho4 HD3 HV3 hR1 hR2
  have HIN : Hid (∀ T, Ins (w6.alloc (.cells #[.int .i64 0, .int .i64 1, .int .i64 128] T)) (some ⟨w6.heap.size, 0, none⟩) [0, 1, 128]) := fun T => by
    have := ins_newB w6 T [0, 1, 128] (by intro z hz; simp at hz; omega)
    simpa using this
  cases b
  case' true =>
    go_wp2_with fail
    refine ((HD6.out.other (S := fun _ => False) ((Only.refl (fun _ => False) w6).alloc _) (by simp) (by simp)).pick w6.heap.size 3 [0, 1, 128] (HIN.out _) (by omega) (by simp) (by simp)).mono ?_
    rintro e w5 ⟨⟨t, ht, rfl⟩, hd5, ho5'⟩
    have ho5 : Only (fun k => k = B) w6 w5 := ((Only.refl (fun k => k = B) w6).alloc _).trans ho5'
    have HV5 : Hid (OVB w5 (B + 1) (.slice a2 m c2) ys) := HV6.out.stay ho5 (fun k hk => by omega)
    have HD5 : Hid (Dr w w5 B B a bs cap) := hd5
    have hz5 : B + 1 ≤ w5.heap.size := by have := hd5.cur.lt.2; omega
    have ht1 : 0 ≤ t ∧ t ≤ 255 := by simp at ht; omega
    obtain ⟨ht1, ht2⟩ := ht1
    clear hd5 ho5 ho5' ht HIN HV6 HD6 hz6
    have HYA : Hid (Byt (w5.alloc (Obj.cells #[Value.int .u8 t] 5)) (some ⟨w5.heap.size, 0, none⟩) [t]) := byt_one w5 t (by omega)
    have HOA : Hid (OVB (w5.alloc (Obj.cells #[Value.int .u8 t] 5)) (B + 1) (.slice a2 m c2) ys) := HV5.out.alloc _
    have hza : B + 1 ≤ (w5.alloc (Obj.cells #[Value.int .u8 t] 5)).heap.size := by simp; omega
    go_wp2_with (at_builtin; (refine wpList_append_byt rfl (.tmp 12) (.tmp 17) rfl (B + 1) (.slice a2 m c2) ys rfl HOA.out (some ⟨w5.heap.size, 0, none⟩) 1 [t] rfl HYA.out (by rw [HM.out]; simp; omega) hza ?_; intro v1 w6 hov1 hgr1; obtain ⟨m1, a4, c4, hm1, rfl⟩ : ∃ (m1 : Nat) (a4 : Option Addr) (c4 : Nat), (ys ++ [t]).length = m1 ∧ v1 = .slice a4 m1 c4 := by (obtain ⟨a4, c4, h⟩ := hov1.form; exact ⟨_, a4, c4, rfl, h⟩)))
    have HD6 : Hid (Dr w w6 B B a bs cap) := HD5.out.other (((Only.refl (fun k => B + 1 ≤ k) w5).alloc _).grown hgr1 (fun k hk => .inl (HOA.out.blk hk))) (by omega) (fun k hk => by omega)
    have HV6 : Hid (OVB w6 (B + 1) (.slice a4 m1 c4) (ys ++ [t])) := hov1
    have hul1 : m1 ≤ 21 := by rw [← hm1, List.length_append, HM.out]; simp; omega
    have HM1 : Hid ((ys ++ [t]).length = m1) := hm1
    have hz6 : B + 1 ≤ w6.heap.size := by have := HD6.out.cur.lt.2; omega
    clear hov1 hgr1 HOA HYA HV5 HD5 hza ht1 ht2 hz5 hyl hul hm1
    generalize ys ++ [t] = us at *
    clear HM
    revert HM1
    revert hul1
    revert HV6
    revert us
    revert c4
    revert a4
    revert m1
    intro m a2 c2 ys HV6 hul HM
  all_goals
    go_wp2_with fail
    refine (HD6.out.once 20 (by omega) (by omega)).mono ?_
    rintro e w7 ⟨⟨b, rfl⟩, hd7, ho7⟩
    have HV7 : Hid (OVB w7 (B + 1) (.slice a2 m c2) ys) := HV6.out.stay ho7 (fun k hk => by omega)
    have HD7 : Hid (Dr w w7 B B a bs cap) := hd7
    have hz7 : B + 1 ≤ w7.heap.size := by have := hd7.cur.lt.2; omega
    clear hd7 ho7 HV6 HD6
    cases b
    · go_wp2
      go_ret
      exact ⟨a2, c2, ys, by rw [HM.out]; rfl, by rw [HM.out]; omega, HV7.out.byt, by rw [HBB.out]; exact HD7.out.bel⟩
    · go_wp2_with fail
      refine (HD7.out.below 3 (by omega) (by omega)).mono ?_
      rintro e w8 ⟨⟨x, hx1, hx2, rfl⟩, hd8, ho8⟩
      have HD8 : Hid (Dr w w8 B B a bs cap) := hd8
      have hz8 : B + 1 ≤ w8.heap.size := by have := hd8.cur.lt.2; omega
      obtain ⟨q, hq⟩ : ∃ q : Nat, 512 + x = (q : Int) := ⟨(512 + x).toNat, by omega⟩
      obtain ⟨L, hL⟩ : ∃ L : Nat, q = L + 1 := ⟨q - 1, by omega⟩
      have hqb : L ≤ 513 := by omega
      have HQ : Hid (512 + x = ((L + 1 : Nat) : Int)) := by unfold Hid; omega
      clear hd8 ho8 HD7 HV7 hz7 hq hL
      clear q
      go_wp2_with (at_make; refine wpList_make_full _ rfl _ _ 22 rfl (B + 1) 5 i0 (.int .u8 0) 1 Tryd.underlying22 hi hz0 hz1 .i64 .i64 _ _ (L + 1) rfl rfl HQ.out HQ.out (by rw [hz2]; omega) (by unfold maxLen; omega) hz8 ?_; intro w9 hown hgrow)
      have hrow : Own w9 (B + 1) w8.heap.size (L + 1) (List.replicate (L + 1) 0) := by
        refine ⟨?_, by intro z hz; simp at hz; omega⟩
        rw [made_zero] at hown
        simpa using hown
      have HR9 : Hid (Own w9 (B + 1) w8.heap.size (L + 1) (List.replicate (L + 1) 0)) := hrow
      have HD9 : Hid (Dr w w9 B B a bs cap) := HD8.out.other ((Only.refl (fun k => B + 1 ≤ k) w8).grown hgrow (fun k hk => by cases hk)) (by omega) (fun k hk => by omega)
      have hz9 : w8.heap.size < w9.heap.size := by have := hrow.lt; omega
      clear hrow hown hgrow HD8
      have HIN9 : Hid (∀ T, Ins (w9.alloc (.cells #[.int .i64 1, .int .i64 2, .int .i64 128] T)) (some ⟨w9.heap.size, 0, none⟩) [1, 2, 128]) := fun T => by
        have := ins_newB w9 T [1, 2, 128] (by intro z hz; simp at hz; omega)
        simpa using this
      go_wp2_with fail
      refine ((HD9.out.other (S := fun _ => False) ((Only.refl (fun _ => False) w9).alloc _) (by simp) (by simp)).pick w9.heap.size 3 [1, 2, 128] (HIN9.out _) (by omega) (by simp) (by simp)).mono ?_
      rintro e w10 ⟨⟨t, ht, rfl⟩, hd10, ho10'⟩
      have ho10 : Only (fun k => k = B) w9 w10 := ((Only.refl (fun k => k = B) w9).alloc _).trans ho10'
      have ht1 : 0 ≤ t ∧ t ≤ 255 := by simp at ht; omega
      obtain ⟨ht1, ht2⟩ := ht1
      have hrow : Own w10 (B + 1) w8.heap.size (L + 1) (List.replicate (L + 1) 0) := HR9.out.only ho10 (by omega)
      have HDA : Hid (Dr w w10 B B a bs cap) := hd10
      have HRA : Hid _ := hrow.store L t ⟨ht1, ht2⟩
      have z0 := hrow.cell L (by simp)
      have zf := hrow.frozen L
      clear hd10 ho10 ho10' ht HIN9 HR9 HD9 hrow
      generalize (List.replicate (L + 1) (0 : Int)).getD L 0 = old at *
      have hBL : Below B w10 (w10.setCell ⟨w8.heap.size, L, none⟩ (.int .u8 t)) := (Below.refl _ _).setCell (by simp; omega) _
      have HBL : Hid _ := HDA.out.bel.trans hBL
      clear hBL
      have HLN : Hid (((List.replicate (L + 1) (0 : Int)).set L t).length = L + 1) := by simp [Hid]
      go_wp2
      go_ret
      exact ⟨some ⟨w8.heap.size, 0, none⟩, L + 1, (List.replicate (L + 1) (0 : Int)).set L t, by rw [HLN.out]; rfl, by rw [HLN.out]; omega, Own.byt HRA.out, by rw [HBB.out]; exact HBL.out⟩
end Go.Proofs.YtdhnlbekkicjcaaDoor
