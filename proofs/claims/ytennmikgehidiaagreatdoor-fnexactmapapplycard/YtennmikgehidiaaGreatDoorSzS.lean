/-
  What szByteS answers.
-/
import Derived.Test.YtennmikgehidiaaGreatDoorItW
import Derived.Test.YtennmikgehidiaaGreatDoorUs3
import Derived.Test.YtennmikgehidiaaGreatDoorPlP
namespace Go.Proofs.YtennmikgehidiaaGreatDoor
open Go.RowKit
set_option linter.unusedVariables false

set_option maxHeartbeats 800000 in
theorem toItem_any (n : Int) (a : Option Addr) (cap : Nat) (zs : List Int) (w : World) (hb : Byt w a zs) (hn : zs.length ≤ 1048576) :
    Calls Tryz.prog 38 #[.agg #[.int .i64 n, .slice a zs.length cap]] w fun e w' =>
      ∃ g, e = .returned (.agg #[.int .i64 n, .slice (some ⟨g, 0, none⟩) zs.length zs.length]) ∧ Own w' w.heap.size g zs.length zs ∧ Below w.heap.size w w' := by
  go_enter Tryz.func38, Tryz.ntmps38
  go_wp2_with fail
  have hw : Below w.heap.size w (((w.alloc (Obj.cells #[Value.int IntKind.i64 n, Value.slice a zs.length cap] 70)).alloc (Obj.cells #[Value.int IntKind.i64 0, Value.slice none 0 0] 74)).alloc (Obj.cells #[Value.int IntKind.i64 n, Value.slice none 0 0] 74)) :=
    (((Below.refl _ _).alloc (Nat.le_refl _) _).alloc (by simp) _).alloc (by simp; omega) _
  refine (toByteS_any a cap zs _ (hb.below hw (Nat.le_refl _)) hn).mono ?_
  rintro e w1 ⟨rfl, hown, hbel⟩
  obtain ⟨hc, hf⟩ := bcell hbel
  have hz := hbel.size
  have hb2 := hw.trans (hbel.mono (by simp; omega))
  simp at hc hf hz hown
  clear hbel hw
  go_wp2
  refine bodyPost_ret (v := .agg #[.int .i64 n, .slice (some ⟨w.heap.size + 1 + 1 + 1, 0, none⟩) zs.length zs.length]) (by simp [results, Tryz.results38, go_sem, hc]) rfl ⟨_, rfl, ?_, ?_⟩
  · refine Own.mono (B := w.heap.size + 1 + 1 + 1) ?_ (by omega)
    repeat (refine Own.setCell_other ?_ (by simp) _)
    exact hown
  · repeat (refine Below.setCell ?_ (by first | (simp; done) | (simp; omega)) _)
    exact hb2

set_option maxHeartbeats 4000000 in
theorem toItemS_any (a : Option Addr) (cap : Nat) (ss : List El) (w : World) (hb : Els true w a ss) (hn : ss.length ≤ 1048576) (hl : ∀ s ∈ ss, s.ls.length ≤ 1048576) :
    Calls Tryz.prog 22 #[.slice a ss.length cap] w fun e w' =>
      e = .returned (.slice (some ⟨w.heap.size, 0, none⟩) ss.length ss.length) ∧ (∃ ts, CopT w' w.heap.size (.slice (some ⟨w.heap.size, 0, none⟩) ss.length ss.length) ts ss) ∧ Below w.heap.size w w' := by
  obtain ⟨i0, hi, hz0, hz1, hz2⟩ := info_parts Tryz.infoItem
  have HSS : Hid (Els true w a ss) := hb
  have HLS : Hid (∀ s ∈ ss, s.ls.length ≤ 1048576) := hl
  clear hb hl
  generalize hlen : ss.length = n at *
  have HL : Hid (ss.length = n ∧ True) := ⟨hlen, trivial⟩
  clear hlen
  go_enter Tryz.func22, Tryz.ntmps22
  go_wp2_with (at_make; refine wpList_make_full _ rfl _ _ 36 rfl w.heap.size 74 i0 (.agg #[.int .i64 0, .slice none 0 0]) 2 Tryz.underlying36 hi hz0 hz1 .i64 .i64 _ _ n rfl rfl rfl rfl (by rw [hz2]; omega) (by unfold maxLen; omega) (Nat.le_refl _) ?_; intro w1 hown hgrow)
  have hbw : Below w.heap.size w w1 := (Below.refl _ _).grown hgrow (Nat.le_refl _) (by intro k hk; cases hk)
  have H0 : Hid (OVt w1 w.heap.size (.slice (some ⟨w.heap.size, 0, none⟩) n n) ([] ++ List.replicate n de)) := by
    rw [List.nil_append]
    rw [made_pens] at hown
    exact ⟨by rw [List.length_replicate]; exact hown⟩
  clear hown hgrow hi hz0 hz1 hz2
  go_loopw [4] (fun i wr => ∃ (k : Nat) (bs : List El), k ≤ n ∧ i = .int .i64 k ∧ bs.length = k ∧ bs.map El.ct = (ss.take k).map El.ct ∧ OVt wr w.heap.size (.slice (some ⟨w.heap.size, 0, none⟩) n n) (bs ++ List.replicate (n - k) de) ∧ Deep wr w.heap.size bs ∧ (∀ e ∈ bs, rE true e) ∧ Below w.heap.size w wr) (fun i _ => n - (intOf i).toNat)
  case atStart => exact ⟨0, [], Nat.zero_le _, rfl, rfl, by simp, H0.out, Deep.nil _ _, by simp, hbw⟩
  case round =>
    clear H0 hbw
    obtain ⟨k, bs, hk, rfl, hbl, hct, hown, hdeep, hrg0, hbel⟩ := hrel
    have HBL : Hid (bs.length = k ∧ bs.map El.ct = (ss.take k).map El.ct) := ⟨hbl, hct⟩
    have HO : Hid (OVt wr w.heap.size (.slice (some ⟨w.heap.size, 0, none⟩) n n) (bs ++ List.replicate (n - k) de) ∧ Deep wr w.heap.size bs ∧ (∀ e ∈ bs, rE true e)) := ⟨hown, hdeep, hrg0⟩
    clear hbl hct hown hdeep hrg0
    by_cases hlt : k < n
    · obtain ⟨b, off, rfl, hb1, c0, c1, hby, hrg⟩ := (HSS.out.below hbel (Nat.le_refl _)).pen k (by rw [HL.out.1]; exact hlt)
      have hll := HLS.out _ (getD_memE (k := k) (by rw [HL.out.1]; exact hlt))
      have HCS : Hid ((ss.take (k + 1)).map El.ct = (ss.take k).map El.ct ++ [(ss.getD k de).ct] ∧ True) := ⟨ctE_take_succ ss k (by rw [HL.out.1]; exact hlt), trivial⟩
      generalize ss.getD k de = s at *
      obtain ⟨sn, sa, sc, sl⟩ := s
      simp only at c0 c1 hby hll
      have HRG : Hid (rE true ⟨sn, sa, sc, sl⟩) := hrg
      have HBY : Hid (Byt wr sa sl) := hby
      clear hrg hby
      go_wp2_with fail
      refine (toItem_any sn sa sc sl wr HBY.out hll).mono ?_
      rintro e w2 ⟨g2, rfl, ho2, hb2⟩
      have hlt2 := ho2.lt
      have hlo : (bs ++ List.replicate (n - k) de).length = n := by rw [List.length_append, List.length_replicate, HBL.out.1]; omega
      have hgd := getD_app_replE bs (n - k) k (by rw [HBL.out.1]; exact Nat.le_refl _)
      have hO2 : OVt w2 w.heap.size (.slice (some ⟨w.heap.size, 0, none⟩) n n) (bs ++ List.replicate (n - k) de) := HO.out.1.below hb2
      have hs1 := hO2.store k (by omega) ⟨sn, none, 0, []⟩ 0 (by simp [eW]) (.int .i64 sn) (by rw [hgd]; rfl) (g := w.heap.size) rfl
      have hst := hs1.store k (by rw [List.length_set]; omega) ⟨sn, some ⟨g2, 0, none⟩, sl.length, sl⟩ 1 (by simp [eW]) (.slice (some ⟨g2, 0, none⟩) sl.length sl.length) (by rw [List.getD_eq_getElem?_getD, List.getElem?_set_self (by omega)]; rfl) (g := w.heap.size) rfl
      rw [List.set_set, set_app_replE bs (n - k) k _ HBL.out.1 (by omega), show n - k - 1 = n - (k + 1) from by omega, show k * eW true + 0 = k * 2 from by simp [eW], show k * eW true + 1 = k * 2 + 1 from by simp [eW]] at hst
      have hdp : Deep w2 w.heap.size (bs ++ [⟨sn, some ⟨g2, 0, none⟩, sl.length, sl⟩]) := (HO.out.2.1.below hb2).snoc (U := wr.heap.size) (.inr ⟨_, rfl, hlt2.1, hlt2.2, ho2⟩) (fun x hx k hk => HO.out.2.1.lt x hx k hk) hbel.size
      have HDP : Hid (Deep ((w2.setCell ⟨w.heap.size, k * 2, none⟩ (.int .i64 sn)).setCell ⟨w.heap.size, k * 2 + 1, none⟩ (.slice (some ⟨g2, 0, none⟩) sl.length sl.length)) w.heap.size (bs ++ [⟨sn, some ⟨g2, 0, none⟩, sl.length, sl⟩])) :=
        hdp.stay (S := fun b => b = w.heap.size) (((Only.refl (fun b => b = w.heap.size) w2).setCell (p := ⟨w.heap.size, k * 2, none⟩) (.inl rfl) _).setCell (p := ⟨w.heap.size, k * 2 + 1, none⟩) (.inl rfl) _) (fun x hx j hj e => hO2.other (hdp.mine x hx) (g := w.heap.size) rfl (e ▸ hj))
      have HST : Hid _ := hst
      obtain ⟨g', cap', e', _, _, hfz, hli⟩ := hO2.cell k (by omega)
      obtain ⟨rfl, -, rfl⟩ : w.heap.size = g' ∧ _ ∧ n = cap' := by simpa using e'
      have f0 := hfz (k * 2)
      have f1 := hfz (k * 2 + 1)
      have l1 := (hli k (by omega)).c0 rfl
      have l2 := (hli k (by omega)).c1
      rw [hgd] at l1 l2
      simp only [eW, eO, cond_true] at l1 l2
      have HB2 : Hid (Below w.heap.size w w2) := hbel.trans (hb2.mono hbel.size)
      have HRN : Hid (∀ e ∈ bs ++ [⟨sn, some ⟨g2, 0, none⟩, sl.length, sl⟩], rE true e) := rE_snoc HO.out.2.2 ⟨HRG.out.lo, HRG.out.hi, HRG.out.len, HRG.out.zero⟩
      clear hst hs1 hO2 ho2 hb2 HO hbel HBY c0 c1 hdp hfz hli e' HRG hlo hgd
      go_wp2
      go_roundw
      case rel => exact ⟨k + 1, bs ++ [⟨sn, some ⟨g2, 0, none⟩, sl.length, sl⟩], by omega, by go_num, by rw [List.length_append, HBL.out.1]; rfl, by rw [List.map_append, HBL.out.2, HCS.out.1]; rfl, HST.out, HDP.out, HRN.out, (HB2.out.setCell (p := ⟨w.heap.size, _, none⟩) (Nat.le_refl _) _).setCell (p := ⟨w.heap.size, _, none⟩) (Nat.le_refl _) _⟩
      case measure => simp [intOf]; omega
    · have hkn : k = n := by omega
      subst hkn
      have HA : Hid (CopT wr w.heap.size (.slice (some ⟨w.heap.size, 0, none⟩) k k) bs ss) := by
        have h1 := HO.out.1
        rw [Nat.sub_self, List.replicate_zero, List.append_nil] at h1
        exact ⟨by rw [HBL.out.2, List.take_of_length_le (by rw [HL.out.1]; exact Nat.le_refl _)], h1, HO.out.2.1, HO.out.2.2⟩
      clear HO
      go_wp2
      go_ret
      exact ⟨rfl, ⟨bs, HA.out⟩, hbel⟩

set_option maxHeartbeats 1600000 in
theorem toPack_any (E O : Int) (a : Option Addr) (cap : Nat) (es : List El) (w : World) (hb : Els true w a es) (hn : es.length ≤ 1048576) (hl : ∀ s ∈ es, s.ls.length ≤ 1048576) :
    Calls Tryz.prog 8 #[.agg #[.int .i64 E, .int .i64 O, .slice a es.length cap]] w fun e w' =>
      (∃ g ts, e = .returned (.agg #[.int .i64 E, .int .i64 O, .slice (some ⟨g, 0, none⟩) es.length es.length]) ∧ CopT w' w.heap.size (.slice (some ⟨g, 0, none⟩) es.length es.length) ts es) ∧ Below w.heap.size w w' := by
  have HB : Hid (Els true w a es) := hb
  have HL : Hid (∀ s ∈ es, s.ls.length ≤ 1048576) := hl
  clear hb hl
  go_enter Tryz.func8, Tryz.ntmps8
  go_wp2_with fail
  have hw : Below w.heap.size w (((w.alloc (Obj.cells #[Value.int IntKind.i64 E, Value.int IntKind.i64 O, Value.slice a es.length cap] 27)).alloc (Obj.cells #[Value.int IntKind.i64 0, Value.int IntKind.i64 0, Value.slice none 0 0] 38)).alloc (Obj.cells #[Value.int IntKind.i64 E, Value.int IntKind.i64 O, Value.slice none 0 0] 38)) :=
    (((Below.refl _ _).alloc (Nat.le_refl _) _).alloc (by simp) _).alloc (by simp; omega) _
  refine (toItemS_any a cap es _ (HB.out.below hw (Nat.le_refl _)) hn HL.out).mono ?_
  rintro e w1 ⟨rfl, ⟨ts, hcop⟩, hbel⟩
  obtain ⟨hc, hf⟩ := bcell hbel
  have hz := hbel.size
  have HB2 : Hid (Below w.heap.size w w1) := hw.trans (hbel.mono (by simp; omega))
  simp at hc hf hz hcop
  have HC : Hid _ := hcop
  clear hbel hw hcop
  go_wp2
  refine bodyPost_ret (v := .agg #[.int .i64 E, .int .i64 O, .slice (some ⟨w.heap.size + 1 + 1 + 1, 0, none⟩) es.length es.length]) (by simp [results, Tryz.results8, go_sem, hc]) rfl ⟨⟨_, ts, rfl, ?_⟩, ?_⟩
  · refine (HC.out.stay (S := fun b => b = w.heap.size + 1 ∨ b = w.heap.size + 1 + 1) ?_ (by intro k hk; omega)).weak (by omega)
    repeat (first | exact Only.refl _ _ | refine Only.setCell ?_ (by first | exact .inl (.inl rfl) | exact .inl (.inr rfl)) _)
  · have hb2 := HB2.out
    repeat (first | exact hb2 | refine Below.setCell ?_ (by first | (simp; done) | (simp; omega)) _)
end Go.Proofs.YtennmikgehidiaaGreatDoor
namespace Go.Proofs.YtennmikgehidiaaGreatDoor
open Go.RowKit
set_option linter.unusedVariables false

set_option maxHeartbeats 400000 in
theorem szByteS_any (a : Option Addr) (n cap : Nat) (left : Int) (w : World) (hn : n ≤ maxLen) (h0 : 0 ≤ left) (h1 : left ≤ 1048576) :
    Calls Tryz.prog 48 #[.slice a n cap, .int .i64 left] w fun e w' => e = .returned (.int .i64 (if (n : Int) ≤ left then left - n else -1)) ∧ w' = w := by
  unfold maxLen at hn
  by_cases h : (n : Int) ≤ left
  · go_enter Tryz.func48, Tryz.ntmps48
    go_wp2
    go_ret
    exact ⟨rfl, rfl⟩
  · go_enter Tryz.func48, Tryz.ntmps48
    go_wp2
    go_ret
    exact ⟨rfl, rfl⟩

end Go.Proofs.YtennmikgehidiaaGreatDoor
