/-
  BitsJoin of the model.
-/
import Derived.Test.YtdhnlbekkicjcaaDoorOkS
import Derived.Test.YtdhnlbekkicjcaaDoorJoin1
import Derived.Test.YtdhnlbekkicjcaaDoorOk2
namespace Go.Proofs.YtdhnlbekkicjcaaDoor
open Go.RowKit
set_option linter.unusedVariables false

/-- When one joins. -/
def joinOk (N M : Int) (zs ys : List Int) : Prop := okB N zs = true ∧ okB M ys = true ∧ M ≤ 4096 - N

set_option maxHeartbeats 1600000 in
theorem specJoin_no (a : Option Addr) (cap : Nat) (zs : List Int) (N : Int) (b : Option Addr) (cb : Nat) (ys : List Int) (M : Int) (w : World) (ha : Byt w a zs) (hb : Byt w b ys) (hl : zs.length ≤ 281474976710656) (hl2 : ys.length ≤ 281474976710656) (h : ¬ joinOk N M zs ys) :
    Calls Tryd.prog 33 #[.agg #[.slice a zs.length cap, .int .i64 N], .agg #[.slice b ys.length cb, .int .i64 M]] w fun e w' =>
      e = .returned (.tuple #[.agg #[.slice none 0 0, .int .i64 0], .bool false]) ∧ Below w.heap.size w w' := by
  have hst := Stay.start w a zs.length cap N b ys.length cb M
  by_cases hO : okB N zs = true
  · have HO : Hid (okB N zs = true) := hO
    by_cases hP : okB M ys = true
    · have HP : Hid (okB M ys = true) := hP
      obtain ⟨k, rfl, hn1, -, -⟩ := okB_enc hO ha.1
      obtain ⟨j, rfl, hn2, -, -⟩ := okB_enc hP hb.1
      have hgt : 4096 - (k : Int) < (j : Int) := by
        refine Int.not_le.1 (fun h' => h ⟨hO, hP, h'⟩)
      clear hO hP h
      go_enter Tryd.func33, Tryd.ntmps33
      go_wp2_with fail
      refine (specOk_any a cap zs _ _ (ha.below hst.bel (Nat.le_refl _)) hl).mono ?_
      rintro e w1 ⟨rfl, hb1⟩
      rw [HO.out]
      have hst1 := hst.step hb1
      have q0 := hst1.b0
      have q1 := hst1.b1
      have p0 := hst1.a0
      have p1 := hst1.a1
      clear hb1 hst
      go_wp2_with fail
      refine (specOk_any b cb ys _ _ (hb.below hst1.bel (Nat.le_refl _)) hl2).mono ?_
      rintro e w2 ⟨rfl, hb2⟩
      rw [HP.out]
      have hst2 := hst1.step hb2
      clear q0 q1 p0 p1 hb2 hst1
      have q0 := hst2.b0
      have q1 := hst2.b1
      have p0 := hst2.a0
      have p1 := hst2.a1
      have r0 := hst2.r0
      have r1 := hst2.r1
      have t0 := hst2.f0
      have t1 := hst2.f1
      have hbb := hst2.bel
      clear hst2
      go_wp2
      exact bodyPost_ret (v := .tuple #[.agg #[.slice none 0 0, .int .i64 0], .bool false]) (by simp [results, Tryd.results33, go_sem, r0, r1]) rfl ⟨rfl, by repeat (first | exact hbb | refine Below.setCell ?_ (by simp; omega) _)⟩
    · have hP' : okB M ys = false := by simpa using hP
      have HP : Hid (okB M ys = false) := hP'
      clear hO hP hP' h
      go_enter Tryd.func33, Tryd.ntmps33
      go_wp2_with fail
      refine (specOk_any a cap zs _ _ (ha.below hst.bel (Nat.le_refl _)) hl).mono ?_
      rintro e w1 ⟨rfl, hb1⟩
      rw [HO.out]
      have hst1 := hst.step hb1
      have q0 := hst1.b0
      have q1 := hst1.b1
      clear hb1 hst
      go_wp2_with fail
      refine (specOk_any b cb ys _ _ (hb.below hst1.bel (Nat.le_refl _)) hl2).mono ?_
      rintro e w2 ⟨rfl, hb2⟩
      rw [HP.out]
      have hst2 := hst1.step hb2
      clear q0 q1 hb2 hst1
      have r0 := hst2.r0
      have r1 := hst2.r1
      have t0 := hst2.f0
      have t1 := hst2.f1
      have hbb := hst2.bel
      clear hst2
      go_wp2
      exact bodyPost_ret (v := .tuple #[.agg #[.slice none 0 0, .int .i64 0], .bool false]) (by simp [results, Tryd.results33, go_sem, r0, r1]) rfl ⟨rfl, by repeat (first | exact hbb | refine Below.setCell ?_ (by simp; omega) _)⟩
  · have hO' : okB N zs = false := by simpa using hO
    have HO : Hid (okB N zs = false) := hO'
    clear hO hO' h
    go_enter Tryd.func33, Tryd.ntmps33
    go_wp2_with fail
    refine (specOk_any a cap zs _ _ (ha.below hst.bel (Nat.le_refl _)) hl).mono ?_
    rintro e w1 ⟨rfl, hb1⟩
    rw [HO.out]
    have hst1 := hst.step hb1
    have r0 := hst1.r0
    have r1 := hst1.r1
    have t0 := hst1.f0
    have t1 := hst1.f1
    have hbb := hst1.bel
    clear hb1 hst hst1
    go_wp2
    exact bodyPost_ret (v := .tuple #[.agg #[.slice none 0 0, .int .i64 0], .bool false]) (by simp [results, Tryd.results33, go_sem, r0, r1]) rfl ⟨rfl, by repeat (first | exact hbb | refine Below.setCell ?_ (by simp; omega) _)⟩

set_option maxHeartbeats 1600000 in
theorem specJoin_yes (a : Option Addr) (cap : Nat) (zs : List Int) (N : Int) (b : Option Addr) (cb : Nat) (ys : List Int) (M : Int) (w : World) (ha : Byt w a zs) (hb : Byt w b ys) (h : joinOk N M zs ys) :
    Calls Tryd.prog 33 #[.agg #[.slice a zs.length cap, .int .i64 N], .agg #[.slice b ys.length cb, .int .i64 M]] w fun e w' =>
      ∃ a' cp, e = .returned (.tuple #[.agg #[.slice a' (enc (N.toNat + M.toNat) (val zs + val ys * 2 ^ N.toNat)).length cp, .int .i64 (N + M)], .bool true]) ∧
        Mine w' w.heap.size w'.heap.size a' cp (enc (N.toNat + M.toNat) (val zs + val ys * 2 ^ N.toNat)) ∧ Below w.heap.size w w' := by
  obtain ⟨hO, hP, hle⟩ := h
  have hst := Stay.start w a zs.length cap N b ys.length cb M
  have HO : Hid (okB N zs = true) := hO
  have HP : Hid (okB M ys = true) := hP
  obtain ⟨k, rfl, hn1, hE1, hV1⟩ := okB_enc hO ha.1
  obtain ⟨j, rfl, hn2, hE2, hV2⟩ := okB_enc hP hb.1
  have hl : zs.length ≤ 281474976710656 := by rw [hE1, enc_len]; omega
  have hl2 : ys.length ≤ 281474976710656 := by rw [hE2, enc_len]; omega
  have H1 : Hid (zs = enc k (val zs) ∧ val zs < 2 ^ k) := ⟨hE1, hV1⟩
  have H2 : Hid (ys = enc j (val ys) ∧ val ys < 2 ^ j) := ⟨hE2, hV2⟩
  simp only [Int.toNat_natCast]
  clear hO hP hE1 hV1 hE2 hV2
  go_enter Tryd.func33, Tryd.ntmps33
  go_wp2_with fail
  refine (specOk_any a cap zs _ _ (ha.below hst.bel (Nat.le_refl _)) hl).mono ?_
  rintro e w1 ⟨rfl, hb1⟩
  rw [HO.out]
  have hst1 := hst.step hb1
  have q0 := hst1.b0
  have q1 := hst1.b1
  have p0 := hst1.a0
  have p1 := hst1.a1
  clear hb1 hst
  go_wp2_with fail
  refine (specOk_any b cb ys _ _ (hb.below hst1.bel (Nat.le_refl _)) hl2).mono ?_
  rintro e w2 ⟨rfl, hb2⟩
  rw [HP.out]
  have hst2 := hst1.step hb2
  clear q0 q1 p0 p1 hb2 hst1
  have q0 := hst2.b0
  have q1 := hst2.b1
  have p0 := hst2.a0
  have p1 := hst2.a1
  go_wp2_with fail
  refine (l1join_any a cap zs b cb ys k (val zs) j (val ys) _ (ha.below hst2.bel (Nat.le_refl _)) (hb.below hst2.bel (Nat.le_refl _)) H1.out.1 H2.out.1 H1.out.2 H2.out.2 (by omega)).mono ?_
  rintro e w3 ⟨a', cp, rfl, hm3, hb3⟩
  have hst3 := hst2.step hb3
  have z2 := hst2.sz
  have hB := hst2.hB
  clear q0 q1 p0 p1 hb3 hst2
  generalize hYS : enc (k + j) (val zs + val ys * 2 ^ k) = xs at *
  have HYS : Hid (enc (k + j) (val zs + val ys * 2 ^ k) = xs) := hYS
  have HM : Hid (Mine w3 w2.heap.size w3.heap.size a' cp xs) := hm3
  have HS : Hid (Below w.heap.size w w3) := hst3.bel
  have x0 := hst3.r0
  have x1 := hst3.r1
  have y0 := hst3.f0
  have y1 := hst3.f1
  clear hYS hm3 hst3
  go_wp2
  refine bodyPost_ret (v := .tuple #[.agg #[.slice a' xs.length cp, .int .i64 ((k : Int) + j)], .bool true]) (by simp [results, Tryd.results33, go_sem, x0, x1]) rfl ⟨a', cp, by rw [HYS.out], ?_, ?_⟩
  · rw [HYS.out]
    have hO3 : Only (fun b => b = w.heap.size + 1 + 1) w3 ((w3.setCell ⟨w.heap.size + 1 + 1, 0, none⟩ (.slice a' xs.length cp)).setCell ⟨w.heap.size + 1 + 1, 1, none⟩ (.int .i64 ((k + j : Nat) : Int))) :=
      Only.setCell (Only.setCell (Only.refl (fun b => b = w.heap.size + 1 + 1) w3) (p := ⟨w.heap.size + 1 + 1, 0, none⟩) (.inl rfl) _) (p := ⟨w.heap.size + 1 + 1, 1, none⟩) (.inl rfl) _
    exact ((HM.out.only hO3 (fun b h1 _ => by omega)).mono (by omega) (by simp [World.setCell]))
  · exact ((HS.out.setCell (by simp; omega) _).setCell (by simp; omega) _)
end Go.Proofs.YtdhnlbekkicjcaaDoor
