/-
  The law on MapApply returns true, whatever is handed in, and writes nothing that was there. (Typed by wip/mkmpa.py.)
-/
import Derived.Test.YtennmikgehidiaaGreatDoorElN
import Derived.Test.YtennmikgehidiaaGreatDoorPlEq
import Derived.Test.YtennmikgehidiaaGreatDoorVarsC
namespace Go.Proofs.YtennmikgehidiaaGreatDoor
open Go.RowKit
set_option linter.unusedVariables false
set_option linter.unusedSimpArgs false

/-- A box of one cell. -/
structure Bx1 (W : World) (b : Nat) (x : Value) : Prop where
  c0 : W.cell? ⟨b, 0, none⟩ = some x
  f0 : W.frozen? ⟨b, 0, none⟩ = false
  lt : b < W.heap.size
theorem Bx1.new (w : World) (x : Value) (T : TypeId) : Bx1 (w.alloc (Obj.cells #[x] T)) w.heap.size x := ⟨by simp, by simp, by simp⟩
theorem Bx1.step {W W' : World} {b : Nat} {x : Value} (h : Bx1 W b x) (hb : Below W.heap.size W W') : Bx1 W' b x := ⟨keep hb h.lt h.c0, (hb.frozen (p := ⟨b, 0, none⟩) h.lt).trans h.f0, Nat.lt_of_lt_of_le h.lt hb.size⟩

/-- What three calls leave: the answer's map in the box Y. -/
structure MaF (w W : World) (E O : Int) (a sa va : Option Addr) (n cap m sc vc Y : Nat) (qs : List (Int × Int)) : Prop where
  bel : Below w.heap.size w W
  c1 : W.cell? ⟨w.heap.size, 0, none⟩ = some (.slice a n cap)
  c3 : Ce3 W (w.heap.size + 1) (.int .i64 E) (.int .i64 O) (.slice sa m sc)
  cy : W.cell? ⟨Y, 0, none⟩ = some (.slice va qs.length vc)
  min : MinP W (w.heap.size + 1 + 1) W.heap.size va vc qs
  y0 : w.heap.size + 1 + 1 ≤ Y
  y1 : Y < W.heap.size
theorem maS {w w2 w5 : World} {E O : Int} {a sa va : Option Addr} {n cap m sc vc Y U : Nat} {qs : List (Int × Int)} (hb : Below w.heap.size w w2) (h1 : w2.cell? ⟨w.heap.size, 0, none⟩ = some (.slice a n cap)) (h3 : Ce3 w2 (w.heap.size + 1) (.int .i64 E) (.int .i64 O) (.slice sa m sc)) (hs : w.heap.size + 1 + 1 ≤ w2.heap.size)
    (h5 : Below w2.heap.size w2 w5) (bz : Bx1 w5 Y (.slice none 0 0)) (hY : w2.heap.size ≤ Y) (hc : MinP w5 U w5.heap.size va vc qs) (hU : Y < U) :
    MaF w (w5.setCell ⟨Y, 0, none⟩ (.slice va qs.length vc)) E O a sa va n cap m sc vc Y qs ∧ Below w2.heap.size w2 (w5.setCell ⟨Y, 0, none⟩ (.slice va qs.length vc)) := by
  have hon : Only (fun b => b = Y) w5 (w5.setCell ⟨Y, 0, none⟩ (.slice va qs.length vc)) := (Only.refl (fun b => b = Y) w5).setCell (p := ⟨Y, 0, none⟩) (.inl rfl) _
  have hbw : Below w2.heap.size w2 (w5.setCell ⟨Y, 0, none⟩ (.slice va qs.length vc)) := h5.trans (hon.below (by have := h5.size; omega) (by intro k hk; omega))
  obtain ⟨z0, -, zl⟩ := bz
  refine ⟨⟨hb.trans (hbw.mono (by omega)), keep hbw (by omega) h1, ⟨keep hbw (by omega) h3.1, keep hbw (by omega) h3.2.1, keep hbw (by omega) h3.2.2⟩, by simp [go_sem, z0], ((hc.only hon (fun k hk hk2 e => by omega)).mono (by omega) hon.size), by omega, by have := hon.size; omega⟩, hbw⟩
theorem maN {w w2 w5 : World} {E O : Int} {a sa va : Option Addr} {n cap m sc vc U : Nat} {qs : List (Int × Int)} {T : TypeId} (hb : Below w.heap.size w w2) (h1 : w2.cell? ⟨w.heap.size, 0, none⟩ = some (.slice a n cap)) (h3 : Ce3 w2 (w.heap.size + 1) (.int .i64 E) (.int .i64 O) (.slice sa m sc)) (hs : w.heap.size + 1 + 1 ≤ w2.heap.size)
    (h5 : Below w2.heap.size w2 w5) (hc : MinP w5 U w5.heap.size va vc qs) (hU : w2.heap.size ≤ U) :
    MaF w (w5.alloc (Obj.cells #[.slice va qs.length vc] T)) E O a sa va n cap m sc vc w5.heap.size qs ∧ Below w2.heap.size w2 (w5.alloc (Obj.cells #[.slice va qs.length vc] T)) := by
  have hba : Below w5.heap.size w5 (w5.alloc (Obj.cells #[.slice va qs.length vc] T)) := (Below.refl _ _).alloc (Nat.le_refl _) _
  have h5s := h5.size
  have hbw := h5.trans (hba.mono h5s)
  exact ⟨⟨hb.trans (hbw.mono (by omega)), keep hbw (by omega) h1, ⟨keep hbw (by omega) h3.1, keep hbw (by omega) h3.2.1, keep hbw (by omega) h3.2.2⟩, by simp, (hc.below hba).mono (by omega) hba.size, by omega, by simp⟩, hbw⟩

set_option maxRecDepth 20000 in
set_option maxHeartbeats 16000000 in
theorem lawMapApply_any (a : Option Addr) (cap : Nat) (ps : List (Int × Int)) (s E O : Int) (sa : Option Addr) (sc : Nat) (es : List El) (w : World) (hb : Pls w a ps) (hm : ps.length ≤ maxLen) (hs : -9223372036854775808 ≤ s ∧ s ≤ 9223372036854775807) (hi : Els true w sa es) (hm2 : es.length ≤ maxLen) (hS : SentB w) :
    Calls Tryz.prog 3 #[.agg #[.slice a ps.length cap], .int .i64 s, .agg #[.int .i64 E, .int .i64 O, .slice sa es.length sc]] w fun e w' => e = .returned (.bool true) ∧ Below w.heap.size w w' := by
  obtain ⟨f, hf⟩ := decF_ex
  obtain ⟨qs, R, hay⟩ := AyP.ex f ps s E O es
  have hw0 : Below w.heap.size w (w.alloc (Obj.cells #[Value.slice a ps.length cap] 24)) := (Below.refl _ _).alloc (Nat.le_refl _) _
  have hw : Below w.heap.size w ((w.alloc (Obj.cells #[Value.slice a ps.length cap] 24)).alloc (Obj.cells #[Value.int IntKind.i64 E, Value.int IntKind.i64 O, Value.slice sa es.length sc] 27)) := hw0.alloc (by simp) _
  have hbx := Box3.new (w.alloc (Obj.cells #[Value.slice a ps.length cap] 24)) (.int .i64 E) (.int .i64 O) (.slice sa es.length sc) 27
  have hbp : Below (w.heap.size + 1) (w.alloc (Obj.cells #[Value.slice a ps.length cap] 24)) ((w.alloc (Obj.cells #[Value.slice a ps.length cap] 24)).alloc (Obj.cells #[Value.int IntKind.i64 E, Value.int IntKind.i64 O, Value.slice sa es.length sc] 27)) := (Below.refl _ _).alloc (by simp) _
  have hp0 := keep hbp (by omega) (new1 w (.slice a ps.length cap) 24).1
  have hws : w.heap.size + 1 < ((w.alloc (Obj.cells #[Value.slice a ps.length cap] 24)).alloc (Obj.cells #[Value.int IntKind.i64 E, Value.int IntKind.i64 O, Value.slice sa es.length sc] 27)).heap.size := by simp
  simp only [World.size_alloc] at hbx
  have HSM := szMap_any a ps.length cap ((w.alloc (Obj.cells #[Value.slice a ps.length cap] 24)).alloc (Obj.cells #[Value.int IntKind.i64 E, Value.int IntKind.i64 O, Value.slice sa es.length sc] 27)) hm
  have HB : Hid (Pls w a ps ∧ Els true w sa es ∧ SentB w ∧ DecF f ∧ AyP f ps s E O es qs R) := ⟨hb, hi, hS, hf, hay⟩
  have hRR : (R != R) = false := by simp
  clear hb hi hS hf hay hw0 hbp
  go_enter Tryz.func3, Tryz.ntmps3
  go_wp2_with fail
  generalize ((w.alloc (Obj.cells #[Value.slice a ps.length cap] 24)).alloc (Obj.cells #[Value.int IntKind.i64 E, Value.int IntKind.i64 O, Value.slice sa es.length sc] 27)) = W0 at *
  refine HSM.mono ?_
  clear HSM
  rintro e w1 ⟨rfl, hb1⟩
  have hx1 := hbx.step hb1
  have hp1 := keep hb1 (by omega) hp0
  have HB1 : Hid (Below w.heap.size w w1 ∧ w.heap.size + 1 < w1.heap.size) := ⟨hw.trans (hb1.mono (by have := hw.size; omega)), by have := hb1.size; omega⟩
  clear hb1 hw hbx hp0 hws
  by_cases hzm : (ps.length : Int) ≤ 1048576
  rotate_left 1
  · rw [if_neg hzm]
    clear hx1 hp1
    go_wp2
    go_ret
    exact ⟨rfl, HB1.out.1⟩
  rw [if_pos hzm]
  have HSP := szPack_any E O sa sc es w1 (HB.out.2.1.below HB1.out.1 (Nat.le_refl _)) hm2 (1048576 - ps.length) (by omega) (by omega)
  obtain ⟨p0, p1, p2, -, -, -, pl⟩ := id hx1
  have hzn : ¬ ((1048576 : Int) - ps.length < 0) := by omega
  go_wp2_with fail
  refine HSP.mono ?_
  clear HSP p0 p1 p2 pl
  rintro e w2 ⟨⟨z, rfl, hz⟩, hb2⟩
  have hx2 := hx1.step hb2
  have hp2 := keep hb2 (by have := HB1.out.2; omega) hp1
  have HB2 : Hid (Below w.heap.size w w2 ∧ w.heap.size + 1 < w2.heap.size) := ⟨HB1.out.1.trans (hb2.mono HB1.out.1.size), by have h1 := HB1.out.2; have := hb2.size; omega⟩
  clear hb2 hx1 hp1 HB1
  rcases hz with rfl | ⟨hz0, hz1, hz2⟩
  · clear hx2 hp2
    go_wp2
    go_ret
    exact ⟨rfl, HB2.out.1⟩
  have HF : Hid (FewI es ∧ es.length + elets es + ps.length ≤ 1048576) := ⟨FewI.mk' (by omega), by omega⟩
  have hzp : ¬ z < 0 := by omega
  clear hz2
  have HSPEC : Hid (∀ (g b : Nat) (ts : List El) (U : Nat) (W : World), Pls W (some ⟨g, 0, none⟩) ps → CopT W U (.slice (some ⟨b, 0, none⟩) es.length es.length) ts es → Calls Tryz.prog 6 #[.agg #[.slice (some ⟨g, 0, none⟩) ps.length ps.length], .int .i64 s, .agg #[.int .i64 E, .int .i64 O, .slice (some ⟨b, 0, none⟩) es.length es.length]] W fun r w' => (∃ va vc, r = .returned (.tuple #[.agg #[.slice va qs.length vc], .bool R]) ∧ MinP w' W.heap.size w'.heap.size va vc qs) ∧ Below W.heap.size W w') := fun g b ts U W h1 h2 => by
    have h9 := specMapApply_any f HB.out.2.2.2.1 (some ⟨g, 0, none⟩) ps.length ps s E O (some ⟨b, 0, none⟩) es.length ts W h1 (by have := HF.out.2; omega) h2.its (HF.out.1.ct h2.ct).j hs
    rw [len_ctE h2.ct] at h9
    refine h9.mono fun r w' h => ?_
    obtain ⟨⟨us, S, va, vc, k1, rfl, k3⟩, k4⟩ := h
    obtain ⟨rfl, rfl⟩ := k1.same HB.out.2.2.2.2 h2.ct
    exact ⟨⟨va, vc, rfl, k3⟩, k4⟩
  have HIMPL : Hid (∀ (g b : Nat) (ts : List El) (U : Nat) (W : World), Pls W (some ⟨g, 0, none⟩) ps → CopT W U (.slice (some ⟨b, 0, none⟩) es.length es.length) ts es → Below w.heap.size w W → Calls Tryz.prog 9 #[.agg #[.slice (some ⟨g, 0, none⟩) ps.length ps.length], .int .i64 s, .agg #[.int .i64 E, .int .i64 O, .slice (some ⟨b, 0, none⟩) es.length es.length]] W fun r w' => (∃ va vc, r = .returned (.tuple #[.agg #[.slice va qs.length vc], .bool R]) ∧ MinP w' W.heap.size w'.heap.size va vc qs) ∧ Below W.heap.size W w') := fun g b ts U W h1 h2 h3 => by
    have h9 := implMapApply_any f HB.out.2.2.2.1 (some ⟨g, 0, none⟩) ps.length ps s E O (some ⟨b, 0, none⟩) es.length ts W h1 (by have := HF.out.2; omega) h2.its (HF.out.1.ct h2.ct).j hs (HB.out.2.2.1.below h3)
    rw [len_ctE h2.ct] at h9
    refine h9.mono fun r w' h => ?_
    obtain ⟨⟨us, S, va, vc, k1, rfl, k3⟩, k4⟩ := h
    obtain ⟨rfl, rfl⟩ := k1.same HB.out.2.2.2.2 h2.ct
    exact ⟨⟨va, vc, rfl, k3⟩, k4⟩
  have HTP : Hid (∀ W, Below w.heap.size w W → Calls Tryz.prog 8 #[.agg #[.int .i64 E, .int .i64 O, .slice sa es.length sc]] W fun e w' => (∃ g ts, e = .returned (.agg #[.int .i64 E, .int .i64 O, .slice (some ⟨g, 0, none⟩) es.length es.length]) ∧ CopT w' W.heap.size (.slice (some ⟨g, 0, none⟩) es.length es.length) ts es) ∧ Below W.heap.size W w') := fun W h => toPack_any E O sa sc es W (HB.out.2.1.below h (Nat.le_refl _)) HF.out.1.n HF.out.1.l
  have HTM : Hid (∀ W, Below w.heap.size w W → Calls Tryz.prog 7 #[.agg #[.slice a ps.length cap]] W fun e w' => ∃ g, e = .returned (.agg #[.slice (some ⟨g, 0, none⟩) ps.length ps.length]) ∧ OwP w' W.heap.size g ps.length ps ∧ Below W.heap.size W w') := fun W h => toMap_any a cap ps W (HB.out.1.below h (Nat.le_refl _)) (by have := HF.out.2; omega)
  have HQL : Hid (qs.length ≤ 1048576) := by
    have h1 := HB.out.2.2.2.2.len
    have h2 := HF.out.2
    exact (by omega : qs.length ≤ 1048576)
  have HC3 : Hid (w2.cell? ⟨w.heap.size, 0, none⟩ = some (.slice a ps.length cap) ∧ Ce3 w2 (w.heap.size + 1) (.int .i64 E) (.int .i64 O) (.slice sa es.length sc) ∧ w.heap.size + 1 + 1 ≤ w2.heap.size) := ⟨hp2, ⟨hx2.c0, hx2.c1, hx2.c2⟩, HB2.out.2⟩
  clear hx2 hp2 HB hzm hzn hz0 hz1 hm hm2
  have HCL : Hid (∀ W, Below w2.heap.size w2 W → W.cell? ⟨w.heap.size, 0, none⟩ = some (.slice a ps.length cap) ∧ W.cell? ⟨w.heap.size + 1, 0, none⟩ = some (.int .i64 E) ∧ W.cell? ⟨w.heap.size + 1, 1, none⟩ = some (.int .i64 O) ∧ W.cell? ⟨w.heap.size + 1, 2, none⟩ = some (.slice sa es.length sc)) := fun W h => by
    obtain ⟨h1, h3, hs⟩ := HC3.out
    exact ⟨keep h (by omega) h1, keep h (by omega) h3.1, keep h (by omega) h3.2.1, keep h (by omega) h3.2.2⟩
  have hsb := (HC3.out).2.2
  go_wp2_with fail
  refine wp_region_cut (S := fun W => W.cell? ⟨w.heap.size, 0, none⟩ = some (.slice a ps.length cap) ∧ W.cell? ⟨w.heap.size + 1, 0, none⟩ = some (.int .i64 E) ∧ W.cell? ⟨w.heap.size + 1, 1, none⟩ = some (.int .i64 O) ∧ W.cell? ⟨w.heap.size + 1, 2, none⟩ = some (.slice sa es.length sc)) 12 (by kernel_rfl) (by kernel_rfl) (HCL.out _ ((Below.refl _ _).drew)) (fun hHeld => ?_)
  refine wpAnyH_take (i := 0) (v := ?_) rfl (by kernel_rfl) (by kernel_rfl) (by kernel_rfl) (fun _ _ _ h => h) (Or.inl ⟨by rfl, ?_⟩) (by assumption) ?_
  rotate_left 1
  · (intro w hSw; (try dsimp only at hSw); go_simp; try (with_reducible rfl))
  try simp only [List.getElem_toArray, List.getElem_cons_zero, List.getElem_cons_succ, Act.put, List.setIfInBounds_toArray, List.set_cons_zero, List.set_cons_succ]
  refine wpAnyH_take (i := 2) (v := ?_) rfl (by kernel_rfl) (by kernel_rfl) (by kernel_rfl) (fun _ _ _ h => h) (Or.inl ⟨by rfl, ?_⟩) (by assumption) ?_
  rotate_left 1
  · (intro w hSw; (try dsimp only at hSw); go_simp; try (with_reducible rfl))
  try simp only [List.getElem_toArray, List.getElem_cons_zero, List.getElem_cons_succ, Act.put, List.setIfInBounds_toArray, List.set_cons_zero, List.set_cons_succ]
  refine wpAnyH_take (i := 3) (v := ?_) rfl (by kernel_rfl) (by kernel_rfl) (by kernel_rfl) (fun _ _ _ h => h) (Or.inl ⟨by rfl, ?_⟩) (by assumption) ?_
  rotate_left 1
  · (intro w hSw; (try dsimp only at hSw); go_simp; try (with_reducible rfl))
  try simp only [List.getElem_toArray, List.getElem_cons_zero, List.getElem_cons_succ, Act.put, List.setIfInBounds_toArray, List.set_cons_zero, List.set_cons_succ]
  refine wpAnyH_ready (rs := [1, 9]) (by kernel_rfl) (by simp) ?_
  refine AllReadyH.cons rfl (fun K hK => ?_) (AllReadyH.cons rfl (fun K hK => ?_) AllReadyH.nil)
  focus
    go_simp
    refine (HTM.out _ (HB2.out.1.trans ((((Below.refl w2.heap.size w2).drew)).mono (by have := HB2.out.1.size; omega)))).mono ?_
    rintro e w3 ⟨g3, rfl, hown3, hb3'⟩
    have hb3 : Below w2.heap.size w2 w3 := (((Below.refl w2.heap.size w2).drew)).trans (hb3'.mono (((Below.refl w2.heap.size w2).drew)).size)
    have HC3c : Hid (Pls w3 (some ⟨g3, 0, none⟩) ps) := hown3.pls
    skip
    dsimp only
    refine hK.out _ _ (HCL.out _ hb3) (fun hHeld => ?_)
    clear hK K
    try simp only [List.getElem_toArray, List.getElem_cons_zero, List.getElem_cons_succ, Act.put, List.setIfInBounds_toArray, List.set_cons_zero, List.set_cons_succ]
    refine wpAnyH_ready (rs := [4, 9]) (by kernel_rfl) (by simp) ?_
    refine AllReadyH.cons rfl (fun K hK => ?_) (AllReadyH.cons rfl (fun K hK => ?_) AllReadyH.nil)
    focus
      have HC3d := HC3c
      go_simp
      refine (HTP.out _ (HB2.out.1.trans ((hb3).mono (by have := HB2.out.1.size; omega)))).mono ?_
      rintro e w4 ⟨⟨g4, ts4, rfl, hcop4⟩, hb4'⟩
      have hb4 : Below w2.heap.size w2 w4 := (hb3).trans (hb4'.mono (hb3).size)
      have HC4c : Hid (Pls w4 (some ⟨g3, 0, none⟩) ps ∧ CopT w4 w2.heap.size (.slice (some ⟨g4, 0, none⟩) es.length es.length) ts4 es) := ⟨HC3d.out.below hb4' (Nat.le_refl _), hcop4.weak (hb3).size⟩
      skip
      dsimp only
      refine hK.out _ _ (HCL.out _ hb4) (fun hHeld => ?_)
      clear hK K
      try simp only [List.getElem_toArray, List.getElem_cons_zero, List.getElem_cons_succ, Act.put, List.setIfInBounds_toArray, List.set_cons_zero, List.set_cons_succ]
      refine wpAnyH_ready (rs := [5, 9]) (by kernel_rfl) (by simp) ?_
      refine AllReadyH.cons rfl (fun K hK => ?_) (AllReadyH.cons rfl (fun K hK => ?_) AllReadyH.nil)
      focus
        have HC4d := HC4c
        go_simp
        refine (HSPEC.out g3 g4 ts4 _ _ HC4d.out.1 HC4d.out.2).mono ?_
        rintro e w5 ⟨⟨va, vc, rfl, hmin5⟩, hb5'⟩
        have hb5 : Below w2.heap.size w2 w5 := (hb4).trans (hb5'.mono (hb4).size)
        skip
        dsimp only
        refine hK.out _ _ (HCL.out _ hb5) (fun hHeld => ?_)
        clear hK K
        try simp only [List.getElem_toArray, List.getElem_cons_zero, List.getElem_cons_succ, Act.put, List.setIfInBounds_toArray, List.set_cons_zero, List.set_cons_succ]
        refine wpAnyH_take (i := 6) (v := ?_) rfl (by kernel_rfl) (by kernel_rfl) (by kernel_rfl) (fun _ _ _ h => h) (Or.inl ⟨by rfl, ?_⟩) (by assumption) ?_
        rotate_left 1
        · (intro w hSw; (try dsimp only at hSw); go_simp; try (with_reducible rfl))
        try simp only [List.getElem_toArray, List.getElem_cons_zero, List.getElem_cons_succ, Act.put, List.setIfInBounds_toArray, List.set_cons_zero, List.set_cons_succ]
        refine wpAnyH_take (i := 7) (v := ?_) rfl (by kernel_rfl) (by kernel_rfl) (by kernel_rfl) (fun _ _ _ h => h) (Or.inl ⟨by rfl, ?_⟩) (by assumption) ?_
        rotate_left 1
        · (intro w hSw; (try dsimp only at hSw); go_simp; try (with_reducible rfl))
        try simp only [List.getElem_toArray, List.getElem_cons_zero, List.getElem_cons_succ, Act.put, List.setIfInBounds_toArray, List.set_cons_zero, List.set_cons_succ]
        refine wpAnyH_take (i := 8) (v := ?_) rfl (by kernel_rfl) (by kernel_rfl) (by kernel_rfl) (fun _ _ _ h => h) (Or.inl ⟨by rfl, ?_⟩) (by assumption) ?_
        rotate_left 1
        · (intro w hSw; (try dsimp only at hSw); go_simp; try (with_reducible rfl))
        try simp only [List.getElem_toArray, List.getElem_cons_zero, List.getElem_cons_succ, Act.put, List.setIfInBounds_toArray, List.set_cons_zero, List.set_cons_succ]
        refine wpAnyH_ready (rs := [9]) (by kernel_rfl) (by simp) ?_
        refine AllReadyH.cons rfl (fun K hK => ?_) AllReadyH.nil
        go_simp
        refine hK.out _ _ (HCL.out _ (hb5.trans (((Below.refl _ _).alloc (Nat.le_refl _) _).mono hb5.size))) (fun hHeld => ?_)
        clear hK K
        try simp only [List.getElem_toArray, List.getElem_cons_zero, List.getElem_cons_succ, Act.put, List.setIfInBounds_toArray, List.set_cons_zero, List.set_cons_succ]
        refine wpAnyH_ready (rs := [10]) (by kernel_rfl) (by simp) ?_
        refine AllReadyH.cons rfl (fun K hK => ?_) AllReadyH.nil
        go_simp
        refine hK.out _ _ (HCL.out _ (hb5.trans (((Below.refl _ _).alloc (Nat.le_refl _) _).mono hb5.size))) (fun hHeld => ?_)
        clear hK K
        try simp only [List.getElem_toArray, List.getElem_cons_zero, List.getElem_cons_succ, Act.put, List.setIfInBounds_toArray, List.set_cons_zero, List.set_cons_succ]
        refine wpAnyH_ready (rs := [11]) (by kernel_rfl) (by simp) ?_
        refine AllReadyH.cons rfl (fun K hK => ?_) AllReadyH.nil
        go_simp
        refine hK.out _ _ (hHeld) (fun hHeld => ?_)
        clear hK K
        try simp only [List.getElem_toArray, List.getElem_cons_zero, List.getElem_cons_succ, Act.put, List.setIfInBounds_toArray, List.set_cons_zero, List.set_cons_succ]
        refine wpAnyH_done (by kernel_rfl) ?_ _
        simp only [cutQ, List.drop_succ_cons, List.drop_zero]
        have HLP := maN (T := 32) HB2.out.1 (HC3.out).1 (HC3.out).2.1 (HC3.out).2.2 hb5 hmin5 (by first | omega | (have := hb3.size; have := hb4.size; have := hb5.size; omega))
        have HLP0 := HLP.1
        clear HLP
        clear hHeld
        try clear zz0 zf0 zzl
        try clear bz bz3 bz4
        try clear hY
        clear hmin5 hb5' hb5 hb4' hb4 hb3' hb3 HC3c HC4c HC3d HC4d hown3 hcop4 HCL hsb HC3 HSPEC HB2
        generalize w5.alloc (Obj.cells #[.slice va qs.length vc] 32) = W8 at *
        generalize w5.heap.size = Y8 at *
        generalize hva : va = va0 at *
        generalize hvc : vc = vc0 at *
        clear hva hvc
      rotate_left 1
      go_simp
      refine hK.out _ _ (HCL.out _ (hb4.trans (((Below.refl w4.heap.size w4).alloc (Nat.le_refl _) (Obj.cells #[Value.slice none 0 0] 32)).mono hb4.size))) (fun hHeld => ?_)
      clear hK K
      try simp only [List.getElem_toArray, List.getElem_cons_zero, List.getElem_cons_succ, Act.put, List.setIfInBounds_toArray, List.set_cons_zero, List.set_cons_succ]
      have bz4 := Bx1.new w4 (.slice none 0 0) 32
      have HC4d : Hid (Pls (w4.alloc (Obj.cells #[Value.slice none 0 0] 32)) (some ⟨g3, 0, none⟩) ps ∧ CopT (w4.alloc (Obj.cells #[Value.slice none 0 0] 32)) w2.heap.size (.slice (some ⟨g4, 0, none⟩) es.length es.length) ts4 es) := And.intro (HC4c.out.1.below ((Below.refl w4.heap.size w4).alloc (Nat.le_refl _) (Obj.cells #[Value.slice none 0 0] 32)) (Nat.le_refl _)) (HC4c.out.2.below ((Below.refl w4.heap.size w4).alloc (Nat.le_refl _) (Obj.cells #[Value.slice none 0 0] 32)))
      have hY : w2.heap.size ≤ w4.heap.size := hb4.size
      refine wpAnyH_ready (rs := [5]) (by kernel_rfl) (by simp) ?_
      refine AllReadyH.cons rfl (fun K hK => ?_) AllReadyH.nil
      go_simp
      refine (HSPEC.out g3 g4 ts4 _ _ HC4d.out.1 HC4d.out.2).mono ?_
      rintro e w5 ⟨⟨va, vc, rfl, hmin5⟩, hb5'⟩
      have hb5 : Below w2.heap.size w2 w5 := ((hb4.trans (((Below.refl w4.heap.size w4).alloc (Nat.le_refl _) (Obj.cells #[Value.slice none 0 0] 32)).mono hb4.size))).trans (hb5'.mono ((hb4.trans (((Below.refl w4.heap.size w4).alloc (Nat.le_refl _) (Obj.cells #[Value.slice none 0 0] 32)).mono hb4.size))).size)
      have bz5 := bz4.step hb5'
      dsimp only
      refine hK.out _ _ (HCL.out _ hb5) (fun hHeld => ?_)
      clear hK K
      try simp only [List.getElem_toArray, List.getElem_cons_zero, List.getElem_cons_succ, Act.put, List.setIfInBounds_toArray, List.set_cons_zero, List.set_cons_succ]
      refine wpAnyH_take (i := 6) (v := ?_) rfl (by kernel_rfl) (by kernel_rfl) (by kernel_rfl) (fun _ _ _ h => h) (Or.inl ⟨by rfl, ?_⟩) (by assumption) ?_
      rotate_left 1
      · (intro w hSw; (try dsimp only at hSw); go_simp; try (with_reducible rfl))
      try simp only [List.getElem_toArray, List.getElem_cons_zero, List.getElem_cons_succ, Act.put, List.setIfInBounds_toArray, List.set_cons_zero, List.set_cons_succ]
      refine wpAnyH_take (i := 7) (v := ?_) rfl (by kernel_rfl) (by kernel_rfl) (by kernel_rfl) (fun _ _ _ h => h) (Or.inl ⟨by rfl, ?_⟩) (by assumption) ?_
      rotate_left 1
      · (intro w hSw; (try dsimp only at hSw); go_simp; try (with_reducible rfl))
      try simp only [List.getElem_toArray, List.getElem_cons_zero, List.getElem_cons_succ, Act.put, List.setIfInBounds_toArray, List.set_cons_zero, List.set_cons_succ]
      refine wpAnyH_take (i := 8) (v := ?_) rfl (by kernel_rfl) (by kernel_rfl) (by kernel_rfl) (fun _ _ _ h => h) (Or.inl ⟨by rfl, ?_⟩) (by assumption) ?_
      rotate_left 1
      · (intro w hSw; (try dsimp only at hSw); go_simp; try (with_reducible rfl))
      try simp only [List.getElem_toArray, List.getElem_cons_zero, List.getElem_cons_succ, Act.put, List.setIfInBounds_toArray, List.set_cons_zero, List.set_cons_succ]
      have HLP := maS HB2.out.1 (HC3.out).1 (HC3.out).2.1 (HC3.out).2.2 hb5 bz5 (hY) hmin5 (by first | (have h1 := hb3'.size; have h2 := hb4'.size; simp at h1; omega) | (have h1 := hb4'.size; simp at h1; omega) | (simp; done) | (simp; omega))
      obtain ⟨zz0, zf0, zzl⟩ := bz5
      refine wpAnyH_ready (rs := [10]) (by kernel_rfl) (by simp) ?_
      refine AllReadyH.cons rfl (fun K hK => ?_) AllReadyH.nil
      go_simp
      refine hK.out _ _ (HCL.out _ HLP.2) (fun hHeld => ?_)
      clear hK K
      try simp only [List.getElem_toArray, List.getElem_cons_zero, List.getElem_cons_succ, Act.put, List.setIfInBounds_toArray, List.set_cons_zero, List.set_cons_succ]
      refine wpAnyH_ready (rs := [11]) (by kernel_rfl) (by simp) ?_
      refine AllReadyH.cons rfl (fun K hK => ?_) AllReadyH.nil
      go_simp
      refine hK.out _ _ (hHeld) (fun hHeld => ?_)
      clear hK K
      try simp only [List.getElem_toArray, List.getElem_cons_zero, List.getElem_cons_succ, Act.put, List.setIfInBounds_toArray, List.set_cons_zero, List.set_cons_succ]
      refine wpAnyH_done (by kernel_rfl) ?_ _
      simp only [cutQ, List.drop_succ_cons, List.drop_zero]
      have HLP0 := HLP.1
      clear HLP
      clear hHeld
      try clear zz0 zf0 zzl
      try clear bz bz3 bz4
      try clear hY
      clear hmin5 hb5' hb5 hb4' hb4 hb3' hb3 HC3c HC4c HC3d HC4d hown3 hcop4 HCL hsb HC3 HSPEC HB2
      generalize w5.setCell ⟨w4.heap.size, 0, none⟩ (.slice va qs.length vc) = W8 at *
      generalize w4.heap.size = Y8 at *
      generalize hva : va = va0 at *
      generalize hvc : vc = vc0 at *
      clear hva hvc
    rotate_left 2
    go_simp
    refine hK.out _ _ (HCL.out _ (hb3.trans (((Below.refl w3.heap.size w3).alloc (Nat.le_refl _) (Obj.cells #[Value.slice none 0 0] 32)).mono hb3.size))) (fun hHeld => ?_)
    clear hK K
    try simp only [List.getElem_toArray, List.getElem_cons_zero, List.getElem_cons_succ, Act.put, List.setIfInBounds_toArray, List.set_cons_zero, List.set_cons_succ]
    have bz3 := Bx1.new w3 (.slice none 0 0) 32
    have HC3d : Hid (Pls (w3.alloc (Obj.cells #[Value.slice none 0 0] 32)) (some ⟨g3, 0, none⟩) ps) := HC3c.out.below ((Below.refl w3.heap.size w3).alloc (Nat.le_refl _) (Obj.cells #[Value.slice none 0 0] 32)) (Nat.le_refl _)
    have hY : w2.heap.size ≤ w3.heap.size := hb3.size
    refine wpAnyH_ready (rs := [4]) (by kernel_rfl) (by simp) ?_
    refine AllReadyH.cons rfl (fun K hK => ?_) AllReadyH.nil
    go_simp
    refine (HTP.out _ (HB2.out.1.trans (((hb3.trans (((Below.refl w3.heap.size w3).alloc (Nat.le_refl _) (Obj.cells #[Value.slice none 0 0] 32)).mono hb3.size))).mono (by have := HB2.out.1.size; omega)))).mono ?_
    rintro e w4 ⟨⟨g4, ts4, rfl, hcop4⟩, hb4'⟩
    have hb4 : Below w2.heap.size w2 w4 := ((hb3.trans (((Below.refl w3.heap.size w3).alloc (Nat.le_refl _) (Obj.cells #[Value.slice none 0 0] 32)).mono hb3.size))).trans (hb4'.mono ((hb3.trans (((Below.refl w3.heap.size w3).alloc (Nat.le_refl _) (Obj.cells #[Value.slice none 0 0] 32)).mono hb3.size))).size)
    have HC4c : Hid (Pls w4 (some ⟨g3, 0, none⟩) ps ∧ CopT w4 w2.heap.size (.slice (some ⟨g4, 0, none⟩) es.length es.length) ts4 es) := ⟨HC3d.out.below hb4' (Nat.le_refl _), hcop4.weak ((hb3.trans (((Below.refl w3.heap.size w3).alloc (Nat.le_refl _) (Obj.cells #[Value.slice none 0 0] 32)).mono hb3.size))).size⟩
    have bz4 := bz3.step hb4'
    dsimp only
    have HC4d := HC4c
    refine hK.out _ _ (HCL.out _ hb4) (fun hHeld => ?_)
    clear hK K
    try simp only [List.getElem_toArray, List.getElem_cons_zero, List.getElem_cons_succ, Act.put, List.setIfInBounds_toArray, List.set_cons_zero, List.set_cons_succ]
    refine wpAnyH_ready (rs := [5]) (by kernel_rfl) (by simp) ?_
    refine AllReadyH.cons rfl (fun K hK => ?_) AllReadyH.nil
    go_simp
    refine (HSPEC.out g3 g4 ts4 _ _ HC4d.out.1 HC4d.out.2).mono ?_
    rintro e w5 ⟨⟨va, vc, rfl, hmin5⟩, hb5'⟩
    have hb5 : Below w2.heap.size w2 w5 := (hb4).trans (hb5'.mono (hb4).size)
    have bz5 := bz4.step hb5'
    dsimp only
    refine hK.out _ _ (HCL.out _ hb5) (fun hHeld => ?_)
    clear hK K
    try simp only [List.getElem_toArray, List.getElem_cons_zero, List.getElem_cons_succ, Act.put, List.setIfInBounds_toArray, List.set_cons_zero, List.set_cons_succ]
    refine wpAnyH_take (i := 6) (v := ?_) rfl (by kernel_rfl) (by kernel_rfl) (by kernel_rfl) (fun _ _ _ h => h) (Or.inl ⟨by rfl, ?_⟩) (by assumption) ?_
    rotate_left 1
    · (intro w hSw; (try dsimp only at hSw); go_simp; try (with_reducible rfl))
    try simp only [List.getElem_toArray, List.getElem_cons_zero, List.getElem_cons_succ, Act.put, List.setIfInBounds_toArray, List.set_cons_zero, List.set_cons_succ]
    refine wpAnyH_take (i := 7) (v := ?_) rfl (by kernel_rfl) (by kernel_rfl) (by kernel_rfl) (fun _ _ _ h => h) (Or.inl ⟨by rfl, ?_⟩) (by assumption) ?_
    rotate_left 1
    · (intro w hSw; (try dsimp only at hSw); go_simp; try (with_reducible rfl))
    try simp only [List.getElem_toArray, List.getElem_cons_zero, List.getElem_cons_succ, Act.put, List.setIfInBounds_toArray, List.set_cons_zero, List.set_cons_succ]
    refine wpAnyH_take (i := 8) (v := ?_) rfl (by kernel_rfl) (by kernel_rfl) (by kernel_rfl) (fun _ _ _ h => h) (Or.inl ⟨by rfl, ?_⟩) (by assumption) ?_
    rotate_left 1
    · (intro w hSw; (try dsimp only at hSw); go_simp; try (with_reducible rfl))
    try simp only [List.getElem_toArray, List.getElem_cons_zero, List.getElem_cons_succ, Act.put, List.setIfInBounds_toArray, List.set_cons_zero, List.set_cons_succ]
    have HLP := maS HB2.out.1 (HC3.out).1 (HC3.out).2.1 (HC3.out).2.2 hb5 bz5 (hY) hmin5 (by first | (have h1 := hb3'.size; have h2 := hb4'.size; simp at h1; omega) | (have h1 := hb4'.size; simp at h1; omega) | (simp; done) | (simp; omega))
    obtain ⟨zz0, zf0, zzl⟩ := bz5
    refine wpAnyH_ready (rs := [10]) (by kernel_rfl) (by simp) ?_
    refine AllReadyH.cons rfl (fun K hK => ?_) AllReadyH.nil
    go_simp
    refine hK.out _ _ (HCL.out _ HLP.2) (fun hHeld => ?_)
    clear hK K
    try simp only [List.getElem_toArray, List.getElem_cons_zero, List.getElem_cons_succ, Act.put, List.setIfInBounds_toArray, List.set_cons_zero, List.set_cons_succ]
    refine wpAnyH_ready (rs := [11]) (by kernel_rfl) (by simp) ?_
    refine AllReadyH.cons rfl (fun K hK => ?_) AllReadyH.nil
    go_simp
    refine hK.out _ _ (hHeld) (fun hHeld => ?_)
    clear hK K
    try simp only [List.getElem_toArray, List.getElem_cons_zero, List.getElem_cons_succ, Act.put, List.setIfInBounds_toArray, List.set_cons_zero, List.set_cons_succ]
    refine wpAnyH_done (by kernel_rfl) ?_ _
    simp only [cutQ, List.drop_succ_cons, List.drop_zero]
    have HLP0 := HLP.1
    clear HLP
    clear hHeld
    try clear zz0 zf0 zzl
    try clear bz bz3 bz4
    try clear hY
    clear hmin5 hb5' hb5 hb4' hb4 hb3' hb3 HC3c HC4c HC3d HC4d hown3 hcop4 HCL hsb HC3 HSPEC HB2
    generalize w5.setCell ⟨w3.heap.size, 0, none⟩ (.slice va qs.length vc) = W8 at *
    generalize w3.heap.size = Y8 at *
    generalize hva : va = va0 at *
    generalize hvc : vc = vc0 at *
    clear hva hvc
  rotate_left 3
  go_simp
  refine hK.out _ _ (HCL.out _ (((Below.refl w2.heap.size w2).alloc (Nat.le_refl _) (Obj.cells #[Value.slice none 0 0] 32)).drew)) (fun hHeld => ?_)
  clear hK K
  try simp only [List.getElem_toArray, List.getElem_cons_zero, List.getElem_cons_succ, Act.put, List.setIfInBounds_toArray, List.set_cons_zero, List.set_cons_succ]
  have bz := (Bx1.new w2 (.slice none 0 0) 32).step ((Below.refl _ _).drew)
  have hY : w2.heap.size ≤ w2.heap.size := Nat.le_refl _
  refine wpAnyH_ready (rs := [1]) (by kernel_rfl) (by simp) ?_
  refine AllReadyH.cons rfl (fun K hK => ?_) AllReadyH.nil
  go_simp
  refine (HTM.out _ (HB2.out.1.trans (((((Below.refl w2.heap.size w2).alloc (Nat.le_refl _) (Obj.cells #[Value.slice none 0 0] 32)).drew)).mono (by have := HB2.out.1.size; omega)))).mono ?_
  rintro e w3 ⟨g3, rfl, hown3, hb3'⟩
  have hb3 : Below w2.heap.size w2 w3 := ((((Below.refl w2.heap.size w2).alloc (Nat.le_refl _) (Obj.cells #[Value.slice none 0 0] 32)).drew)).trans (hb3'.mono ((((Below.refl w2.heap.size w2).alloc (Nat.le_refl _) (Obj.cells #[Value.slice none 0 0] 32)).drew)).size)
  have HC3c : Hid (Pls w3 (some ⟨g3, 0, none⟩) ps) := hown3.pls
  have bz3 := bz.step hb3'
  dsimp only
  have HC3d := HC3c
  refine hK.out _ _ (HCL.out _ hb3) (fun hHeld => ?_)
  clear hK K
  try simp only [List.getElem_toArray, List.getElem_cons_zero, List.getElem_cons_succ, Act.put, List.setIfInBounds_toArray, List.set_cons_zero, List.set_cons_succ]
  refine wpAnyH_ready (rs := [4]) (by kernel_rfl) (by simp) ?_
  refine AllReadyH.cons rfl (fun K hK => ?_) AllReadyH.nil
  go_simp
  refine (HTP.out _ (HB2.out.1.trans ((hb3).mono (by have := HB2.out.1.size; omega)))).mono ?_
  rintro e w4 ⟨⟨g4, ts4, rfl, hcop4⟩, hb4'⟩
  have hb4 : Below w2.heap.size w2 w4 := (hb3).trans (hb4'.mono (hb3).size)
  have HC4c : Hid (Pls w4 (some ⟨g3, 0, none⟩) ps ∧ CopT w4 w2.heap.size (.slice (some ⟨g4, 0, none⟩) es.length es.length) ts4 es) := ⟨HC3d.out.below hb4' (Nat.le_refl _), hcop4.weak (hb3).size⟩
  have bz4 := bz3.step hb4'
  dsimp only
  have HC4d := HC4c
  refine hK.out _ _ (HCL.out _ hb4) (fun hHeld => ?_)
  clear hK K
  try simp only [List.getElem_toArray, List.getElem_cons_zero, List.getElem_cons_succ, Act.put, List.setIfInBounds_toArray, List.set_cons_zero, List.set_cons_succ]
  refine wpAnyH_ready (rs := [5]) (by kernel_rfl) (by simp) ?_
  refine AllReadyH.cons rfl (fun K hK => ?_) AllReadyH.nil
  go_simp
  refine (HSPEC.out g3 g4 ts4 _ _ HC4d.out.1 HC4d.out.2).mono ?_
  rintro e w5 ⟨⟨va, vc, rfl, hmin5⟩, hb5'⟩
  have hb5 : Below w2.heap.size w2 w5 := (hb4).trans (hb5'.mono (hb4).size)
  have bz5 := bz4.step hb5'
  dsimp only
  refine hK.out _ _ (HCL.out _ hb5) (fun hHeld => ?_)
  clear hK K
  try simp only [List.getElem_toArray, List.getElem_cons_zero, List.getElem_cons_succ, Act.put, List.setIfInBounds_toArray, List.set_cons_zero, List.set_cons_succ]
  refine wpAnyH_take (i := 6) (v := ?_) rfl (by kernel_rfl) (by kernel_rfl) (by kernel_rfl) (fun _ _ _ h => h) (Or.inl ⟨by rfl, ?_⟩) (by assumption) ?_
  rotate_left 1
  · (intro w hSw; (try dsimp only at hSw); go_simp; try (with_reducible rfl))
  try simp only [List.getElem_toArray, List.getElem_cons_zero, List.getElem_cons_succ, Act.put, List.setIfInBounds_toArray, List.set_cons_zero, List.set_cons_succ]
  refine wpAnyH_take (i := 7) (v := ?_) rfl (by kernel_rfl) (by kernel_rfl) (by kernel_rfl) (fun _ _ _ h => h) (Or.inl ⟨by rfl, ?_⟩) (by assumption) ?_
  rotate_left 1
  · (intro w hSw; (try dsimp only at hSw); go_simp; try (with_reducible rfl))
  try simp only [List.getElem_toArray, List.getElem_cons_zero, List.getElem_cons_succ, Act.put, List.setIfInBounds_toArray, List.set_cons_zero, List.set_cons_succ]
  refine wpAnyH_take (i := 8) (v := ?_) rfl (by kernel_rfl) (by kernel_rfl) (by kernel_rfl) (fun _ _ _ h => h) (Or.inl ⟨by rfl, ?_⟩) (by assumption) ?_
  rotate_left 1
  · (intro w hSw; (try dsimp only at hSw); go_simp; try (with_reducible rfl))
  try simp only [List.getElem_toArray, List.getElem_cons_zero, List.getElem_cons_succ, Act.put, List.setIfInBounds_toArray, List.set_cons_zero, List.set_cons_succ]
  have HLP := maS HB2.out.1 (HC3.out).1 (HC3.out).2.1 (HC3.out).2.2 hb5 bz5 (hY) hmin5 (by first | (have h1 := hb3'.size; have h2 := hb4'.size; simp at h1; omega) | (have h1 := hb4'.size; simp at h1; omega) | (simp; done) | (simp; omega))
  obtain ⟨zz0, zf0, zzl⟩ := bz5
  refine wpAnyH_ready (rs := [10]) (by kernel_rfl) (by simp) ?_
  refine AllReadyH.cons rfl (fun K hK => ?_) AllReadyH.nil
  go_simp
  refine hK.out _ _ (HCL.out _ HLP.2) (fun hHeld => ?_)
  clear hK K
  try simp only [List.getElem_toArray, List.getElem_cons_zero, List.getElem_cons_succ, Act.put, List.setIfInBounds_toArray, List.set_cons_zero, List.set_cons_succ]
  refine wpAnyH_ready (rs := [11]) (by kernel_rfl) (by simp) ?_
  refine AllReadyH.cons rfl (fun K hK => ?_) AllReadyH.nil
  go_simp
  refine hK.out _ _ (hHeld) (fun hHeld => ?_)
  clear hK K
  try simp only [List.getElem_toArray, List.getElem_cons_zero, List.getElem_cons_succ, Act.put, List.setIfInBounds_toArray, List.set_cons_zero, List.set_cons_succ]
  refine wpAnyH_done (by kernel_rfl) ?_ _
  simp only [cutQ, List.drop_succ_cons, List.drop_zero]
  have HLP0 := HLP.1
  clear HLP
  clear hHeld
  try clear zz0 zf0 zzl
  try clear bz bz3 bz4
  try clear hY
  clear hmin5 hb5' hb5 hb4' hb4 hb3' hb3 HC3c HC4c HC3d HC4d hown3 hcop4 HCL hsb HC3 HSPEC HB2
  generalize w5.setCell ⟨w2.heap.size, 0, none⟩ (.slice va qs.length vc) = W8 at *
  generalize w2.heap.size = Y8 at *
  generalize hva : va = va0 at *
  generalize hvc : vc = vc0 at *
  clear hva hvc
  all_goals
    have HL8 : Hid (MaF w W8 E O a sa va0 ps.length cap es.length sc vc0 Y8 qs) := HLP0
    clear HLP0
    have h8y := HL8.out.y1
    have p0 := HL8.out.c1
    obtain ⟨y0, y1, y2⟩ := HL8.out.c3
    have hp8 : w.heap.size + 1 < W8.heap.size := by have := HL8.out.y0; omega
    have HT9 := HTM.out W8 HL8.out.bel
    go_wp2_with fail
    refine HT9.mono ?_
    clear HT9
    rintro e w9 ⟨g9, rfl, hown9, hb9⟩
    have hba9 : Below w9.heap.size w9 (w9.alloc (Obj.cells #[Value.slice (some ⟨g9, 0, none⟩) ps.length ps.length] 32)) := (Below.refl _ _).alloc (Nat.le_refl _) _
    have hb9a : Below W8.heap.size W8 (w9.alloc (Obj.cells #[Value.slice (some ⟨g9, 0, none⟩) ps.length ps.length] 32)) := hb9.trans (hba9.mono hb9.size)
    have hbx9 := Bx1.new w9 (.slice (some ⟨g9, 0, none⟩) ps.length ps.length) 32
    have hmi9 : MinP w9 W8.heap.size w9.heap.size (some ⟨g9, 0, none⟩) ps.length ps := Or.inr ⟨g9, rfl, hown9.lt.1, hown9.lt.2, hown9⟩
    have HC9 : Hid (MinP (w9.alloc (Obj.cells #[Value.slice (some ⟨g9, 0, none⟩) ps.length ps.length] 32)) W8.heap.size w9.heap.size (some ⟨g9, 0, none⟩) ps.length ps ∧ W8.heap.size ≤ w9.heap.size) := ⟨hmi9.below hba9, hb9.size⟩
    have y0a := keep hb9a hp8 y0
    have y1a := keep hb9a hp8 y1
    have y2a := keep hb9a hp8 y2
    have HT10 := HTP.out _ (HL8.out.bel.trans (hb9a.mono HL8.out.bel.size))
    have HBA9 : Hid (Below W8.heap.size W8 (w9.alloc (Obj.cells #[Value.slice (some ⟨g9, 0, none⟩) ps.length ps.length] 32)) ∧ w9.heap.size + 1 = (w9.alloc (Obj.cells #[Value.slice (some ⟨g9, 0, none⟩) ps.length ps.length] 32)).heap.size) := ⟨hb9a, by simp⟩
    clear hmi9 hown9 hb9 hba9 hb9a p0 y0 y1 y2
    go_wp2_with fail
    generalize (w9.alloc (Obj.cells #[Value.slice (some ⟨g9, 0, none⟩) ps.length ps.length] 32)) = W9 at *
    refine HT10.mono ?_
    clear HT10
    rintro e w10 ⟨⟨g10, us, rfl, hcop10⟩, hb10⟩
    have hba10 : Below w10.heap.size w10 (w10.alloc (Obj.cells #[Value.int IntKind.i64 E, Value.int IntKind.i64 O, Value.slice (some ⟨g10, 0, none⟩) es.length es.length] 38)) := (Below.refl _ _).alloc (Nat.le_refl _) _
    have hb10a : Below W9.heap.size W9 (w10.alloc (Obj.cells #[Value.int IntKind.i64 E, Value.int IntKind.i64 O, Value.slice (some ⟨g10, 0, none⟩) es.length es.length] 38)) := hb10.trans (hba10.mono hb10.size)
    have hbq10 := Box3.new w10 (.int .i64 E) (.int .i64 O) (.slice (some ⟨g10, 0, none⟩) es.length es.length) 38
    have hbx10 := hbx9.step hb10a
    have HC10 : Hid (MinP (w10.alloc (Obj.cells #[Value.int IntKind.i64 E, Value.int IntKind.i64 O, Value.slice (some ⟨g10, 0, none⟩) es.length es.length] 38)) W8.heap.size w9.heap.size (some ⟨g9, 0, none⟩) ps.length ps ∧ CopV (w10.alloc (Obj.cells #[Value.int IntKind.i64 E, Value.int IntKind.i64 O, Value.slice (some ⟨g10, 0, none⟩) es.length es.length] 38)) (w9.heap.size + 1) w10.heap.size (.slice (some ⟨g10, 0, none⟩) es.length es.length) us es ∧ Below W8.heap.size W8 (w10.alloc (Obj.cells #[Value.int IntKind.i64 E, Value.int IntKind.i64 O, Value.slice (some ⟨g10, 0, none⟩) es.length es.length] 38)) ∧ W8.heap.size ≤ w9.heap.size ∧ w9.heap.size + 1 ≤ w10.heap.size ∧ w10.heap.size + 1 = (w10.alloc (Obj.cells #[Value.int IntKind.i64 E, Value.int IntKind.i64 O, Value.slice (some ⟨g10, 0, none⟩) es.length es.length] 38)).heap.size) := by
      have h1 := HBA9.out.2
      exact ⟨HC9.out.1.below hb10a, by rw [h1]; exact ⟨hcop10.below hba10, hcop10.v.r, hcop10.v.d⟩, HBA9.out.1.trans (hb10a.mono HBA9.out.1.size), HC9.out.2, by rw [h1]; exact hb10.size, by simp⟩
    clear hcop10 hb10 hba10 hb10a hbx9 HC9 HBA9 y0a y1a y2a
    obtain ⟨q0, -, ql⟩ := id hbx10
    obtain ⟨s0, s1, s2, -, -, -, sl0⟩ := id hbq10
    have HXY : Hid _ := (⟨hbx10, hbq10⟩ : _ ∧ _)
    clear hbx10 hbq10
    go_wp2_with fail
    generalize (w10.alloc (Obj.cells #[Value.int IntKind.i64 E, Value.int IntKind.i64 O, Value.slice (some ⟨g10, 0, none⟩) es.length es.length] 38)) = W10 at *
    refine (HIMPL.out g9 g10 us (w9.heap.size + 1) W10 HC10.out.1.pls HC10.out.2.1.cop (HL8.out.bel.trans (HC10.out.2.2.1.mono HL8.out.bel.size))).mono ?_
    rintro e w12 ⟨⟨va2, vc2, rfl, hmin12⟩, hb12⟩
    have hba12 : Below w12.heap.size w12 (w12.alloc (Obj.cells #[Value.slice va2 qs.length vc2] 32)) := (Below.refl _ _).alloc (Nat.le_refl _) _
    have hb12a := hb12.trans (hba12.mono hb12.size)
    have HS12 : Hid (Snp w (w12.alloc (Obj.cells #[Value.slice va2 qs.length vc2] 32)) (w.heap.size + 1 + 1) W8.heap.size W10.heap.size (w12.heap.size + 1)
        (fun W => W.cell? ⟨w.heap.size, 0, none⟩ = some (.slice a ps.length cap) ∧ Ce3 W (w.heap.size + 1) (.int .i64 E) (.int .i64 O) (.slice sa es.length sc))
        (fun W => MinP W (w.heap.size + 1 + 1) W8.heap.size va0 vc0 qs ∧ W.cell? ⟨Y8, 0, none⟩ = some (.slice va0 qs.length vc0))
        (fun W => (MinP W W8.heap.size w9.heap.size (some ⟨g9, 0, none⟩) ps.length ps ∧ W.cell? ⟨w9.heap.size, 0, none⟩ = some (.slice (some ⟨g9, 0, none⟩) ps.length ps.length)) ∧ (CopV W (w9.heap.size + 1) w10.heap.size (.slice (some ⟨g10, 0, none⟩) es.length es.length) us es ∧ Ce3 W w10.heap.size (.int .i64 E) (.int .i64 O) (.slice (some ⟨g10, 0, none⟩) es.length es.length)))
        (fun W => MinP W W10.heap.size w12.heap.size va2 vc2 qs ∧ W.cell? ⟨w12.heap.size, 0, none⟩ = some (.slice va2 qs.length vc2))) := by
      obtain ⟨h1, h2, h3, h4, h5, h6⟩ := HC10.out
      have h7 := hb12.size
      have h8 := HL8.out.y0
      have hb8 : Below W8.heap.size W8 (w12.alloc (Obj.cells #[Value.slice va2 qs.length vc2] 32)) := h3.trans (hb12a.mono h3.size)
      have hx := HXY.out.1.step hb12a
      have hq := HXY.out.2.step hb12a
      have c1 := HL8.out.c1
      have c3 := HL8.out.c3
      have cy := HL8.out.cy
      refine ⟨HL8.out.bel.trans (hb8.mono HL8.out.bel.size), by simp; omega, (Stab.cell (Nat.le_refl _) (by omega)).and (Ce3.stab (by omega) (by omega)), ⟨keep hb8 (by omega) c1, ⟨keep hb8 (by omega) c3.1, keep hb8 (by omega) c3.2.1, keep hb8 (by omega) c3.2.2⟩⟩,
        (Stab.minP (Nat.le_refl _) (Nat.le_refl _)).and (Stab.cell h8 h8y), ⟨HL8.out.min.below hb8, keep hb8 h8y cy⟩,
        ((Stab.minP (Nat.le_refl _) (by omega)).and (Stab.cell h4 (by omega))).and ((CopV.stab (by omega) (by omega)).and (Ce3.stab (by omega) (by omega))), ⟨⟨h1.below hb12a, hx.c0⟩, ⟨⟨h2.cop.below hb12a, h2.r, h2.d⟩, ⟨hq.c0, hq.c1, hq.c2⟩⟩⟩,
        (Stab.minP (Nat.le_refl _) (by omega)).and (Stab.cell h7 (by omega)), ⟨hmin12.below hba12, by simp⟩⟩
    have HOD : Hid (W8.heap.size ≤ w9.heap.size ∧ w9.heap.size + 1 ≤ w10.heap.size ∧ w10.heap.size + 1 = W10.heap.size ∧ W10.heap.size ≤ w12.heap.size) := ⟨HC10.out.2.2.2.1, HC10.out.2.2.2.2.1, HC10.out.2.2.2.2.2, hb12.size⟩
    clear hmin12 hb12 hba12 hb12a HC10 HXY q0 ql s0 s1 s2 sl0 HL8 h8y hp8
    have l0 := HS12.out.hw.2
    have n0 := HS12.out.hg.2
    have HEQ := eqMap_yes va2 va0 vc2 vc0 qs _ HS12.out.hg.1.pls HS12.out.hw.1.pls HQL.out
    go_wp2_with fail
    clear l0 n0
    generalize (w12.alloc (Obj.cells #[Value.slice va2 qs.length vc2] 32)) = w13 at *
    generalize w12.heap.size = X3 at *
    generalize W10.heap.size = V at *
    generalize w10.heap.size = X2 at *
    generalize w9.heap.size = X1 at *
    generalize W8.heap.size = U at *
    refine HEQ.mono ?_
    clear HEQ
    rintro e w14 ⟨rfl, hb14⟩
    have HS14 : Hid _ := HS12.out.step hb14
    clear hb14 HS12
    go_wp2_with fail
    go_region_held3 (fun W => W.cell? ⟨w.heap.size, 0, none⟩ = some (.slice a ps.length cap) ∧ W.cell? ⟨X1, 0, none⟩ = some (.slice (some ⟨g9, 0, none⟩) ps.length ps.length))
      (first | exact ⟨HS14.out.hb.1, HS14.out.hx.1.2⟩ | exact ⟨HS15.out.hb.1, HS15.out.hx.1.2⟩ | exact ⟨HS15b.out.hb.1, HS15b.out.hx.1.2⟩)
      (first
        | (go_at_call 7; refine (HTM.out _ HS14.out.bel.drew).mono ?_; rintro e w15 ⟨g15, rfl, hown15, hb15'⟩; have HS15 : Hid _ := HS14.out.step (Below.drewS hb15'); have HC15 : Hid (Pls w15 (some ⟨g15, 0, none⟩) ps) := hown15.pls; clear hown15 hb15')
        | (go_at_call 10; refine (eqMap_yes (some ⟨g9, 0, none⟩) (some ⟨g15, 0, none⟩) ps.length ps.length ps w15 HS15.out.hx.1.1.pls HC15.out (by have := HF.out.2; omega)).mono ?_; rintro e w15b ⟨rfl, hb15b⟩; have HS15b : Hid _ := HS15.out.step hb15b; clear hb15b))
    clear HS14 HS15 HC15
    go_wp2_with fail
    go_region_held3 (fun W => W.cell? ⟨w.heap.size + 1, 0, none⟩ = some (.int .i64 E) ∧ W.cell? ⟨w.heap.size + 1, 1, none⟩ = some (.int .i64 O) ∧ W.cell? ⟨w.heap.size + 1, 2, none⟩ = some (.slice sa es.length sc) ∧ W.cell? ⟨X2, 0, none⟩ = some (.int .i64 E) ∧ W.cell? ⟨X2, 1, none⟩ = some (.int .i64 O) ∧ W.cell? ⟨X2, 2, none⟩ = some (.slice (some ⟨g10, 0, none⟩) es.length es.length))
      (first | exact ⟨HS15b.out.hb.2.1, HS15b.out.hb.2.2.1, HS15b.out.hb.2.2.2, HS15b.out.hx.2.2.1, HS15b.out.hx.2.2.2.1, HS15b.out.hx.2.2.2.2⟩ | exact ⟨HS15c.out.hb.2.1, HS15c.out.hb.2.2.1, HS15c.out.hb.2.2.2, HS15c.out.hx.2.2.1, HS15c.out.hx.2.2.2.1, HS15c.out.hx.2.2.2.2⟩ | exact ⟨HS15d.out.hb.2.1, HS15d.out.hb.2.2.1, HS15d.out.hb.2.2.2, HS15d.out.hx.2.2.1, HS15d.out.hx.2.2.2.1, HS15d.out.hx.2.2.2.2⟩)
      (first
        | (go_at_call 8; refine (HTP.out _ HS15b.out.bel.drew).mono ?_; rintro e w15c ⟨⟨g15c, vs, rfl, hcop15⟩, hb15'⟩; have HS15c : Hid _ := HS15b.out.step (Below.drewS hb15'); have HC15 : Hid _ := hcop15; clear hcop15 hb15')
        | (go_at_call 11; refine (eqPack_two E O (some ⟨g10, 0, none⟩) (some ⟨g15c, 0, none⟩) es us vs w15c HS15c.out.hx.2.1.cop HC15.out HF.out.1).mono ?_; rintro e w15d ⟨rfl, hb15d⟩; have HS15d : Hid _ := HS15c.out.step hb15d; clear hb15d))
    clear HS15b HS15c HC15
    have q0 := HS15d.out.hx.1.2
    have HMM := markMap_any (some ⟨g9, 0, none⟩) U X1 ps.length ps 1 w15d HS15d.out.hx.1.1 (by have := HS15d.out.ord; have := HOD.out; omega) (by have := HF.out.2; omega) (by omega) (by omega)
    go_wp2_with fail
    refine HMM.mono ?_
    clear HMM
    rintro e w20 ⟨rfl, hm20, ho20⟩
    have HS20 : Hid (Snp w w20 (w.heap.size + 1 + 1) U V (X3 + 1)
        (fun W => W.cell? ⟨w.heap.size, 0, none⟩ = some (.slice a ps.length cap) ∧ Ce3 W (w.heap.size + 1) (.int .i64 E) (.int .i64 O) (.slice sa es.length sc))
        (fun W => MinP W (w.heap.size + 1 + 1) U va0 vc0 qs ∧ W.cell? ⟨Y8, 0, none⟩ = some (.slice va0 qs.length vc0))
        (fun W => CopV W (X1 + 1) X2 (.slice (some ⟨g10, 0, none⟩) es.length es.length) us es ∧ Ce3 W X2 (.int .i64 E) (.int .i64 O) (.slice (some ⟨g10, 0, none⟩) es.length es.length))
        (fun W => MinP W V X3 va2 vc2 qs ∧ W.cell? ⟨X3, 0, none⟩ = some (.slice va2 qs.length vc2))) := by
      have hod := HOD.out
      have hord := HS15d.out.ord
      have hT : ∀ k, rowOf (some ⟨g9, 0, none⟩) k → U ≤ k ∧ k < X1 := fun k hk => hm20.row hk
      refine HS15d.out.markX ho20 (fun k hk => by have := hT k hk; omega) ((CopV.stab (by omega) (by omega)).and (Ce3.stab (by omega) (by omega))) ⟨CopV.stab (lo := X1 + 1) (hi := X2) (Nat.le_refl _) (Nat.le_refl _) _ _ _ HS15d.out.hx.2.1 ho20 (fun k h1 h2 hk => by have := hT k hk; omega) (by omega), ?_⟩
      exact ⟨ho20.cell (by omega) (fun hk => by have := hT _ hk; omega) HS15d.out.hx.2.2.1, ho20.cell (by omega) (fun hk => by have := hT _ hk; omega) HS15d.out.hx.2.2.2.1, ho20.cell (by omega) (fun hk => by have := hT _ hk; omega) HS15d.out.hx.2.2.2.2⟩
    clear ho20 hm20 HS15d q0
    have hul : us.length = es.length := len_ctE HS20.out.hx.1.cop.ct
    have HEU : Hid (elets us = elets es ∧ True) := ⟨elets_ct _ _ HS20.out.hx.1.cop.ct, trivial⟩
    have HMK := markPack_only E O (some ⟨g10, 0, none⟩) es.length (X1 + 1) us (1 + (ps.length * 2 : Nat)) w20 (by rw [hul]; exact HS20.out.hx.1.cop.row) HS20.out.hx.1.cop.deep (by rw [hul, HEU.out.1]; have := HF.out.2; omega) (by omega) (by rw [hul, HEU.out.1]; have := HF.out.2; omega)
    rw [hul, HEU.out.1] at HMK
    clear hul
    obtain ⟨s0, s1, s2⟩ := HS20.out.hx.2
    go_wp2_with fail
    refine HMK.mono ?_
    clear HMK
    rintro e w21 ⟨rfl, ho21⟩
    have HS21 : Hid (Snp w w21 (w.heap.size + 1 + 1) U V (X3 + 1)
        (fun W => W.cell? ⟨w.heap.size, 0, none⟩ = some (.slice a ps.length cap) ∧ Ce3 W (w.heap.size + 1) (.int .i64 E) (.int .i64 O) (.slice sa es.length sc))
        (fun W => MinP W (w.heap.size + 1 + 1) U va0 vc0 qs ∧ W.cell? ⟨Y8, 0, none⟩ = some (.slice va0 qs.length vc0))
        (fun _ => True)
        (fun W => MinP W V X3 va2 vc2 qs ∧ W.cell? ⟨X3, 0, none⟩ = some (.slice va2 qs.length vc2))) := by
      have hod := HOD.out
      have hT : ∀ k, ((Value.slice (some ⟨g10, 0, none⟩) es.length es.length).ownBlock = some k ∨ ∃ s ∈ us, rowOf s.a k) → X1 + 1 ≤ k ∧ k < X2 := fun k hk => by
        rcases hk with hk | ⟨s, hs, hk⟩
        · exact ⟨(HS20.out.hx.1.cop.row.blk hk).1, HS20.out.hx.1.r k hk⟩
        · exact ⟨((HS20.out.hx.1.cop.deep.mine s hs).rowE hk).1, HS20.out.hx.1.d s hs k hk⟩
      exact HS20.out.markX ho21 (fun k hk => by have := hT k hk; omega) (Stab.true _ _) trivial
    have hk2 : ¬ ((1 : Int) + (ps.length * 2 : Nat) + (elets es : Nat) + (es.length : Nat) < 0) := by omega
    clear ho21 HS20 s0 s1 s2
    have l0 := HS21.out.hw.2
    have n0 := HS21.out.hg.2
    have HEQ := eqMap_yes va2 va0 vc2 vc0 qs _ HS21.out.hg.1.pls HS21.out.hw.1.pls HQL.out
    go_wp2_with fail
    refine HEQ.mono ?_
    clear HEQ
    rintro e w22 ⟨rfl, hb22⟩
    have HS22 : Hid _ := HS21.out.step hb22
    clear hb22 HS21 l0 n0 hk2
    have n0 := HS22.out.hg.2
    have HMK := markMap_any va2 V X3 vc2 qs 1 w22 HS22.out.hg.1 (by have := HS22.out.ord; omega) HQL.out (by omega) (by omega)
    go_wp2_with fail
    refine HMK.mono ?_
    clear HMK
    rintro e w23 ⟨rfl, hm23, ho23⟩
    have HS16 : Hid (Snp w w23 (w.heap.size + 1 + 1) U V (X3 + 1)
        (fun W => W.cell? ⟨w.heap.size, 0, none⟩ = some (.slice a ps.length cap) ∧ Ce3 W (w.heap.size + 1) (.int .i64 E) (.int .i64 O) (.slice sa es.length sc))
        (fun W => MinP W (w.heap.size + 1 + 1) U va0 vc0 qs ∧ W.cell? ⟨Y8, 0, none⟩ = some (.slice va0 qs.length vc0))
        (fun _ => True)
        (fun W => MinP W V X3 va2 vc2 (mkP 1 qs.length) ∧ W.cell? ⟨X3, 0, none⟩ = some (.slice va2 qs.length vc2))) :=
      HS22.out.markG ho23 (fun k hk => by have := hm23.row hk; omega) ((Stab.minP (Nat.le_refl _) (by omega)).and (Stab.cell HOD.out.2.2.2 (by omega))) ⟨hm23, ho23.cell (by have := HS22.out.ord; omega) (fun hk => by have := hm23.row hk; omega) n0⟩
    clear hm23 ho23 HS22 n0
    have n0 := HS16.out.hg.2
    have HHL := heldMap_any va2 vc2 qs.length 1 w23 HS16.out.hg.1.pls HQL.out (by omega) (by omega)
    go_wp2_with fail
    refine HHL.mono ?_
    clear HHL
    rintro e w24 ⟨rfl, hb24⟩
    have HS24 : Hid _ := HS16.out.step hb24
    clear hb24 HS16 n0
    have hk3 : ¬ ((1 : Int) + (qs.length * 2 : Nat) < 0) := by omega
    have HC3b : Hid (w24.cell? ⟨w.heap.size, 0, none⟩ = some (.slice a ps.length cap) ∧ Ce3 w24 (w.heap.size + 1) (.int .i64 E) (.int .i64 O) (.slice sa es.length sc) ∧ w.heap.size + 1 + 1 ≤ w24.heap.size) := ⟨HS24.out.hb.1, HS24.out.hb.2, by have := HS24.out.ord; omega⟩
    have HCLb : Hid (∀ W, Below w24.heap.size w24 W → W.cell? ⟨w.heap.size, 0, none⟩ = some (.slice a ps.length cap) ∧ W.cell? ⟨w.heap.size + 1, 0, none⟩ = some (.int .i64 E) ∧ W.cell? ⟨w.heap.size + 1, 1, none⟩ = some (.int .i64 O) ∧ W.cell? ⟨w.heap.size + 1, 2, none⟩ = some (.slice sa es.length sc)) := fun W h => by
      obtain ⟨h1, h3, hs⟩ := HC3b.out
      exact ⟨keep h (by omega) h1, keep h (by omega) h3.1, keep h (by omega) h3.2.1, keep h (by omega) h3.2.2⟩
    have hsbb := (HC3b.out).2.2
    go_wp2_with fail
    refine wp_region_cut (S := fun W => W.cell? ⟨w.heap.size, 0, none⟩ = some (.slice a ps.length cap) ∧ W.cell? ⟨w.heap.size + 1, 0, none⟩ = some (.int .i64 E) ∧ W.cell? ⟨w.heap.size + 1, 1, none⟩ = some (.int .i64 O) ∧ W.cell? ⟨w.heap.size + 1, 2, none⟩ = some (.slice sa es.length sc)) 12 (by kernel_rfl) (by kernel_rfl) (HCLb.out _ ((Below.refl _ _).drew)) (fun hHeld => ?_)
    refine wpAnyH_take (i := 0) (v := ?_) rfl (by kernel_rfl) (by kernel_rfl) (by kernel_rfl) (fun _ _ _ h => h) (Or.inl ⟨by rfl, ?_⟩) (by assumption) ?_
    rotate_left 1
    · (intro w hSw; (try dsimp only at hSw); go_simp; try (with_reducible rfl))
    try simp only [List.getElem_toArray, List.getElem_cons_zero, List.getElem_cons_succ, Act.put, List.setIfInBounds_toArray, List.set_cons_zero, List.set_cons_succ]
    refine wpAnyH_take (i := 2) (v := ?_) rfl (by kernel_rfl) (by kernel_rfl) (by kernel_rfl) (fun _ _ _ h => h) (Or.inl ⟨by rfl, ?_⟩) (by assumption) ?_
    rotate_left 1
    · (intro w hSw; (try dsimp only at hSw); go_simp; try (with_reducible rfl))
    try simp only [List.getElem_toArray, List.getElem_cons_zero, List.getElem_cons_succ, Act.put, List.setIfInBounds_toArray, List.set_cons_zero, List.set_cons_succ]
    refine wpAnyH_take (i := 3) (v := ?_) rfl (by kernel_rfl) (by kernel_rfl) (by kernel_rfl) (fun _ _ _ h => h) (Or.inl ⟨by rfl, ?_⟩) (by assumption) ?_
    rotate_left 1
    · (intro w hSw; (try dsimp only at hSw); go_simp; try (with_reducible rfl))
    try simp only [List.getElem_toArray, List.getElem_cons_zero, List.getElem_cons_succ, Act.put, List.setIfInBounds_toArray, List.set_cons_zero, List.set_cons_succ]
    refine wpAnyH_ready (rs := [1, 9]) (by kernel_rfl) (by simp) ?_
    refine AllReadyH.cons rfl (fun K hK => ?_) (AllReadyH.cons rfl (fun K hK => ?_) AllReadyH.nil)
    focus
      go_simp
      refine (HTM.out _ (HS24.out.bel.trans ((((Below.refl w24.heap.size w24).drew)).mono (by have := HS24.out.bel.size; omega)))).mono ?_
      rintro e w3 ⟨g3, rfl, hown3, hb3'⟩
      have hb3 : Below w24.heap.size w24 w3 := (((Below.refl w24.heap.size w24).drew)).trans (hb3'.mono (((Below.refl w24.heap.size w24).drew)).size)
      have HC3c : Hid (Pls w3 (some ⟨g3, 0, none⟩) ps) := hown3.pls
      skip
      dsimp only
      refine hK.out _ _ (HCLb.out _ hb3) (fun hHeld => ?_)
      clear hK K
      try simp only [List.getElem_toArray, List.getElem_cons_zero, List.getElem_cons_succ, Act.put, List.setIfInBounds_toArray, List.set_cons_zero, List.set_cons_succ]
      refine wpAnyH_ready (rs := [4, 9]) (by kernel_rfl) (by simp) ?_
      refine AllReadyH.cons rfl (fun K hK => ?_) (AllReadyH.cons rfl (fun K hK => ?_) AllReadyH.nil)
      focus
        have HC3d := HC3c
        go_simp
        refine (HTP.out _ (HS24.out.bel.trans ((hb3).mono (by have := HS24.out.bel.size; omega)))).mono ?_
        rintro e w4 ⟨⟨g4, ts4, rfl, hcop4⟩, hb4'⟩
        have hb4 : Below w24.heap.size w24 w4 := (hb3).trans (hb4'.mono (hb3).size)
        have HC4c : Hid (Pls w4 (some ⟨g3, 0, none⟩) ps ∧ CopT w4 w24.heap.size (.slice (some ⟨g4, 0, none⟩) es.length es.length) ts4 es) := ⟨HC3d.out.below hb4' (Nat.le_refl _), hcop4.weak (hb3).size⟩
        skip
        dsimp only
        refine hK.out _ _ (HCLb.out _ hb4) (fun hHeld => ?_)
        clear hK K
        try simp only [List.getElem_toArray, List.getElem_cons_zero, List.getElem_cons_succ, Act.put, List.setIfInBounds_toArray, List.set_cons_zero, List.set_cons_succ]
        refine wpAnyH_ready (rs := [5, 9]) (by kernel_rfl) (by simp) ?_
        refine AllReadyH.cons rfl (fun K hK => ?_) (AllReadyH.cons rfl (fun K hK => ?_) AllReadyH.nil)
        focus
          have HC4d := HC4c
          go_simp
          refine (HIMPL.out g3 g4 ts4 _ _ HC4d.out.1 HC4d.out.2 (HS24.out.bel.trans ((hb4).mono (by have := HS24.out.bel.size; omega)))).mono ?_
          rintro e w5 ⟨⟨va, vc, rfl, hmin5⟩, hb5'⟩
          have hb5 : Below w24.heap.size w24 w5 := (hb4).trans (hb5'.mono (hb4).size)
          skip
          dsimp only
          refine hK.out _ _ (HCLb.out _ hb5) (fun hHeld => ?_)
          clear hK K
          try simp only [List.getElem_toArray, List.getElem_cons_zero, List.getElem_cons_succ, Act.put, List.setIfInBounds_toArray, List.set_cons_zero, List.set_cons_succ]
          refine wpAnyH_take (i := 6) (v := ?_) rfl (by kernel_rfl) (by kernel_rfl) (by kernel_rfl) (fun _ _ _ h => h) (Or.inl ⟨by rfl, ?_⟩) (by assumption) ?_
          rotate_left 1
          · (intro w hSw; (try dsimp only at hSw); go_simp; try (with_reducible rfl))
          try simp only [List.getElem_toArray, List.getElem_cons_zero, List.getElem_cons_succ, Act.put, List.setIfInBounds_toArray, List.set_cons_zero, List.set_cons_succ]
          refine wpAnyH_take (i := 7) (v := ?_) rfl (by kernel_rfl) (by kernel_rfl) (by kernel_rfl) (fun _ _ _ h => h) (Or.inl ⟨by rfl, ?_⟩) (by assumption) ?_
          rotate_left 1
          · (intro w hSw; (try dsimp only at hSw); go_simp; try (with_reducible rfl))
          try simp only [List.getElem_toArray, List.getElem_cons_zero, List.getElem_cons_succ, Act.put, List.setIfInBounds_toArray, List.set_cons_zero, List.set_cons_succ]
          refine wpAnyH_take (i := 8) (v := ?_) rfl (by kernel_rfl) (by kernel_rfl) (by kernel_rfl) (fun _ _ _ h => h) (Or.inl ⟨by rfl, ?_⟩) (by assumption) ?_
          rotate_left 1
          · (intro w hSw; (try dsimp only at hSw); go_simp; try (with_reducible rfl))
          try simp only [List.getElem_toArray, List.getElem_cons_zero, List.getElem_cons_succ, Act.put, List.setIfInBounds_toArray, List.set_cons_zero, List.set_cons_succ]
          refine wpAnyH_ready (rs := [9]) (by kernel_rfl) (by simp) ?_
          refine AllReadyH.cons rfl (fun K hK => ?_) AllReadyH.nil
          go_simp
          refine hK.out _ _ (HCLb.out _ (hb5.trans (((Below.refl _ _).alloc (Nat.le_refl _) _).mono hb5.size))) (fun hHeld => ?_)
          clear hK K
          try simp only [List.getElem_toArray, List.getElem_cons_zero, List.getElem_cons_succ, Act.put, List.setIfInBounds_toArray, List.set_cons_zero, List.set_cons_succ]
          refine wpAnyH_ready (rs := [10]) (by kernel_rfl) (by simp) ?_
          refine AllReadyH.cons rfl (fun K hK => ?_) AllReadyH.nil
          go_simp
          refine hK.out _ _ (HCLb.out _ (hb5.trans (((Below.refl _ _).alloc (Nat.le_refl _) _).mono hb5.size))) (fun hHeld => ?_)
          clear hK K
          try simp only [List.getElem_toArray, List.getElem_cons_zero, List.getElem_cons_succ, Act.put, List.setIfInBounds_toArray, List.set_cons_zero, List.set_cons_succ]
          refine wpAnyH_ready (rs := [11]) (by kernel_rfl) (by simp) ?_
          refine AllReadyH.cons rfl (fun K hK => ?_) AllReadyH.nil
          go_simp
          refine hK.out _ _ (hHeld) (fun hHeld => ?_)
          clear hK K
          try simp only [List.getElem_toArray, List.getElem_cons_zero, List.getElem_cons_succ, Act.put, List.setIfInBounds_toArray, List.set_cons_zero, List.set_cons_succ]
          refine wpAnyH_done (by kernel_rfl) ?_ _
          simp only [cutQ, List.drop_succ_cons, List.drop_zero]
          have HLP := maN (T := 32) HS24.out.bel (HC3b.out).1 (HC3b.out).2.1 (HC3b.out).2.2 hb5 hmin5 (by first | omega | (have := hb3.size; have := hb4.size; have := hb5.size; omega))
          have HLQ : Hid (Below w24.heap.size w24 (w5.alloc (Obj.cells #[.slice va qs.length vc] 32)) ∧ (w5.alloc (Obj.cells #[.slice va qs.length vc] 32)).cell? ⟨w5.heap.size, 0, none⟩ = some (.slice va qs.length vc) ∧ Pls (w5.alloc (Obj.cells #[.slice va qs.length vc] 32)) va qs) := ⟨HLP.2, HLP.1.cy, HLP.1.min.pls⟩
          clear HLP
          clear hHeld
          try clear zz0 zf0 zzl
          try clear bz bz3 bz4
          try clear hY
          clear hmin5 hb5' hb5 hb4' hb4 hb3' hb3 HC3c HC4c HC3d HC4d hown3 hcop4 HCLb hsbb HC3b HIMPL HTP HTM
          generalize w5.alloc (Obj.cells #[.slice va qs.length vc] 32) = W31 at *
          have HS17 : Hid _ := HS24.out.step HLQ.out.1
          clear HS24
          generalize w5.heap.size = Y31 at *
        rotate_left 1
        go_simp
        refine hK.out _ _ (HCLb.out _ (hb4.trans (((Below.refl w4.heap.size w4).alloc (Nat.le_refl _) (Obj.cells #[Value.slice none 0 0] 32)).mono hb4.size))) (fun hHeld => ?_)
        clear hK K
        try simp only [List.getElem_toArray, List.getElem_cons_zero, List.getElem_cons_succ, Act.put, List.setIfInBounds_toArray, List.set_cons_zero, List.set_cons_succ]
        have bz4 := Bx1.new w4 (.slice none 0 0) 32
        have HC4d : Hid (Pls (w4.alloc (Obj.cells #[Value.slice none 0 0] 32)) (some ⟨g3, 0, none⟩) ps ∧ CopT (w4.alloc (Obj.cells #[Value.slice none 0 0] 32)) w24.heap.size (.slice (some ⟨g4, 0, none⟩) es.length es.length) ts4 es) := And.intro (HC4c.out.1.below ((Below.refl w4.heap.size w4).alloc (Nat.le_refl _) (Obj.cells #[Value.slice none 0 0] 32)) (Nat.le_refl _)) (HC4c.out.2.below ((Below.refl w4.heap.size w4).alloc (Nat.le_refl _) (Obj.cells #[Value.slice none 0 0] 32)))
        have hY : w24.heap.size ≤ w4.heap.size := hb4.size
        refine wpAnyH_ready (rs := [5]) (by kernel_rfl) (by simp) ?_
        refine AllReadyH.cons rfl (fun K hK => ?_) AllReadyH.nil
        go_simp
        refine (HIMPL.out g3 g4 ts4 _ _ HC4d.out.1 HC4d.out.2 (HS24.out.bel.trans (((hb4.trans (((Below.refl w4.heap.size w4).alloc (Nat.le_refl _) (Obj.cells #[Value.slice none 0 0] 32)).mono hb4.size))).mono (by have := HS24.out.bel.size; omega)))).mono ?_
        rintro e w5 ⟨⟨va, vc, rfl, hmin5⟩, hb5'⟩
        have hb5 : Below w24.heap.size w24 w5 := ((hb4.trans (((Below.refl w4.heap.size w4).alloc (Nat.le_refl _) (Obj.cells #[Value.slice none 0 0] 32)).mono hb4.size))).trans (hb5'.mono ((hb4.trans (((Below.refl w4.heap.size w4).alloc (Nat.le_refl _) (Obj.cells #[Value.slice none 0 0] 32)).mono hb4.size))).size)
        have bz5 := bz4.step hb5'
        dsimp only
        refine hK.out _ _ (HCLb.out _ hb5) (fun hHeld => ?_)
        clear hK K
        try simp only [List.getElem_toArray, List.getElem_cons_zero, List.getElem_cons_succ, Act.put, List.setIfInBounds_toArray, List.set_cons_zero, List.set_cons_succ]
        refine wpAnyH_take (i := 6) (v := ?_) rfl (by kernel_rfl) (by kernel_rfl) (by kernel_rfl) (fun _ _ _ h => h) (Or.inl ⟨by rfl, ?_⟩) (by assumption) ?_
        rotate_left 1
        · (intro w hSw; (try dsimp only at hSw); go_simp; try (with_reducible rfl))
        try simp only [List.getElem_toArray, List.getElem_cons_zero, List.getElem_cons_succ, Act.put, List.setIfInBounds_toArray, List.set_cons_zero, List.set_cons_succ]
        refine wpAnyH_take (i := 7) (v := ?_) rfl (by kernel_rfl) (by kernel_rfl) (by kernel_rfl) (fun _ _ _ h => h) (Or.inl ⟨by rfl, ?_⟩) (by assumption) ?_
        rotate_left 1
        · (intro w hSw; (try dsimp only at hSw); go_simp; try (with_reducible rfl))
        try simp only [List.getElem_toArray, List.getElem_cons_zero, List.getElem_cons_succ, Act.put, List.setIfInBounds_toArray, List.set_cons_zero, List.set_cons_succ]
        refine wpAnyH_take (i := 8) (v := ?_) rfl (by kernel_rfl) (by kernel_rfl) (by kernel_rfl) (fun _ _ _ h => h) (Or.inl ⟨by rfl, ?_⟩) (by assumption) ?_
        rotate_left 1
        · (intro w hSw; (try dsimp only at hSw); go_simp; try (with_reducible rfl))
        try simp only [List.getElem_toArray, List.getElem_cons_zero, List.getElem_cons_succ, Act.put, List.setIfInBounds_toArray, List.set_cons_zero, List.set_cons_succ]
        have HLP := maS HS24.out.bel (HC3b.out).1 (HC3b.out).2.1 (HC3b.out).2.2 hb5 bz5 (hY) hmin5 (by first | (have h1 := hb3'.size; have h2 := hb4'.size; simp at h1; omega) | (have h1 := hb4'.size; simp at h1; omega) | (simp; done) | (simp; omega))
        obtain ⟨zz0, zf0, zzl⟩ := bz5
        refine wpAnyH_ready (rs := [10]) (by kernel_rfl) (by simp) ?_
        refine AllReadyH.cons rfl (fun K hK => ?_) AllReadyH.nil
        go_simp
        refine hK.out _ _ (HCLb.out _ HLP.2) (fun hHeld => ?_)
        clear hK K
        try simp only [List.getElem_toArray, List.getElem_cons_zero, List.getElem_cons_succ, Act.put, List.setIfInBounds_toArray, List.set_cons_zero, List.set_cons_succ]
        refine wpAnyH_ready (rs := [11]) (by kernel_rfl) (by simp) ?_
        refine AllReadyH.cons rfl (fun K hK => ?_) AllReadyH.nil
        go_simp
        refine hK.out _ _ (hHeld) (fun hHeld => ?_)
        clear hK K
        try simp only [List.getElem_toArray, List.getElem_cons_zero, List.getElem_cons_succ, Act.put, List.setIfInBounds_toArray, List.set_cons_zero, List.set_cons_succ]
        refine wpAnyH_done (by kernel_rfl) ?_ _
        simp only [cutQ, List.drop_succ_cons, List.drop_zero]
        have HLQ : Hid (Below w24.heap.size w24 (w5.setCell ⟨w4.heap.size, 0, none⟩ (.slice va qs.length vc)) ∧ (w5.setCell ⟨w4.heap.size, 0, none⟩ (.slice va qs.length vc)).cell? ⟨w4.heap.size, 0, none⟩ = some (.slice va qs.length vc) ∧ Pls (w5.setCell ⟨w4.heap.size, 0, none⟩ (.slice va qs.length vc)) va qs) := ⟨HLP.2, HLP.1.cy, HLP.1.min.pls⟩
        clear HLP
        clear hHeld
        try clear zz0 zf0 zzl
        try clear bz bz3 bz4
        try clear hY
        clear hmin5 hb5' hb5 hb4' hb4 hb3' hb3 HC3c HC4c HC3d HC4d hown3 hcop4 HCLb hsbb HC3b HIMPL HTP HTM
        generalize w5.setCell ⟨w4.heap.size, 0, none⟩ (.slice va qs.length vc) = W31 at *
        have HS17 : Hid _ := HS24.out.step HLQ.out.1
        clear HS24
        generalize w4.heap.size = Y31 at *
      rotate_left 2
      go_simp
      refine hK.out _ _ (HCLb.out _ (hb3.trans (((Below.refl w3.heap.size w3).alloc (Nat.le_refl _) (Obj.cells #[Value.slice none 0 0] 32)).mono hb3.size))) (fun hHeld => ?_)
      clear hK K
      try simp only [List.getElem_toArray, List.getElem_cons_zero, List.getElem_cons_succ, Act.put, List.setIfInBounds_toArray, List.set_cons_zero, List.set_cons_succ]
      have bz3 := Bx1.new w3 (.slice none 0 0) 32
      have HC3d : Hid (Pls (w3.alloc (Obj.cells #[Value.slice none 0 0] 32)) (some ⟨g3, 0, none⟩) ps) := HC3c.out.below ((Below.refl w3.heap.size w3).alloc (Nat.le_refl _) (Obj.cells #[Value.slice none 0 0] 32)) (Nat.le_refl _)
      have hY : w24.heap.size ≤ w3.heap.size := hb3.size
      refine wpAnyH_ready (rs := [4]) (by kernel_rfl) (by simp) ?_
      refine AllReadyH.cons rfl (fun K hK => ?_) AllReadyH.nil
      go_simp
      refine (HTP.out _ (HS24.out.bel.trans (((hb3.trans (((Below.refl w3.heap.size w3).alloc (Nat.le_refl _) (Obj.cells #[Value.slice none 0 0] 32)).mono hb3.size))).mono (by have := HS24.out.bel.size; omega)))).mono ?_
      rintro e w4 ⟨⟨g4, ts4, rfl, hcop4⟩, hb4'⟩
      have hb4 : Below w24.heap.size w24 w4 := ((hb3.trans (((Below.refl w3.heap.size w3).alloc (Nat.le_refl _) (Obj.cells #[Value.slice none 0 0] 32)).mono hb3.size))).trans (hb4'.mono ((hb3.trans (((Below.refl w3.heap.size w3).alloc (Nat.le_refl _) (Obj.cells #[Value.slice none 0 0] 32)).mono hb3.size))).size)
      have HC4c : Hid (Pls w4 (some ⟨g3, 0, none⟩) ps ∧ CopT w4 w24.heap.size (.slice (some ⟨g4, 0, none⟩) es.length es.length) ts4 es) := ⟨HC3d.out.below hb4' (Nat.le_refl _), hcop4.weak ((hb3.trans (((Below.refl w3.heap.size w3).alloc (Nat.le_refl _) (Obj.cells #[Value.slice none 0 0] 32)).mono hb3.size))).size⟩
      have bz4 := bz3.step hb4'
      dsimp only
      have HC4d := HC4c
      refine hK.out _ _ (HCLb.out _ hb4) (fun hHeld => ?_)
      clear hK K
      try simp only [List.getElem_toArray, List.getElem_cons_zero, List.getElem_cons_succ, Act.put, List.setIfInBounds_toArray, List.set_cons_zero, List.set_cons_succ]
      refine wpAnyH_ready (rs := [5]) (by kernel_rfl) (by simp) ?_
      refine AllReadyH.cons rfl (fun K hK => ?_) AllReadyH.nil
      go_simp
      refine (HIMPL.out g3 g4 ts4 _ _ HC4d.out.1 HC4d.out.2 (HS24.out.bel.trans ((hb4).mono (by have := HS24.out.bel.size; omega)))).mono ?_
      rintro e w5 ⟨⟨va, vc, rfl, hmin5⟩, hb5'⟩
      have hb5 : Below w24.heap.size w24 w5 := (hb4).trans (hb5'.mono (hb4).size)
      have bz5 := bz4.step hb5'
      dsimp only
      refine hK.out _ _ (HCLb.out _ hb5) (fun hHeld => ?_)
      clear hK K
      try simp only [List.getElem_toArray, List.getElem_cons_zero, List.getElem_cons_succ, Act.put, List.setIfInBounds_toArray, List.set_cons_zero, List.set_cons_succ]
      refine wpAnyH_take (i := 6) (v := ?_) rfl (by kernel_rfl) (by kernel_rfl) (by kernel_rfl) (fun _ _ _ h => h) (Or.inl ⟨by rfl, ?_⟩) (by assumption) ?_
      rotate_left 1
      · (intro w hSw; (try dsimp only at hSw); go_simp; try (with_reducible rfl))
      try simp only [List.getElem_toArray, List.getElem_cons_zero, List.getElem_cons_succ, Act.put, List.setIfInBounds_toArray, List.set_cons_zero, List.set_cons_succ]
      refine wpAnyH_take (i := 7) (v := ?_) rfl (by kernel_rfl) (by kernel_rfl) (by kernel_rfl) (fun _ _ _ h => h) (Or.inl ⟨by rfl, ?_⟩) (by assumption) ?_
      rotate_left 1
      · (intro w hSw; (try dsimp only at hSw); go_simp; try (with_reducible rfl))
      try simp only [List.getElem_toArray, List.getElem_cons_zero, List.getElem_cons_succ, Act.put, List.setIfInBounds_toArray, List.set_cons_zero, List.set_cons_succ]
      refine wpAnyH_take (i := 8) (v := ?_) rfl (by kernel_rfl) (by kernel_rfl) (by kernel_rfl) (fun _ _ _ h => h) (Or.inl ⟨by rfl, ?_⟩) (by assumption) ?_
      rotate_left 1
      · (intro w hSw; (try dsimp only at hSw); go_simp; try (with_reducible rfl))
      try simp only [List.getElem_toArray, List.getElem_cons_zero, List.getElem_cons_succ, Act.put, List.setIfInBounds_toArray, List.set_cons_zero, List.set_cons_succ]
      have HLP := maS HS24.out.bel (HC3b.out).1 (HC3b.out).2.1 (HC3b.out).2.2 hb5 bz5 (hY) hmin5 (by first | (have h1 := hb3'.size; have h2 := hb4'.size; simp at h1; omega) | (have h1 := hb4'.size; simp at h1; omega) | (simp; done) | (simp; omega))
      obtain ⟨zz0, zf0, zzl⟩ := bz5
      refine wpAnyH_ready (rs := [10]) (by kernel_rfl) (by simp) ?_
      refine AllReadyH.cons rfl (fun K hK => ?_) AllReadyH.nil
      go_simp
      refine hK.out _ _ (HCLb.out _ HLP.2) (fun hHeld => ?_)
      clear hK K
      try simp only [List.getElem_toArray, List.getElem_cons_zero, List.getElem_cons_succ, Act.put, List.setIfInBounds_toArray, List.set_cons_zero, List.set_cons_succ]
      refine wpAnyH_ready (rs := [11]) (by kernel_rfl) (by simp) ?_
      refine AllReadyH.cons rfl (fun K hK => ?_) AllReadyH.nil
      go_simp
      refine hK.out _ _ (hHeld) (fun hHeld => ?_)
      clear hK K
      try simp only [List.getElem_toArray, List.getElem_cons_zero, List.getElem_cons_succ, Act.put, List.setIfInBounds_toArray, List.set_cons_zero, List.set_cons_succ]
      refine wpAnyH_done (by kernel_rfl) ?_ _
      simp only [cutQ, List.drop_succ_cons, List.drop_zero]
      have HLQ : Hid (Below w24.heap.size w24 (w5.setCell ⟨w3.heap.size, 0, none⟩ (.slice va qs.length vc)) ∧ (w5.setCell ⟨w3.heap.size, 0, none⟩ (.slice va qs.length vc)).cell? ⟨w3.heap.size, 0, none⟩ = some (.slice va qs.length vc) ∧ Pls (w5.setCell ⟨w3.heap.size, 0, none⟩ (.slice va qs.length vc)) va qs) := ⟨HLP.2, HLP.1.cy, HLP.1.min.pls⟩
      clear HLP
      clear hHeld
      try clear zz0 zf0 zzl
      try clear bz bz3 bz4
      try clear hY
      clear hmin5 hb5' hb5 hb4' hb4 hb3' hb3 HC3c HC4c HC3d HC4d hown3 hcop4 HCLb hsbb HC3b HIMPL HTP HTM
      generalize w5.setCell ⟨w3.heap.size, 0, none⟩ (.slice va qs.length vc) = W31 at *
      have HS17 : Hid _ := HS24.out.step HLQ.out.1
      clear HS24
      generalize w3.heap.size = Y31 at *
    rotate_left 3
    go_simp
    refine hK.out _ _ (HCLb.out _ (((Below.refl w24.heap.size w24).alloc (Nat.le_refl _) (Obj.cells #[Value.slice none 0 0] 32)).drew)) (fun hHeld => ?_)
    clear hK K
    try simp only [List.getElem_toArray, List.getElem_cons_zero, List.getElem_cons_succ, Act.put, List.setIfInBounds_toArray, List.set_cons_zero, List.set_cons_succ]
    have bz := (Bx1.new w24 (.slice none 0 0) 32).step ((Below.refl _ _).drew)
    have hY : w24.heap.size ≤ w24.heap.size := Nat.le_refl _
    refine wpAnyH_ready (rs := [1]) (by kernel_rfl) (by simp) ?_
    refine AllReadyH.cons rfl (fun K hK => ?_) AllReadyH.nil
    go_simp
    refine (HTM.out _ (HS24.out.bel.trans (((((Below.refl w24.heap.size w24).alloc (Nat.le_refl _) (Obj.cells #[Value.slice none 0 0] 32)).drew)).mono (by have := HS24.out.bel.size; omega)))).mono ?_
    rintro e w3 ⟨g3, rfl, hown3, hb3'⟩
    have hb3 : Below w24.heap.size w24 w3 := ((((Below.refl w24.heap.size w24).alloc (Nat.le_refl _) (Obj.cells #[Value.slice none 0 0] 32)).drew)).trans (hb3'.mono ((((Below.refl w24.heap.size w24).alloc (Nat.le_refl _) (Obj.cells #[Value.slice none 0 0] 32)).drew)).size)
    have HC3c : Hid (Pls w3 (some ⟨g3, 0, none⟩) ps) := hown3.pls
    have bz3 := bz.step hb3'
    dsimp only
    have HC3d := HC3c
    refine hK.out _ _ (HCLb.out _ hb3) (fun hHeld => ?_)
    clear hK K
    try simp only [List.getElem_toArray, List.getElem_cons_zero, List.getElem_cons_succ, Act.put, List.setIfInBounds_toArray, List.set_cons_zero, List.set_cons_succ]
    refine wpAnyH_ready (rs := [4]) (by kernel_rfl) (by simp) ?_
    refine AllReadyH.cons rfl (fun K hK => ?_) AllReadyH.nil
    go_simp
    refine (HTP.out _ (HS24.out.bel.trans ((hb3).mono (by have := HS24.out.bel.size; omega)))).mono ?_
    rintro e w4 ⟨⟨g4, ts4, rfl, hcop4⟩, hb4'⟩
    have hb4 : Below w24.heap.size w24 w4 := (hb3).trans (hb4'.mono (hb3).size)
    have HC4c : Hid (Pls w4 (some ⟨g3, 0, none⟩) ps ∧ CopT w4 w24.heap.size (.slice (some ⟨g4, 0, none⟩) es.length es.length) ts4 es) := ⟨HC3d.out.below hb4' (Nat.le_refl _), hcop4.weak (hb3).size⟩
    have bz4 := bz3.step hb4'
    dsimp only
    have HC4d := HC4c
    refine hK.out _ _ (HCLb.out _ hb4) (fun hHeld => ?_)
    clear hK K
    try simp only [List.getElem_toArray, List.getElem_cons_zero, List.getElem_cons_succ, Act.put, List.setIfInBounds_toArray, List.set_cons_zero, List.set_cons_succ]
    refine wpAnyH_ready (rs := [5]) (by kernel_rfl) (by simp) ?_
    refine AllReadyH.cons rfl (fun K hK => ?_) AllReadyH.nil
    go_simp
    refine (HIMPL.out g3 g4 ts4 _ _ HC4d.out.1 HC4d.out.2 (HS24.out.bel.trans ((hb4).mono (by have := HS24.out.bel.size; omega)))).mono ?_
    rintro e w5 ⟨⟨va, vc, rfl, hmin5⟩, hb5'⟩
    have hb5 : Below w24.heap.size w24 w5 := (hb4).trans (hb5'.mono (hb4).size)
    have bz5 := bz4.step hb5'
    dsimp only
    refine hK.out _ _ (HCLb.out _ hb5) (fun hHeld => ?_)
    clear hK K
    try simp only [List.getElem_toArray, List.getElem_cons_zero, List.getElem_cons_succ, Act.put, List.setIfInBounds_toArray, List.set_cons_zero, List.set_cons_succ]
    refine wpAnyH_take (i := 6) (v := ?_) rfl (by kernel_rfl) (by kernel_rfl) (by kernel_rfl) (fun _ _ _ h => h) (Or.inl ⟨by rfl, ?_⟩) (by assumption) ?_
    rotate_left 1
    · (intro w hSw; (try dsimp only at hSw); go_simp; try (with_reducible rfl))
    try simp only [List.getElem_toArray, List.getElem_cons_zero, List.getElem_cons_succ, Act.put, List.setIfInBounds_toArray, List.set_cons_zero, List.set_cons_succ]
    refine wpAnyH_take (i := 7) (v := ?_) rfl (by kernel_rfl) (by kernel_rfl) (by kernel_rfl) (fun _ _ _ h => h) (Or.inl ⟨by rfl, ?_⟩) (by assumption) ?_
    rotate_left 1
    · (intro w hSw; (try dsimp only at hSw); go_simp; try (with_reducible rfl))
    try simp only [List.getElem_toArray, List.getElem_cons_zero, List.getElem_cons_succ, Act.put, List.setIfInBounds_toArray, List.set_cons_zero, List.set_cons_succ]
    refine wpAnyH_take (i := 8) (v := ?_) rfl (by kernel_rfl) (by kernel_rfl) (by kernel_rfl) (fun _ _ _ h => h) (Or.inl ⟨by rfl, ?_⟩) (by assumption) ?_
    rotate_left 1
    · (intro w hSw; (try dsimp only at hSw); go_simp; try (with_reducible rfl))
    try simp only [List.getElem_toArray, List.getElem_cons_zero, List.getElem_cons_succ, Act.put, List.setIfInBounds_toArray, List.set_cons_zero, List.set_cons_succ]
    have HLP := maS HS24.out.bel (HC3b.out).1 (HC3b.out).2.1 (HC3b.out).2.2 hb5 bz5 (hY) hmin5 (by first | (have h1 := hb3'.size; have h2 := hb4'.size; simp at h1; omega) | (have h1 := hb4'.size; simp at h1; omega) | (simp; done) | (simp; omega))
    obtain ⟨zz0, zf0, zzl⟩ := bz5
    refine wpAnyH_ready (rs := [10]) (by kernel_rfl) (by simp) ?_
    refine AllReadyH.cons rfl (fun K hK => ?_) AllReadyH.nil
    go_simp
    refine hK.out _ _ (HCLb.out _ HLP.2) (fun hHeld => ?_)
    clear hK K
    try simp only [List.getElem_toArray, List.getElem_cons_zero, List.getElem_cons_succ, Act.put, List.setIfInBounds_toArray, List.set_cons_zero, List.set_cons_succ]
    refine wpAnyH_ready (rs := [11]) (by kernel_rfl) (by simp) ?_
    refine AllReadyH.cons rfl (fun K hK => ?_) AllReadyH.nil
    go_simp
    refine hK.out _ _ (hHeld) (fun hHeld => ?_)
    clear hK K
    try simp only [List.getElem_toArray, List.getElem_cons_zero, List.getElem_cons_succ, Act.put, List.setIfInBounds_toArray, List.set_cons_zero, List.set_cons_succ]
    refine wpAnyH_done (by kernel_rfl) ?_ _
    simp only [cutQ, List.drop_succ_cons, List.drop_zero]
    have HLQ : Hid (Below w24.heap.size w24 (w5.setCell ⟨w24.heap.size, 0, none⟩ (.slice va qs.length vc)) ∧ (w5.setCell ⟨w24.heap.size, 0, none⟩ (.slice va qs.length vc)).cell? ⟨w24.heap.size, 0, none⟩ = some (.slice va qs.length vc) ∧ Pls (w5.setCell ⟨w24.heap.size, 0, none⟩ (.slice va qs.length vc)) va qs) := ⟨HLP.2, HLP.1.cy, HLP.1.min.pls⟩
    clear HLP
    clear hHeld
    try clear zz0 zf0 zzl
    try clear bz bz3 bz4
    try clear hY
    clear hmin5 hb5' hb5 hb4' hb4 hb3' hb3 HC3c HC4c HC3d HC4d hown3 hcop4 HCLb hsbb HC3b HIMPL HTP HTM
    generalize w5.setCell ⟨w24.heap.size, 0, none⟩ (.slice va qs.length vc) = W31 at *
    have HS17 : Hid _ := HS24.out.step HLQ.out.1
    clear HS24
    generalize w24.heap.size = Y31 at *
    all_goals
      have k0 := HLQ.out.2.1
      have l0 := HS17.out.hw.2
      have HEQ := eqMap_yes va va0 vc vc0 qs W31 HLQ.out.2.2 HS17.out.hw.1.pls HQL.out
      go_wp2_with fail
      refine HEQ.mono ?_
      clear HEQ
      rintro e w18 ⟨rfl, hb18⟩
      have HS18 : Hid _ := HS17.out.step hb18
      clear hb18 HS17 k0 l0 HLQ
      have n0 := HS18.out.hg.2
      have HHL := heldMap_any va2 vc2 qs.length 1 w18 HS18.out.hg.1.pls HQL.out (by omega) (by omega)
      go_wp2_with fail
      refine HHL.mono ?_
      clear HHL
      rintro e w19 ⟨rfl, hb19⟩
      have HBF : Hid (Below w.heap.size w w19) := (HS18.out.step hb19).bel
      clear hb19 HS18 n0
      go_wp2
      go_ret
      exact ⟨rfl, HBF.out⟩
end Go.Proofs.YtennmikgehidiaaGreatDoor
