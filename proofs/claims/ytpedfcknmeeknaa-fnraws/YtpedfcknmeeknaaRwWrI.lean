/-
  RawWrite of the program.
-/
import Derived.Test.YtpedfcknmeeknaaWrW
import Derived.Test.YtpedfcknmeeknaaQPut
import Derived.Test.YtpedfcknmeeknaaCopI
import Derived.Test.YtpedfcknmeeknaaCopB
namespace Go.Proofs.Ytpedfcknmeeknaa
open Go.RowKit
set_option linter.unusedVariables false
set_option linter.unusedSimpArgs false

set_option maxRecDepth 20000 in
set_option maxHeartbeats 8000000 in
theorem implRawWrite_any (sa pa : Option Addr) (sc pc : Nat) (ss ps : List El) (x : Int) (da : Option Addr) (dc : Nat) (ds : List Int) (w : World) (hb : RawI w sa pa ss ps) (hd : Byt w da ds) (hxr : -9223372036854775808 ≤ x ∧ x ≤ 9223372036854775807) (hx : ss.length ≤ 281474976710656) (hy : ps.length ≤ 281474976710656) (hxl : ∀ s ∈ ss, s.ls.length ≤ 281474976710656) (hyl : ∀ s ∈ ps, s.ls.length ≤ 281474976710656) (hdl : ds.length ≤ 281474976710656) :
    Calls Try.prog 6 #[.agg #[.slice sa ss.length sc, .slice pa ps.length pc], .int .i64 x, .slice da ds.length dc] w fun e w' => (∃ v u ts qs, e = .returned (.tuple #[.agg #[v, u], .bool (wrB ss ps x ds)]) ∧ (ts.map El.ct = wrS ss ps x ds ∧ qs.map El.ct = wrP ss ps x ds) ∧ RawO w' w.heap.size v u ts qs) ∧ Below w.heap.size w w' := by
  have HB : Hid (RawI w sa pa ss ps ∧ Byt w da ds) := ⟨hb, hd⟩
  have HW : Hid (Below w.heap.size w ((w.alloc (Obj.cells #[Value.slice sa ss.length sc, Value.slice pa ps.length pc] 26)).alloc (Obj.cells #[Value.slice none 0 0, Value.slice none 0 0] 26))) := ((Below.refl _ _).alloc (Nat.le_refl _) _).alloc (by simp) _
  have HX : Hid (Box2 ((w.alloc (Obj.cells #[Value.slice sa ss.length sc, Value.slice pa ps.length pc] 26)).alloc (Obj.cells #[Value.slice none 0 0, Value.slice none 0 0] 26)) w.heap.size (.slice sa ss.length sc) (.slice pa ps.length pc) ∧ Box2 ((w.alloc (Obj.cells #[Value.slice sa ss.length sc, Value.slice pa ps.length pc] 26)).alloc (Obj.cells #[Value.slice none 0 0, Value.slice none 0 0] 26)) (w.heap.size + 1) (.slice none 0 0) (.slice none 0 0)) := by
    refine ⟨(Box2.new _ _ _ _).alloc _, ?_⟩
    have h9 := Box2.new (w.alloc (Obj.cells #[Value.slice sa ss.length sc, Value.slice pa ps.length pc] 26)) (.slice none 0 0) (.slice none 0 0) 26
    simpa using h9
  have HSP := implRawOk_any sa pa sc pc ss ps _ (HB.out.1.below HW.out (Nat.le_refl _)) hx hy hxl hyl
  clear hb hxl hyl hd
  by_cases h : rok ss ps = true ∧ 0 ≤ x ∧ x < (ss.length : Int) ∧ ds.length = 256 ∧ ps.length < 60
  · have h1 := wr_yes h.1 h.2
    rw [h1.1, h1.2.1, h1.2.2]
    rw [h.1] at HSP
    have hR := rok_ok h.1
    have HRL : Hid ((∀ s ∈ ss, s.ls.length ≤ 1000000) ∧ (∀ s ∈ ps, s.ls.length ≤ 1000000)) := ⟨fun s hs => by have := hR.lens.1 s hs; omega, fun s hs => by have := hR.lens.2 s hs; omega⟩
    have hR1 := hR.1
    have hR2 := hR.2.1
    obtain ⟨-, g1, g2, g3, g4⟩ := h
    have HDL : Hid (ds.length = 256 ∧ True) := ⟨g3, trivial⟩
    have hdlen : ((ds.length : Int) != 256) = false := by rw [bne_eq_false_iff_eq]; omega
    clear h1 hR g3
    go_enter Try.func6, Try.ntmps6
    go_wp2_with fail
    refine HSP.mono ?_
    clear HSP
    rintro e w1 ⟨rfl, hb1⟩
    have HX1 : Hid (Box2 w1 w.heap.size (.slice sa ss.length sc) (.slice pa ps.length pc) ∧ Box2 w1 (w.heap.size + 1) (.slice none 0 0) (.slice none 0 0) ∧ Below w.heap.size w w1) := ⟨HX.out.1.keep hb1 HX.out.1.lt, HX.out.2.keep hb1 HX.out.2.lt, HW.out.trans (hb1.mono HW.out.size)⟩
    clear hb1 HX HW
    obtain ⟨x0, x1, -, -, xl⟩ := HX1.out.1
    obtain ⟨r0, r1, r2, r3, rl⟩ := HX1.out.2.1
    have HHS := has_any sa pa sc pc ss.length ps.length x w1 (by omega)
    rw [decide_eq_true (show (0 : Int) ≤ x ∧ x < (ss.length : Int) from ⟨g1, g2⟩)] at HHS
    go_wp2_with fail
    refine HHS.mono ?_
    clear HHS
    rintro e w2 ⟨rfl, hb2⟩
    have HX2 : Hid (Box2 w2 w.heap.size (.slice sa ss.length sc) (.slice pa ps.length pc) ∧ Box2 w2 (w.heap.size + 1) (.slice none 0 0) (.slice none 0 0) ∧ Below w.heap.size w w2) := ⟨HX1.out.1.keep hb2 HX1.out.1.lt, HX1.out.2.1.keep hb2 HX1.out.2.1.lt, HX1.out.2.2.trans (hb2.mono HX1.out.2.2.size)⟩
    clear hb2 HX1 x0 x1 xl r0 r1 r2 r3 rl
    obtain ⟨x0, x1, -, -, xl⟩ := HX2.out.1
    obtain ⟨r0, r1, r2, r3, rl⟩ := HX2.out.2.1
    have HWT := waits_any sa pa sc pc ss.length ps w2 ((HB.out.1.below HX2.out.2.2 (Nat.le_refl _)).2) (by omega)
    go_wp2_with fail
    refine HWT.mono ?_
    clear HWT
    rintro e w3 ⟨⟨Q, v, rfl, hq⟩, hb3⟩
    obtain ⟨va, vc, rfl⟩ := hq.row.form
    have HX3 : Hid (Box2 w3 w.heap.size (.slice sa ss.length sc) (.slice pa ps.length pc) ∧ Box2 w3 (w.heap.size + 1) (.slice none 0 0) (.slice none 0 0) ∧ Below w.heap.size w w3) := ⟨HX2.out.1.keep hb3 HX2.out.1.lt, HX2.out.2.1.keep hb3 HX2.out.2.1.lt, HX2.out.2.2.trans (hb3.mono HX2.out.2.2.size)⟩
    have HQ3 : Hid (Que w3 w2.heap.size Q (.slice va ps.length vc) ps ∧ w2.heap.size ≤ w3.heap.size ∧ w.heap.size + 1 < w2.heap.size) := ⟨hq, hb3.size, HX2.out.2.1.lt⟩
    clear hb3 HX2 x0 x1 xl r0 r1 r2 r3 rl hq
    have HPT := put_yes w2.heap.size Q va vc ps x da dc ds w3 HQ3.out.1 HQ3.out.2.1 g4
    go_wp2_with fail
    refine HPT.mono ?_
    clear HPT
    rintro e w4 ⟨rfl, ⟨va4, vc4, hq4⟩, hb4⟩
    have hlt2 := HQ3.out.2.2
    have HX4 : Hid (Box2 w4 w.heap.size (.slice sa ss.length sc) (.slice pa ps.length pc) ∧ Box2 w4 (w.heap.size + 1) (.slice none 0 0) (.slice none 0 0) ∧ Below w.heap.size w w4) := ⟨HX3.out.1.keep hb4 (by omega), HX3.out.2.1.keep hb4 hlt2, HX3.out.2.2.trans (hb4.mono (by omega))⟩
    have HQ4 : Hid (Box2 w4 Q (.slice va4 (ps.length + 1) vc4) (.int .i64 60) ∧ w2.heap.size ≤ Q) := ⟨hq4.box, hq4.hQ⟩
    have HEL : Hid (RawI w4 sa va4 ss (ps ++ [⟨x, da, dc, ds⟩])) := by
      have h9 := HB.out.1.below HX4.out.2.2 (Nat.le_refl _)
      refine ⟨h9.1, hq4.row.els (fun e he => ?_)⟩
      rcases List.mem_append.1 he with he | he
      · exact h9.2.1 e he
      · simp at he
        subst he
        exact ⟨⟨hxr.1, hxr.2, by have := HDL.out.1; simp only; unfold maxLen; omega, by simp⟩, HB.out.2.below HX4.out.2.2 (Nat.le_refl _)⟩
    have HCP := copied_any sa va4 sc vc4 ss (ps ++ [⟨x, da, dc, ds⟩]) w4.drew (RawI.below (w := w4) (w' := w4.drew) (B := w4.heap.size) HEL.out ⟨rfl, rfl, rfl, Nat.le_refl _, fun _ _ => rfl⟩ (Nat.le_refl _)) (by omega) (by rw [List.length_append, List.length_singleton]; omega) HRL.out.1 (fun s hs => by
      rcases List.mem_append.1 hs with hs | hs
      · exact HRL.out.2 s hs
      · simp at hs
        subst hs
        have := HDL.out.1
        simp only
        omega)
    rw [List.length_append, List.length_singleton] at HCP
    obtain ⟨x0, x1, -, -, xl⟩ := HX4.out.1
    obtain ⟨r0, r1, r2, r3, rl⟩ := HX4.out.2.1
    obtain ⟨q0, q1, -, -, ql⟩ := HQ4.out.1
    clear hb4 hq4 HX3 HQ3 HEL
    go_wp2
    refine wp_region_cut (S := fun W => W.cell? ⟨w.heap.size, 0, none⟩ = some (.slice sa ss.length sc) ∧ W.cell? ⟨Q, 0, none⟩ = some (.slice va4 (ps.length + 1) vc4)) 8 (by kernel_rfl) (by kernel_rfl) (by exact ⟨x0, q0⟩) (fun hHeld => ?_)
    refine wpAnyH_take (i := 0) (v := ?_) rfl (by kernel_rfl) (by kernel_rfl) (by kernel_rfl) (fun _ _ _ h => h) (Or.inl ⟨by rfl, ?_⟩) (by assumption) ?_
    rotate_left 1
    · (intro w hSw; (try dsimp only at hSw); go_simp; try (with_reducible rfl))
    try simp only [List.getElem_toArray, List.getElem_cons_zero, List.getElem_cons_succ, Act.put, List.setIfInBounds_toArray, List.set_cons_zero, List.set_cons_succ]
    refine wpAnyH_take (i := 1) (v := ?_) rfl (by kernel_rfl) (by kernel_rfl) (by kernel_rfl) (fun _ _ _ h => h) (Or.inl ⟨by rfl, ?_⟩) (by assumption) ?_
    rotate_left 1
    · (intro w hSw; (try dsimp only at hSw); go_simp; try (with_reducible rfl))
    try simp only [List.getElem_toArray, List.getElem_cons_zero, List.getElem_cons_succ, Act.put, List.setIfInBounds_toArray, List.set_cons_zero, List.set_cons_succ]
    refine wpAnyH_take (i := 2) (v := ?_) rfl (by kernel_rfl) (by kernel_rfl) (by kernel_rfl) (fun _ _ _ h => h) (Or.inl ⟨by rfl, ?_⟩) (by assumption) ?_
    rotate_left 1
    · (intro w hSw; (try dsimp only at hSw); go_simp; try (with_reducible rfl))
    try simp only [List.getElem_toArray, List.getElem_cons_zero, List.getElem_cons_succ, Act.put, List.setIfInBounds_toArray, List.set_cons_zero, List.set_cons_succ]
    refine wpAnyH_take (i := 3) (v := ?_) rfl (by kernel_rfl) (by kernel_rfl) (by kernel_rfl) (fun _ _ _ h => h) (Or.inl ⟨by rfl, ?_⟩) (by assumption) ?_
    rotate_left 1
    · (intro w hSw; (try dsimp only at hSw); go_simp; try (with_reducible rfl))
    try simp only [List.getElem_toArray, List.getElem_cons_zero, List.getElem_cons_succ, Act.put, List.setIfInBounds_toArray, List.set_cons_zero, List.set_cons_succ]
    refine wpAnyH_take (i := 4) (v := ?_) rfl (by kernel_rfl) (by kernel_rfl) (by kernel_rfl) (fun _ _ _ h => h) (Or.inl ⟨by rfl, ?_⟩) (by assumption) ?_
    rotate_left 1
    · (intro w hSw; (try dsimp only at hSw); go_simp; try (with_reducible rfl))
    try simp only [List.getElem_toArray, List.getElem_cons_zero, List.getElem_cons_succ, Act.put, List.setIfInBounds_toArray, List.set_cons_zero, List.set_cons_succ]
    refine wpAnyH_take (i := 5) (v := ?_) rfl (by kernel_rfl) (by kernel_rfl) (by kernel_rfl) (fun _ _ _ h => h) (Or.inl ⟨by rfl, ?_⟩) (by assumption) ?_
    rotate_left 1
    · (intro w hSw; (try dsimp only at hSw); go_simp; try (with_reducible rfl))
    try simp only [List.getElem_toArray, List.getElem_cons_zero, List.getElem_cons_succ, Act.put, List.setIfInBounds_toArray, List.set_cons_zero, List.set_cons_succ]
    refine wpAnyH_take (i := 6) (v := ?_) rfl (by kernel_rfl) (by kernel_rfl) (by kernel_rfl) (fun _ _ _ h => h) (Or.inl ⟨by rfl, ?_⟩) (by assumption) ?_
    rotate_left 1
    · (intro w hSw; (try dsimp only at hSw); go_simp; try (with_reducible rfl))
    try simp only [List.getElem_toArray, List.getElem_cons_zero, List.getElem_cons_succ, Act.put, List.setIfInBounds_toArray, List.set_cons_zero, List.set_cons_succ]
    refine wpAnyH_ready (rs := [7]) (by kernel_rfl) (by simp) ?_
    refine AllReadyH.cons rfl (fun K hK => ?_) AllReadyH.nil
    go_simp
    refine HCP.mono ?_
    clear HCP
    rintro e w5 ⟨⟨v5, u5, ts, qs, rfl, hct, hr5⟩, hb5'⟩
    have hb5 : Below w4.heap.size w4 w5 := Below.drewS hb5'
    have HX5 : Hid (Box2 w5 w.heap.size (.slice sa ss.length sc) (.slice pa ps.length pc) ∧ Box2 w5 (w.heap.size + 1) (.slice none 0 0) (.slice none 0 0) ∧ Below w.heap.size w w5 ∧ Box2 w5 Q (.slice va4 (ps.length + 1) vc4) (.int .i64 60)) := ⟨HX4.out.1.keep hb5 HX4.out.1.lt, HX4.out.2.1.keep hb5 HX4.out.2.1.lt, HX4.out.2.2.trans (hb5.mono HX4.out.2.2.size), HQ4.out.1.keep hb5 HQ4.out.1.lt⟩
    have HR5 : Hid ((ts.map El.ct = ss.map El.ct ∧ qs.map El.ct = (ps ++ [(⟨x, da, dc, ds⟩ : El)]).map El.ct) ∧ RawO w5 w4.heap.size v5 u5 ts qs) := ⟨hct, hr5⟩
    obtain ⟨va5, vc5, ua5, uc5, rfl, rfl⟩ := hr5.form
    clear hct hr5 hb5 hb5'
    dsimp only
    refine hK.out _ _ (by exact ⟨HX5.out.1.c0, HX5.out.2.2.2.c0⟩) (fun hHeld => ?_)
    clear hK K
    try simp only [List.getElem_toArray, List.getElem_cons_zero, List.getElem_cons_succ, Act.put, List.setIfInBounds_toArray, List.set_cons_zero, List.set_cons_succ]
    refine wpAnyH_done (by kernel_rfl) ?_ _
    simp only [cutQ, List.drop_succ_cons, List.drop_zero]
    have hlt4 : w.heap.size + 1 < w4.heap.size := rl
    have HON : Hid (Only (fun b => b = w.heap.size + 1) w5 ((w5.setCell ⟨w.heap.size + 1, 0, none⟩ (.slice va5 ts.length vc5)).setCell ⟨w.heap.size + 1, 1, none⟩ (.slice ua5 qs.length uc5))) := ((Only.refl (fun b => b = w.heap.size + 1) w5).setCell (p := ⟨w.heap.size + 1, 0, none⟩) (.inl rfl) _).setCell (p := ⟨w.heap.size + 1, 1, none⟩) (.inl rfl) _
    have HFIN : Hid (RawO ((w5.setCell ⟨w.heap.size + 1, 0, none⟩ (.slice va5 ts.length vc5)).setCell ⟨w.heap.size + 1, 1, none⟩ (.slice ua5 qs.length uc5)) w.heap.size (.slice va5 ts.length vc5) (.slice ua5 qs.length uc5) ts qs) := (HR5.out.2.stay HON.out (fun k hk e => by have := (HR5.out.2.inside k hk).1; omega)).weak (by omega)
    have HBE : Hid (Below w.heap.size w ((w5.setCell ⟨w.heap.size + 1, 0, none⟩ (.slice va5 ts.length vc5)).setCell ⟨w.heap.size + 1, 1, none⟩ (.slice ua5 qs.length uc5))) := (HX5.out.2.2.1.setCell (p := ⟨w.heap.size + 1, 0, none⟩) (by simp) _).setCell (p := ⟨w.heap.size + 1, 1, none⟩) (by simp) _
    have HCF : Hid (qs.map El.ct = ps.map El.ct ++ [(x, ds)] ∧ True) := ⟨by rw [HR5.out.1.2, List.map_append]; rfl, trivial⟩
    clear r0 r1 r2 r3 rl x0 x1 xl q0 q1 ql HON
    obtain ⟨r0, r1, r2, r3, rl⟩ := HX5.out.2.1
    go_wp2
    exact bodyPost_ret (v := .tuple #[.agg #[.slice va5 ts.length vc5, .slice ua5 qs.length uc5], .bool true]) (by simp [results, Try.results6, go_sem, r0, r1]) rfl ⟨⟨_, _, ts, qs, rfl, ⟨HR5.out.1.1, HCF.out.1⟩, HFIN.out⟩, HBE.out⟩
  · have h1 := wr_no h
    rw [h1.1, h1.2.1, h1.2.2]
    clear h1
    cases hr : rok ss ps with
    | false =>
      rw [hr] at HSP
      clear hr h
      go_enter Try.func6, Try.ntmps6
      go_wp2_with fail
      refine HSP.mono ?_
      clear HSP
      rintro e w1 ⟨rfl, hb1⟩
      have HX1 : Hid (Box2 w1 w.heap.size (.slice sa ss.length sc) (.slice pa ps.length pc) ∧ Box2 w1 (w.heap.size + 1) (.slice none 0 0) (.slice none 0 0) ∧ Below w.heap.size w w1) := ⟨HX.out.1.keep hb1 HX.out.1.lt, HX.out.2.keep hb1 HX.out.2.lt, HW.out.trans (hb1.mono HW.out.size)⟩
      clear hb1 HX HW
      obtain ⟨x0, x1, -, -, xl⟩ := HX1.out.1
      obtain ⟨r0, r1, r2, r3, rl⟩ := HX1.out.2.1
      have hbb := HX1.out.2.2
      have HB1 : Hid (Below w.heap.size w ((w1.setCell ⟨w.heap.size + 1, 0, none⟩ (.slice none 0 0)).setCell ⟨w.heap.size + 1, 1, none⟩ (.slice none 0 0))) := (hbb.setCell (p := ⟨w.heap.size + 1, 0, none⟩) (by simp) _).setCell (p := ⟨w.heap.size + 1, 1, none⟩) (by simp) _
      clear hbb
      go_wp2
      exact bodyPost_ret (v := .tuple #[.agg #[.slice none 0 0, .slice none 0 0], .bool false]) (by simp [results, Try.results6, go_sem, r0, r1]) rfl ⟨⟨_, _, [], [], rfl, ⟨rfl, rfl⟩, ⟨OVr.nil _ _ _, OVr.nil _ _ _, Deep.nil _ _, by simp, by simp⟩⟩, HB1.out⟩
    | true =>
      rw [hr] at HSP
      have hR := rok_ok hr
      have hR1 := hR.1
      have hR2 := hR.2.1
      have hR3 := hR.2.2.1
      have key : ¬ (0 ≤ x ∧ x < (ss.length : Int)) ∨ (0 ≤ x ∧ x < (ss.length : Int) ∧ ds.length ≠ 256) ∨ (0 ≤ x ∧ x < (ss.length : Int) ∧ ds.length = 256 ∧ 60 ≤ ps.length) := by
        have h9 : ¬ (0 ≤ x ∧ x < (ss.length : Int) ∧ ds.length = 256 ∧ ps.length < 60) := fun h9 => h ⟨hr, h9⟩
        omega
      clear hr h hR
      rcases key with h | ⟨h, h2, h3⟩ | ⟨h, h2, h3, h4⟩
      · skip
        go_enter Try.func6, Try.ntmps6
        go_wp2_with fail
        refine HSP.mono ?_
        clear HSP
        rintro e w1 ⟨rfl, hb1⟩
        have HX1 : Hid (Box2 w1 w.heap.size (.slice sa ss.length sc) (.slice pa ps.length pc) ∧ Box2 w1 (w.heap.size + 1) (.slice none 0 0) (.slice none 0 0) ∧ Below w.heap.size w w1) := ⟨HX.out.1.keep hb1 HX.out.1.lt, HX.out.2.keep hb1 HX.out.2.lt, HW.out.trans (hb1.mono HW.out.size)⟩
        clear hb1 HX HW
        obtain ⟨x0, x1, -, -, xl⟩ := HX1.out.1
        obtain ⟨r0, r1, r2, r3, rl⟩ := HX1.out.2.1
        have HHS := has_any sa pa sc pc ss.length ps.length x w1 (by omega)
        rw [decide_eq_false h] at HHS
        go_wp2_with fail
        refine HHS.mono ?_
        clear HHS
        rintro e w2 ⟨rfl, hb2⟩
        have HX2 : Hid (Box2 w2 w.heap.size (.slice sa ss.length sc) (.slice pa ps.length pc) ∧ Box2 w2 (w.heap.size + 1) (.slice none 0 0) (.slice none 0 0) ∧ Below w.heap.size w w2) := ⟨HX1.out.1.keep hb2 HX1.out.1.lt, HX1.out.2.1.keep hb2 HX1.out.2.1.lt, HX1.out.2.2.trans (hb2.mono HX1.out.2.2.size)⟩
        clear hb2 HX1 x0 x1 xl r0 r1 r2 r3 rl
        obtain ⟨x0, x1, -, -, xl⟩ := HX2.out.1
        obtain ⟨r0, r1, r2, r3, rl⟩ := HX2.out.2.1
        have hbb := HX2.out.2.2
        clear h
        have HB1 : Hid (Below w.heap.size w ((w2.setCell ⟨w.heap.size + 1, 0, none⟩ (.slice none 0 0)).setCell ⟨w.heap.size + 1, 1, none⟩ (.slice none 0 0))) := (hbb.setCell (p := ⟨w.heap.size + 1, 0, none⟩) (by simp) _).setCell (p := ⟨w.heap.size + 1, 1, none⟩) (by simp) _
        clear hbb
        go_wp2
        exact bodyPost_ret (v := .tuple #[.agg #[.slice none 0 0, .slice none 0 0], .bool false]) (by simp [results, Try.results6, go_sem, r0, r1]) rfl ⟨⟨_, _, [], [], rfl, ⟨rfl, rfl⟩, ⟨OVr.nil _ _ _, OVr.nil _ _ _, Deep.nil _ _, by simp, by simp⟩⟩, HB1.out⟩
      · have hdlen : ((ds.length : Int) != 256) = true := by rw [bne_iff_ne]; omega
        clear h3
        go_enter Try.func6, Try.ntmps6
        go_wp2_with fail
        refine HSP.mono ?_
        clear HSP
        rintro e w1 ⟨rfl, hb1⟩
        have HX1 : Hid (Box2 w1 w.heap.size (.slice sa ss.length sc) (.slice pa ps.length pc) ∧ Box2 w1 (w.heap.size + 1) (.slice none 0 0) (.slice none 0 0) ∧ Below w.heap.size w w1) := ⟨HX.out.1.keep hb1 HX.out.1.lt, HX.out.2.keep hb1 HX.out.2.lt, HW.out.trans (hb1.mono HW.out.size)⟩
        clear hb1 HX HW
        obtain ⟨x0, x1, -, -, xl⟩ := HX1.out.1
        obtain ⟨r0, r1, r2, r3, rl⟩ := HX1.out.2.1
        have HHS := has_any sa pa sc pc ss.length ps.length x w1 (by omega)
        rw [decide_eq_true (show (0 : Int) ≤ x ∧ x < (ss.length : Int) from ⟨h, h2⟩)] at HHS
        go_wp2_with fail
        refine HHS.mono ?_
        clear HHS
        rintro e w2 ⟨rfl, hb2⟩
        have HX2 : Hid (Box2 w2 w.heap.size (.slice sa ss.length sc) (.slice pa ps.length pc) ∧ Box2 w2 (w.heap.size + 1) (.slice none 0 0) (.slice none 0 0) ∧ Below w.heap.size w w2) := ⟨HX1.out.1.keep hb2 HX1.out.1.lt, HX1.out.2.1.keep hb2 HX1.out.2.1.lt, HX1.out.2.2.trans (hb2.mono HX1.out.2.2.size)⟩
        clear hb2 HX1 x0 x1 xl r0 r1 r2 r3 rl
        obtain ⟨x0, x1, -, -, xl⟩ := HX2.out.1
        obtain ⟨r0, r1, r2, r3, rl⟩ := HX2.out.2.1
        have hbb := HX2.out.2.2
        have HB1 : Hid (Below w.heap.size w ((w2.setCell ⟨w.heap.size + 1, 0, none⟩ (.slice none 0 0)).setCell ⟨w.heap.size + 1, 1, none⟩ (.slice none 0 0))) := (hbb.setCell (p := ⟨w.heap.size + 1, 0, none⟩) (by simp) _).setCell (p := ⟨w.heap.size + 1, 1, none⟩) (by simp) _
        clear hbb
        go_wp2
        exact bodyPost_ret (v := .tuple #[.agg #[.slice none 0 0, .slice none 0 0], .bool false]) (by simp [results, Try.results6, go_sem, r0, r1]) rfl ⟨⟨_, _, [], [], rfl, ⟨rfl, rfl⟩, ⟨OVr.nil _ _ _, OVr.nil _ _ _, Deep.nil _ _, by simp, by simp⟩⟩, HB1.out⟩
      · have hdlen : ((ds.length : Int) != 256) = false := by rw [bne_eq_false_iff_eq]; omega
        clear h3
        go_enter Try.func6, Try.ntmps6
        go_wp2_with fail
        refine HSP.mono ?_
        clear HSP
        rintro e w1 ⟨rfl, hb1⟩
        have HX1 : Hid (Box2 w1 w.heap.size (.slice sa ss.length sc) (.slice pa ps.length pc) ∧ Box2 w1 (w.heap.size + 1) (.slice none 0 0) (.slice none 0 0) ∧ Below w.heap.size w w1) := ⟨HX.out.1.keep hb1 HX.out.1.lt, HX.out.2.keep hb1 HX.out.2.lt, HW.out.trans (hb1.mono HW.out.size)⟩
        clear hb1 HX HW
        obtain ⟨x0, x1, -, -, xl⟩ := HX1.out.1
        obtain ⟨r0, r1, r2, r3, rl⟩ := HX1.out.2.1
        have HHS := has_any sa pa sc pc ss.length ps.length x w1 (by omega)
        rw [decide_eq_true (show (0 : Int) ≤ x ∧ x < (ss.length : Int) from ⟨h, h2⟩)] at HHS
        go_wp2_with fail
        refine HHS.mono ?_
        clear HHS
        rintro e w2 ⟨rfl, hb2⟩
        have HX2 : Hid (Box2 w2 w.heap.size (.slice sa ss.length sc) (.slice pa ps.length pc) ∧ Box2 w2 (w.heap.size + 1) (.slice none 0 0) (.slice none 0 0) ∧ Below w.heap.size w w2) := ⟨HX1.out.1.keep hb2 HX1.out.1.lt, HX1.out.2.1.keep hb2 HX1.out.2.1.lt, HX1.out.2.2.trans (hb2.mono HX1.out.2.2.size)⟩
        clear hb2 HX1 x0 x1 xl r0 r1 r2 r3 rl
        obtain ⟨x0, x1, -, -, xl⟩ := HX2.out.1
        obtain ⟨r0, r1, r2, r3, rl⟩ := HX2.out.2.1
        have HWT := waits_any sa pa sc pc ss.length ps w2 ((HB.out.1.below HX2.out.2.2 (Nat.le_refl _)).2) (by omega)
        go_wp2_with fail
        refine HWT.mono ?_
        clear HWT
        rintro e w3 ⟨⟨Q, v, rfl, hq⟩, hb3⟩
        obtain ⟨va, vc, rfl⟩ := hq.row.form
        have HX3 : Hid (Box2 w3 w.heap.size (.slice sa ss.length sc) (.slice pa ps.length pc) ∧ Box2 w3 (w.heap.size + 1) (.slice none 0 0) (.slice none 0 0) ∧ Below w.heap.size w w3) := ⟨HX2.out.1.keep hb3 HX2.out.1.lt, HX2.out.2.1.keep hb3 HX2.out.2.1.lt, HX2.out.2.2.trans (hb3.mono HX2.out.2.2.size)⟩
        have HQ3 : Hid (Que w3 w2.heap.size Q (.slice va ps.length vc) ps ∧ w2.heap.size ≤ w3.heap.size ∧ w.heap.size + 1 < w2.heap.size) := ⟨hq, hb3.size, HX2.out.2.1.lt⟩
        clear hb3 HX2 x0 x1 xl r0 r1 r2 r3 rl hq
        have HPT := put_no Q va vc ps x da dc ds w3 HQ3.out.1.box h4 (by omega)
        go_wp2_with fail
        refine HPT.mono ?_
        clear HPT
        rintro e w4 ⟨rfl, hb4⟩
        obtain ⟨r0, r1, r2, r3, rl⟩ := HX3.out.2.1.keep hb4 HX3.out.2.1.lt
        have hbb : Below w.heap.size w w4 := HX3.out.2.2.trans (hb4.mono HX3.out.2.2.size)
        clear hb4 HX3 HQ3
        have HB1 : Hid (Below w.heap.size w ((w4.setCell ⟨w.heap.size + 1, 0, none⟩ (.slice none 0 0)).setCell ⟨w.heap.size + 1, 1, none⟩ (.slice none 0 0))) := (hbb.setCell (p := ⟨w.heap.size + 1, 0, none⟩) (by simp) _).setCell (p := ⟨w.heap.size + 1, 1, none⟩) (by simp) _
        clear hbb
        go_wp2
        exact bodyPost_ret (v := .tuple #[.agg #[.slice none 0 0, .slice none 0 0], .bool false]) (by simp [results, Try.results6, go_sem, r0, r1]) rfl ⟨⟨_, _, [], [], rfl, ⟨rfl, rfl⟩, ⟨OVr.nil _ _ _, OVr.nil _ _ _, Deep.nil _ _, by simp, by simp⟩⟩, HB1.out⟩
end Go.Proofs.Ytpedfcknmeeknaa
