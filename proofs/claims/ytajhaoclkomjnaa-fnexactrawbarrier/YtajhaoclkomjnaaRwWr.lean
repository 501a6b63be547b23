/-
  RawWrite of the model.
-/
import Derived.Test.YtajhaoclkomjnaaRwOkI
import Derived.Test.YtajhaoclkomjnaaCopS
import Derived.Test.YtajhaoclkomjnaaCopB
namespace Go.Proofs.Ytajhaoclkomjnaa
open Go.RowKit
set_option linter.unusedVariables false
set_option linter.unusedSimpArgs false

/-- Whether something is written, and what there is then. -/
def wrB (ss ps : List El) (x : Int) (ds : List Int) : Bool := rok ss ps && decide (0 ≤ x ∧ x < (ss.length : Int) ∧ ds.length = 256 ∧ ps.length < 60)
def wrS (ss ps : List El) (x : Int) (ds : List Int) : List (Int × List Int) := if wrB ss ps x ds = true then ss.map El.ct else []
def wrP (ss ps : List El) (x : Int) (ds : List Int) : List (Int × List Int) := if wrB ss ps x ds = true then ps.map El.ct ++ [(x, ds)] else []
theorem wr_ct {ss ps ts qs : List El} (h1 : ts.map El.ct = ss.map El.ct) (h2 : qs.map El.ct = ps.map El.ct) (x : Int) (ds : List Int) : wrB ts qs x ds = wrB ss ps x ds ∧ wrS ts qs x ds = wrS ss ps x ds ∧ wrP ts qs x ds = wrP ss ps x ds := by
  have h3 : wrB ts qs x ds = wrB ss ps x ds := by unfold wrB; rw [rok_ct h1 h2, len_ctE h1, len_ctE h2]
  exact ⟨h3, by unfold wrS; rw [h3, h1], by unfold wrP; rw [h3, h2]⟩
theorem wr_yes {ss ps : List El} {x : Int} {ds : List Int} (h : rok ss ps = true) (hx : 0 ≤ x ∧ x < (ss.length : Int) ∧ ds.length = 256 ∧ ps.length < 60) : wrB ss ps x ds = true ∧ wrS ss ps x ds = ss.map El.ct ∧ wrP ss ps x ds = ps.map El.ct ++ [(x, ds)] := by
  have h3 : wrB ss ps x ds = true := by unfold wrB; rw [h, decide_eq_true hx]; rfl
  exact ⟨h3, by unfold wrS; rw [if_pos h3], by unfold wrP; rw [if_pos h3]⟩
theorem wr_no {ss ps : List El} {x : Int} {ds : List Int} (h : ¬ (rok ss ps = true ∧ 0 ≤ x ∧ x < (ss.length : Int) ∧ ds.length = 256 ∧ ps.length < 60)) : wrB ss ps x ds = false ∧ wrS ss ps x ds = [] ∧ wrP ss ps x ds = [] := by
  have h3 : wrB ss ps x ds = false := by
    unfold wrB
    cases hr : rok ss ps with
    | false => rfl
    | true => rw [decide_eq_false (fun h2 => h ⟨hr, h2⟩)]; rfl
  exact ⟨h3, by unfold wrS; rw [h3]; rfl, by unfold wrP; rw [h3]; rfl⟩
theorem Rok.lens {ss ps : List El} (h : Rok ss ps) : (∀ s ∈ ss, s.ls.length = 256) ∧ ∀ s ∈ ps, s.ls.length = 256 := by
  refine ⟨fun s hs => ?_, fun s hs => ?_⟩
  · obtain ⟨i, hi, rfl⟩ := memE_get hs
    exact h.2.2.2.1 i hi
  · obtain ⟨i, hi, rfl⟩ := memE_get hs
    exact (h.2.2.2.2 i hi).2.2

theorem elets_256 {es : List El} (h : ∀ e ∈ es, e.ls.length = 256) : elets es = es.length * 256 := by
  induction es with
  | nil => rfl
  | cons e es ih =>
    simp only [elets, ih (fun x hx => h x (List.mem_cons_of_mem _ hx)), h e (List.mem_cons_self ..), List.length_cons]
    omega
theorem few_256 {ms ns : List El} (h1 : ms.length ≤ 24) (h2 : ns.length ≤ 61) (h3 : ∀ e ∈ ms, e.ls.length = 256) (h4 : ∀ e ∈ ns, e.ls.length = 256) : Few ms ns :=
  Few.mk' (by rw [elets_256 h3, elets_256 h4]; omega)
theorem len_of_ct {ms ss : List El} (h : ms.map El.ct = ss.map El.ct) (hs : ∀ e ∈ ss, e.ls.length = 256) : ∀ e ∈ ms, e.ls.length = 256 := by
  intro e he
  obtain ⟨i, hi, rfl⟩ := memE_get he
  have h1 := ctE_get h i
  have h2 := hs _ (getD_memE (k := i) (by rw [← len_ctE h]; exact hi))
  simp only [El.ct, Prod.mk.injEq] at h1
  rw [h1.2]
  exact h2
theorem few_wr {ss ps : List El} {x : Int} {ds : List Int} (ms ns : List El) (h1 : ms.map El.ct = wrS ss ps x ds) (h2 : ns.map El.ct = wrP ss ps x ds) : Few ms ns := by
  by_cases h : rok ss ps = true ∧ 0 ≤ x ∧ x < (ss.length : Int) ∧ ds.length = 256 ∧ ps.length < 60
  · have h3 := wr_yes h.1 h.2
    rw [h3.2.1] at h1
    rw [h3.2.2] at h2
    have hR := rok_ok h.1
    have h4 : ns.map El.ct = (ps ++ [(⟨x, none, 0, ds⟩ : El)]).map El.ct := by rw [h2, List.map_append]; rfl
    refine few_256 (by rw [len_ctE h1]; exact hR.2.1) (by rw [len_ctE h4, List.length_append, List.length_singleton]; have := hR.2.2.1; omega) (len_of_ct h1 hR.lens.1) (len_of_ct h4 (fun e he => ?_))
    rcases List.mem_append.1 he with he | he
    · exact hR.lens.2 e he
    · simp at he
      subst he
      exact h.2.2.2.1
  · have h3 := wr_no h
    rw [h3.2.1] at h1
    rw [h3.2.2] at h2
    have e1 : ms = [] := List.map_eq_nil_iff.1 h1
    have e2 : ns = [] := List.map_eq_nil_iff.1 h2
    subst e1 e2
    exact Few.mk' (by simp [elets])

set_option maxRecDepth 20000 in
set_option maxHeartbeats 8000000 in
theorem specRawWrite_any (sa pa : Option Addr) (sc pc : Nat) (ss ps : List El) (x : Int) (da : Option Addr) (dc : Nat) (ds : List Int) (w : World) (hb : RawI w sa pa ss ps) (hd : Byt w da ds) (hxr : -9223372036854775808 ≤ x ∧ x ≤ 9223372036854775807) (hx : ss.length ≤ 281474976710656) (hy : ps.length ≤ 281474976710656) (hxl : ∀ s ∈ ss, s.ls.length ≤ 281474976710656) (hyl : ∀ s ∈ ps, s.ls.length ≤ 281474976710656) (hdl : ds.length ≤ 281474976710656) :
    Calls Try.prog 23 #[.agg #[.slice sa ss.length sc, .slice pa ps.length pc], .int .i64 x, .slice da ds.length dc] w fun e w' => (∃ v u ts qs, e = .returned (.tuple #[.agg #[v, u], .bool (wrB ss ps x ds)]) ∧ (ts.map El.ct = wrS ss ps x ds ∧ qs.map El.ct = wrP ss ps x ds) ∧ RawO w' w.heap.size v u ts qs) ∧ Below w.heap.size w w' := by
  have HB : Hid (RawI w sa pa ss ps ∧ Byt w da ds) := ⟨hb, hd⟩
  have HW : Hid (Below w.heap.size w ((w.alloc (Obj.cells #[Value.slice sa ss.length sc, Value.slice pa ps.length pc] 30)).alloc (Obj.cells #[Value.slice none 0 0, Value.slice none 0 0] 30))) := ((Below.refl _ _).alloc (Nat.le_refl _) _).alloc (by simp) _
  have HX : Hid (Box2 ((w.alloc (Obj.cells #[Value.slice sa ss.length sc, Value.slice pa ps.length pc] 30)).alloc (Obj.cells #[Value.slice none 0 0, Value.slice none 0 0] 30)) w.heap.size (.slice sa ss.length sc) (.slice pa ps.length pc) ∧ Box2 ((w.alloc (Obj.cells #[Value.slice sa ss.length sc, Value.slice pa ps.length pc] 30)).alloc (Obj.cells #[Value.slice none 0 0, Value.slice none 0 0] 30)) (w.heap.size + 1) (.slice none 0 0) (.slice none 0 0)) := by
    refine ⟨(Box2.new _ _ _ _).alloc _, ?_⟩
    have h9 := Box2.new (w.alloc (Obj.cells #[Value.slice sa ss.length sc, Value.slice pa ps.length pc] 30)) (.slice none 0 0) (.slice none 0 0) 30
    simpa using h9
  have HSP := specRawOk_any sa pa sc pc ss ps _ (HB.out.1.below HW.out (Nat.le_refl _)) hx hy hxl hyl
  clear hb hxl hyl hd
  by_cases h : rok ss ps = true ∧ 0 ≤ x ∧ x < (ss.length : Int) ∧ ds.length = 256 ∧ ps.length < 60
  · have h1 := wr_yes h.1 h.2
    rw [h1.1, h1.2.1, h1.2.2]
    rw [h.1] at HSP
    have hR := rok_ok h.1
    have HRL : Hid ((∀ s ∈ ss, s.ls.length ≤ 1000000) ∧ (∀ s ∈ ps, s.ls.length ≤ 1000000)) := ⟨fun s hs => by have := hR.lens.1 s hs; omega, fun s hs => by have := hR.lens.2 s hs; omega⟩
    have hR1 := hR.1
    have hR2 := hR.2.1
    obtain ⟨-, g1, g2, g3, g4⟩ := h
    have HDL : Hid (ds.length = 256 ∧ True) := ⟨g3, trivial⟩
    have hdlen : ((ds.length : Int) != 256) = false := by rw [bne_eq_false_iff_eq]; omega
    have hc60 : ¬ (60 : Int) ≤ (ps.length : Int) := by omega
    clear h1 hR g3
    go_enter Try.func23, Try.ntmps23
    go_wp2_with fail
    refine HSP.mono ?_
    clear HSP
    rintro e w1 ⟨rfl, hb1⟩
    have HX1 : Hid (Box2 w1 w.heap.size (.slice sa ss.length sc) (.slice pa ps.length pc) ∧ Box2 w1 (w.heap.size + 1) (.slice none 0 0) (.slice none 0 0) ∧ Below w.heap.size w w1) := ⟨HX.out.1.keep hb1 HX.out.1.lt, HX.out.2.keep hb1 HX.out.2.lt, HW.out.trans (hb1.mono HW.out.size)⟩
    obtain ⟨x0, x1, -, -, xl⟩ := HX1.out.1
    clear hb1 HX HW
    go_wp2_with fail
    refine (l6own_any sa pa sc pc ss ps w1 (HB.out.1.below HX1.out.2.2 (Nat.le_refl _)) (by omega) (by omega) HRL.out.1 HRL.out.2).mono ?_
    rintro e w2 ⟨⟨v, u, ts, qs, rfl, hct, hr2⟩, hb2⟩
    obtain ⟨va, vc, ua, uc, rfl, rfl⟩ := hr2.form
    have HCT : Hid (ts.map El.ct = ss.map El.ct ∧ qs.map El.ct = ps.map El.ct) := hct
    have hqs : qs.length ≤ 60 := by rw [len_ctE hct.2]; omega
    have hba : Below w2.heap.size w2 (w2.alloc (Obj.cells #[.slice va ts.length vc, .slice ua qs.length uc] 30)) := (Below.refl _ _).alloc (Nat.le_refl _) _
    have hb3 := hb2.trans (hba.mono hb2.size)
    have HCB : Hid (CopB w (w2.alloc (Obj.cells #[.slice va ts.length vc, .slice ua qs.length uc] 30)) w1.heap.size w2.heap.size (.slice va ts.length vc) (.slice ua qs.length uc) ts qs) :=
      ⟨HX1.out.2.2.trans (hb3.mono HX1.out.2.2.size), HX1.out.2.2.size, by have := hb2.size; have := HX1.out.2.2.size; omega, hr2.below hba, Box2.new _ _ _ _, fun k hk e => by have := (hr2.inside k hk).2; omega⟩
    have HBR : Hid (Box2 (w2.alloc (Obj.cells #[.slice va ts.length vc, .slice ua qs.length uc] 30)) (w.heap.size + 1) (.slice none 0 0) (.slice none 0 0) ∧ w.heap.size + 1 < w1.heap.size ∧ w.heap.size + 1 < w2.heap.size) := ⟨HX1.out.2.1.keep hb3 HX1.out.2.1.lt, HX1.out.2.1.lt, by have := hb2.size; have := HX1.out.2.1.lt; omega⟩
    have hBW : w1.heap.size ≤ (w2.alloc (Obj.cells #[.slice va ts.length vc, .slice ua qs.length uc] 30)).heap.size := by have := hb2.size; simp; omega
    have HDY : Hid (Byt (w2.alloc (Obj.cells #[.slice va ts.length vc, .slice ua qs.length uc] 30)) da ds) := HB.out.2.below HCB.out.bel (Nat.le_refl _)
    clear hct hr2 hb2 hba hb3 x0 x1 xl HX1
    go_wp2
    generalize w2.alloc (Obj.cells #[.slice va ts.length vc, .slice ua qs.length uc] 30) = W1 at *
    generalize w2.heap.size = X at *
    generalize w1.heap.size = B0 at *
    obtain ⟨b0, b1, -, -, bxl⟩ := HCB.out.box
    have HE1 : Hid (OVB (W1.drew.alloc (Obj.cells #[] 5)) W1.heap.size (.slice (some ⟨W1.heap.size, 0, none⟩) 0 0) [] ∧ Byt (W1.drew.alloc (Obj.cells #[] 5)) da ds ∧ Below W1.heap.size W1 (W1.drew.alloc (Obj.cells #[] 5))) := ⟨OVB.empty W1.drew _ (Nat.le_refl _), (HDY.out.drewN 1).alloc _, Below.drewS ((Below.refl W1.heap.size W1.drew).alloc (Nat.le_refl _) _)⟩
    have HRX : Hid (∀ (ea : Option Addr) (ec : Nat), rE true ⟨x, ea, ec, ds⟩) := fun ea ec => ⟨hxr.1, hxr.2, by have := HDL.out.1; simp only; unfold maxLen; omega, by simp⟩
    refine wp_region_cut (S := fun W => W.cell? ⟨X, 1, none⟩ = some (.slice ua qs.length uc)) 9 (by kernel_rfl) (by kernel_rfl) (by exact b1) (fun hHeld => ?_)
    refine wpAnyH_take (i := 0) (v := ?_) rfl (by kernel_rfl) (by kernel_rfl) (by kernel_rfl) (fun _ _ _ h => h) (Or.inl ⟨by rfl, ?_⟩) (by assumption) ?_
    rotate_left 1
    · (intro w hSw; (try dsimp only at hSw); go_simp; try (with_reducible rfl))
    try simp only [List.getElem_toArray, List.getElem_cons_zero, List.getElem_cons_succ, Act.put, List.setIfInBounds_toArray, List.set_cons_zero, List.set_cons_succ]
    refine wpAnyH_take (i := 1) (v := ?_) rfl (by kernel_rfl) (by kernel_rfl) (by kernel_rfl) (fun _ _ _ h => h) (Or.inl ⟨by rfl, ?_⟩) (by assumption) ?_
    rotate_left 1
    · (intro w hSw; (try dsimp only at hSw); go_simp; try (with_reducible rfl))
    try simp only [List.getElem_toArray, List.getElem_cons_zero, List.getElem_cons_succ, Act.put, List.setIfInBounds_toArray, List.set_cons_zero, List.set_cons_succ]
    refine wpAnyH_take (i := 2) (v := ?_) rfl (by kernel_rfl) (by kernel_rfl) (by kernel_rfl) (fun _ _ _ h => h) (Or.inl ⟨by rfl, ?_⟩) (by assumption) ?_
    rotate_left 1
    · (intro w hSw; (try dsimp only at hSw); go_simp; try (with_reducible rfl))
    try simp only [List.getElem_toArray, List.getElem_cons_zero, List.getElem_cons_succ, Act.put, List.setIfInBounds_toArray, List.set_cons_zero, List.set_cons_succ]
    refine wpAnyH_take (i := 4) (v := ?_) rfl (by kernel_rfl) (by kernel_rfl) (by kernel_rfl) (fun _ _ _ h => h) (Or.inl ⟨by rfl, ?_⟩) (by assumption) ?_
    rotate_left 1
    · (intro w hSw; (try dsimp only at hSw); go_simp; try (with_reducible rfl))
    try simp only [List.getElem_toArray, List.getElem_cons_zero, List.getElem_cons_succ, Act.put, List.setIfInBounds_toArray, List.set_cons_zero, List.set_cons_succ]
    refine wpAnyH_ready (rs := [3]) (by kernel_rfl) (by simp) ?_
    refine AllReadyH.cons rfl (fun K hK => ?_) AllReadyH.nil
    go_simp
    refine hK.out _ _ (by exact keepA _ bxl b1) (fun hHeld => ?_)
    clear hK K
    try simp only [List.getElem_toArray, List.getElem_cons_zero, List.getElem_cons_succ, Act.put, List.setIfInBounds_toArray, List.set_cons_zero, List.set_cons_succ]
    refine wpAnyH_ready (rs := [5]) (by kernel_rfl) (by simp) ?_
    refine AllReadyH.cons rfl (fun K hK => ?_) AllReadyH.nil
    refine wanted_step rfl (wp_append_byt (.tmp 40) (.tmp 41) rfl W1.heap.size (.slice (some ⟨W1.heap.size, 0, none⟩) 0 0) [] (by simp [Act.eval]) (HE1.out.1) da dc ds (by simp [Act.eval]) (HE1.out.2.1) (by have := HDL.out.1; simp; omega) (by simp) ?_)
    intro v2 w2 hov2 hg2
    have hb2 : Below W1.heap.size W1 w2 := appB_below HE1.out.2.2 (by simp) HE1.out.1 hg2
    rw [List.nil_append] at hov2
    obtain ⟨ea, ec, rfl, hm2⟩ := hov2.mine
    have HM2 : Hid (Mine w2 W1.heap.size w2.heap.size ea ec ds ∧ Below W1.heap.size W1 w2) := ⟨hm2, hb2⟩
    have k1 := keep hb2 bxl b1
    have bxl2 : X < w2.heap.size := by have := hb2.size; omega
    clear hm2 hb2 hov2 hg2
    refine hK.out _ _ (by exact k1) (fun hHeld => ?_)
    clear hK K
    try simp only [List.getElem_toArray, List.getElem_cons_zero, List.getElem_cons_succ, Act.put, List.setIfInBounds_toArray, List.set_cons_zero, List.set_cons_succ]
    refine wpAnyH_take (i := 6) (v := ?_) rfl (by kernel_rfl) (by kernel_rfl) (by kernel_rfl) (fun _ _ _ h => h) (Or.inl ⟨by rfl, ?_⟩) (by assumption) ?_
    rotate_left 1
    · (intro w hSw; (try dsimp only at hSw); go_simp; try (with_reducible rfl))
    try simp only [List.getElem_toArray, List.getElem_cons_zero, List.getElem_cons_succ, Act.put, List.setIfInBounds_toArray, List.set_cons_zero, List.set_cons_succ]
    refine wpAnyH_ready (rs := [7]) (by kernel_rfl) (by simp) ?_
    refine AllReadyH.cons rfl (fun K hK => ?_) AllReadyH.nil
    go_simp
    refine hK.out _ _ (by exact keepA _ bxl2 k1) (fun hHeld => ?_)
    clear hK K
    try simp only [List.getElem_toArray, List.getElem_cons_zero, List.getElem_cons_succ, Act.put, List.setIfInBounds_toArray, List.set_cons_zero, List.set_cons_succ]
    refine wpAnyH_ready (rs := [8]) (by kernel_rfl) (by simp) ?_
    refine AllReadyH.cons rfl (fun K hK => ?_) AllReadyH.nil
    refine wanted_step rfl (wp_append_el_at true (.tmp 38) (.tmp 44) rfl B0 (.slice ua qs.length uc) qs (by simp [Act.eval]) (HCB.out.own.rp.below (HM2.out.2.trans (((Below.refl _ _).alloc (Nat.le_refl _) _).mono HM2.out.2.size))) w2.heap.size 1 ⟨x, ea, ec, ds⟩ (by simp [Act.eval]) (newsP w2 x _ ds.length ec 57 _ rfl rfl rfl rfl) (by omega) (by have := HM2.out.2.size; simp; omega) ?_)
    intro v3 w3 hov3 hg3 hat3
    obtain ⟨sa3, sc3, hv3⟩ := hov3.form
    rw [List.length_append, List.length_singleton] at hv3
    subst hv3
    have HM : Hid _ := HCB.out.moreP (e := ⟨x, ea, ec, ds⟩) hBW HM2.out.2 HM2.out.1 (HRX.out ea ec) hov3 hg3 hat3
    have HBR3 : Hid (Box2 w3 (w.heap.size + 1) (.slice none 0 0) (.slice none 0 0)) := (HBR.out.1.keep (HM2.out.2.trans (((Below.refl _ _).alloc (Nat.le_refl _) _).mono HM2.out.2.size)) HBR.out.1.lt).only (Only.ofGrown hg3) (fun he => by have := (HCB.out.own.rp.blk he).1; have := HBR.out.2.1; omega)
    obtain ⟨-, c3, -, g3, hl3⟩ := HM.out.2
    clear hov3 hg3 hat3
    refine hK.out _ _ (by exact c3) (fun hHeld => ?_)
    clear hK K
    try simp only [List.getElem_toArray, List.getElem_cons_zero, List.getElem_cons_succ, Act.put, List.setIfInBounds_toArray, List.set_cons_zero, List.set_cons_succ]
    refine wpAnyH_done (by kernel_rfl) ?_ _
    simp only [cutQ, List.drop_succ_cons, List.drop_zero]
    have HMC : Hid (CopB w (w3.setCell ⟨X, 1, none⟩ (.slice sa3 (qs.length + 1) sc3)) B0 X (.slice va ts.length vc) (.slice sa3 (qs.length + 1) sc3) ts (qs ++ [⟨x, ea, ec, ds⟩])) := HM.out.1
    have hXH : w.heap.size + 1 < X := HBR.out.2.2
    have hBH : w.heap.size + 1 < B0 := HBR.out.2.1
    have hbr4 := HBR3.out.other (p := ⟨X, 1, none⟩) (by simp; omega) (.slice sa3 (qs.length + 1) sc3)
    have HON : Hid (Only (fun b => b = w.heap.size + 1) (w3.setCell ⟨X, 1, none⟩ (.slice sa3 (qs.length + 1) sc3)) (((w3.setCell ⟨X, 1, none⟩ (.slice sa3 (qs.length + 1) sc3)).setCell ⟨w.heap.size + 1, 0, none⟩ (.slice va ts.length vc)).setCell ⟨w.heap.size + 1, 1, none⟩ (.slice sa3 (qs.length + 1) sc3))) := ((Only.refl (fun b => b = w.heap.size + 1) _).setCell (p := ⟨w.heap.size + 1, 0, none⟩) (.inl rfl) _).setCell (p := ⟨w.heap.size + 1, 1, none⟩) (.inl rfl) _
    have HFIN : Hid (RawO (((w3.setCell ⟨X, 1, none⟩ (.slice sa3 (qs.length + 1) sc3)).setCell ⟨w.heap.size + 1, 0, none⟩ (.slice va ts.length vc)).setCell ⟨w.heap.size + 1, 1, none⟩ (.slice sa3 (qs.length + 1) sc3)) w.heap.size (.slice va ts.length vc) (.slice sa3 (qs.length + 1) sc3) ts (qs ++ [⟨x, ea, ec, ds⟩])) := (HMC.out.own.stay HON.out (fun k hk e => by have := (HMC.out.own.inside k hk).1; omega)).weak HMC.out.hB
    have HBE : Hid (Below w.heap.size w (((w3.setCell ⟨X, 1, none⟩ (.slice sa3 (qs.length + 1) sc3)).setCell ⟨w.heap.size + 1, 0, none⟩ (.slice va ts.length vc)).setCell ⟨w.heap.size + 1, 1, none⟩ (.slice sa3 (qs.length + 1) sc3))) := (HMC.out.bel.setCell (p := ⟨w.heap.size + 1, 0, none⟩) (by simp) _).setCell (p := ⟨w.heap.size + 1, 1, none⟩) (by simp) _
    have HCF : Hid ((qs ++ [(⟨x, ea, ec, ds⟩ : El)]).map El.ct = ps.map El.ct ++ [(x, ds)] ∧ True) := ⟨by rw [List.map_append, HCT.out.2]; rfl, trivial⟩
    obtain ⟨t0, t1, q0, q1, tl⟩ := HBR3.out
    obtain ⟨s0, s1, -, -, sl⟩ := HM.out.2
    clear HM HM2 HE1 HCB HBR HBR3 HON hbr4 b0 b1 k1 HDY
    go_wp2
    exact bodyPost_ret (v := .tuple #[.agg #[.slice va ts.length vc, .slice sa3 (qs.length + 1) sc3], .bool true]) (by simp [results, Try.results23, go_sem, t0, t1]) rfl ⟨⟨_, _, ts, qs ++ [⟨x, ea, ec, ds⟩], rfl, ⟨HCT.out.1, HCF.out.1⟩, HFIN.out⟩, HBE.out⟩
  · have h1 := wr_no h
    rw [h1.1, h1.2.1, h1.2.2]
    clear h1
    cases hr : rok ss ps with
    | false =>
      rw [hr] at HSP
      clear hr h
      go_enter Try.func23, Try.ntmps23
      go_wp2_with fail
      refine HSP.mono ?_
      clear HSP
      rintro e w1 ⟨rfl, hb1⟩
      obtain ⟨x0, x1, -, -, xl⟩ := HX.out.1.keep hb1 HX.out.1.lt
      obtain ⟨r0, r1, r2, r3, rl⟩ := HX.out.2.keep hb1 HX.out.2.lt
      have hbb : Below w.heap.size w w1 := HW.out.trans (hb1.mono HW.out.size)
      have HB1 : Hid (Below w.heap.size w ((w1.setCell ⟨w.heap.size + 1, 0, none⟩ (.slice none 0 0)).setCell ⟨w.heap.size + 1, 1, none⟩ (.slice none 0 0))) := (hbb.setCell (p := ⟨w.heap.size + 1, 0, none⟩) (by simp) _).setCell (p := ⟨w.heap.size + 1, 1, none⟩) (by simp) _
      clear hb1 hbb
      go_wp2
      exact bodyPost_ret (v := .tuple #[.agg #[.slice none 0 0, .slice none 0 0], .bool false]) (by simp [results, Try.results23, go_sem, r0, r1]) rfl ⟨⟨_, _, [], [], rfl, ⟨rfl, rfl⟩, ⟨OVr.nil _ _ _, OVr.nil _ _ _, Deep.nil _ _, by simp, by simp⟩⟩, HB1.out⟩
    | true =>
      rw [hr] at HSP
      have key : x < 0 ∨ (0 ≤ x ∧ (ss.length : Int) ≤ x) ∨ (0 ≤ x ∧ x < (ss.length : Int) ∧ ds.length ≠ 256) ∨ (0 ≤ x ∧ x < (ss.length : Int) ∧ ds.length = 256 ∧ 60 ≤ ps.length) := by
        have h9 : ¬ (0 ≤ x ∧ x < (ss.length : Int) ∧ ds.length = 256 ∧ ps.length < 60) := fun h9 => h ⟨hr, h9⟩
        omega
      clear hr h
      rcases key with h | ⟨h, h2⟩ | ⟨h, h2, h3⟩ | ⟨h, h2, h3, h4⟩
      · skip
        go_enter Try.func23, Try.ntmps23
        go_wp2_with fail
        refine HSP.mono ?_
        clear HSP
        rintro e w1 ⟨rfl, hb1⟩
        obtain ⟨x0, x1, -, -, xl⟩ := HX.out.1.keep hb1 HX.out.1.lt
        obtain ⟨r0, r1, r2, r3, rl⟩ := HX.out.2.keep hb1 HX.out.2.lt
        have hbb : Below w.heap.size w w1 := HW.out.trans (hb1.mono HW.out.size)
        have HB1 : Hid (Below w.heap.size w ((w1.setCell ⟨w.heap.size + 1, 0, none⟩ (.slice none 0 0)).setCell ⟨w.heap.size + 1, 1, none⟩ (.slice none 0 0))) := (hbb.setCell (p := ⟨w.heap.size + 1, 0, none⟩) (by simp) _).setCell (p := ⟨w.heap.size + 1, 1, none⟩) (by simp) _
        clear hb1 hbb
        go_wp2
        exact bodyPost_ret (v := .tuple #[.agg #[.slice none 0 0, .slice none 0 0], .bool false]) (by simp [results, Try.results23, go_sem, r0, r1]) rfl ⟨⟨_, _, [], [], rfl, ⟨rfl, rfl⟩, ⟨OVr.nil _ _ _, OVr.nil _ _ _, Deep.nil _ _, by simp, by simp⟩⟩, HB1.out⟩
      · skip
        go_enter Try.func23, Try.ntmps23
        go_wp2_with fail
        refine HSP.mono ?_
        clear HSP
        rintro e w1 ⟨rfl, hb1⟩
        obtain ⟨x0, x1, -, -, xl⟩ := HX.out.1.keep hb1 HX.out.1.lt
        obtain ⟨r0, r1, r2, r3, rl⟩ := HX.out.2.keep hb1 HX.out.2.lt
        have hbb : Below w.heap.size w w1 := HW.out.trans (hb1.mono HW.out.size)
        have HB1 : Hid (Below w.heap.size w ((w1.setCell ⟨w.heap.size + 1, 0, none⟩ (.slice none 0 0)).setCell ⟨w.heap.size + 1, 1, none⟩ (.slice none 0 0))) := (hbb.setCell (p := ⟨w.heap.size + 1, 0, none⟩) (by simp) _).setCell (p := ⟨w.heap.size + 1, 1, none⟩) (by simp) _
        clear hb1 hbb
        go_wp2
        exact bodyPost_ret (v := .tuple #[.agg #[.slice none 0 0, .slice none 0 0], .bool false]) (by simp [results, Try.results23, go_sem, r0, r1]) rfl ⟨⟨_, _, [], [], rfl, ⟨rfl, rfl⟩, ⟨OVr.nil _ _ _, OVr.nil _ _ _, Deep.nil _ _, by simp, by simp⟩⟩, HB1.out⟩
      · have hdlen : ((ds.length : Int) != 256) = true := by rw [bne_iff_ne]; omega
        clear h3
        go_enter Try.func23, Try.ntmps23
        go_wp2_with fail
        refine HSP.mono ?_
        clear HSP
        rintro e w1 ⟨rfl, hb1⟩
        obtain ⟨x0, x1, -, -, xl⟩ := HX.out.1.keep hb1 HX.out.1.lt
        obtain ⟨r0, r1, r2, r3, rl⟩ := HX.out.2.keep hb1 HX.out.2.lt
        have hbb : Below w.heap.size w w1 := HW.out.trans (hb1.mono HW.out.size)
        have HB1 : Hid (Below w.heap.size w ((w1.setCell ⟨w.heap.size + 1, 0, none⟩ (.slice none 0 0)).setCell ⟨w.heap.size + 1, 1, none⟩ (.slice none 0 0))) := (hbb.setCell (p := ⟨w.heap.size + 1, 0, none⟩) (by simp) _).setCell (p := ⟨w.heap.size + 1, 1, none⟩) (by simp) _
        clear hb1 hbb
        go_wp2
        exact bodyPost_ret (v := .tuple #[.agg #[.slice none 0 0, .slice none 0 0], .bool false]) (by simp [results, Try.results23, go_sem, r0, r1]) rfl ⟨⟨_, _, [], [], rfl, ⟨rfl, rfl⟩, ⟨OVr.nil _ _ _, OVr.nil _ _ _, Deep.nil _ _, by simp, by simp⟩⟩, HB1.out⟩
      · have hdlen : ((ds.length : Int) != 256) = false := by rw [bne_eq_false_iff_eq]; omega
        have hc60 : (60 : Int) ≤ (ps.length : Int) := by omega
        clear h3
        go_enter Try.func23, Try.ntmps23
        go_wp2_with fail
        refine HSP.mono ?_
        clear HSP
        rintro e w1 ⟨rfl, hb1⟩
        obtain ⟨x0, x1, -, -, xl⟩ := HX.out.1.keep hb1 HX.out.1.lt
        obtain ⟨r0, r1, r2, r3, rl⟩ := HX.out.2.keep hb1 HX.out.2.lt
        have hbb : Below w.heap.size w w1 := HW.out.trans (hb1.mono HW.out.size)
        have HB1 : Hid (Below w.heap.size w ((w1.setCell ⟨w.heap.size + 1, 0, none⟩ (.slice none 0 0)).setCell ⟨w.heap.size + 1, 1, none⟩ (.slice none 0 0))) := (hbb.setCell (p := ⟨w.heap.size + 1, 0, none⟩) (by simp) _).setCell (p := ⟨w.heap.size + 1, 1, none⟩) (by simp) _
        clear hb1 hbb
        go_wp2
        exact bodyPost_ret (v := .tuple #[.agg #[.slice none 0 0, .slice none 0 0], .bool false]) (by simp [results, Try.results23, go_sem, r0, r1]) rfl ⟨⟨_, _, [], [], rfl, ⟨rfl, rfl⟩, ⟨OVr.nil _ _ _, OVr.nil _ _ _, Deep.nil _ _, by simp, by simp⟩⟩, HB1.out⟩
end Go.Proofs.Ytajhaoclkomjnaa
