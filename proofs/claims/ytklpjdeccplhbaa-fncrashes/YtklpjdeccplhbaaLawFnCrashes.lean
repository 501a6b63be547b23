/-
  The law on drawn crashes returns true, whatever is handed in, and writes nothing that was there.
-/
import Derived.Test.YtklpjdeccplhbaaDrCrash
import Derived.Test.YtklpjdeccplhbaaRwSeI
import Derived.Test.YtklpjdeccplhbaaSameR2
import Derived.BigQuiet
namespace Go.Proofs.Ytklpjdeccplhbaa
open Go.RowKit
set_option linter.unusedVariables false
set_option linter.unusedSimpArgs false

theorem set_getD_ne (l : List El) (i s : Nat) (x : El) (h : ¬ i = s) : (l.set i x).getD s de = l.getD s de := by rw [List.getD_eq_getElem?_getD, List.getD_eq_getElem?_getD, List.getElem?_set_ne h]
theorem set_getD_self (l : List El) (i : Nat) (x : El) (h : i < l.length) : (l.set i x).getD i de = x := by rw [List.getD_eq_getElem?_getD, List.getElem?_set_self h]; rfl
/-- Each sector is what it was, or one of those that waited for it and were kept. -/
theorem setl_found {ss ps : List El} (f : Nat → Bool) (k : Nat) (hk : k ≤ ps.length) (s : Nat) (hs : s < ss.length) :
    ((setl ss ps f k).getD s de).ls = (ss.getD s de).ls ∨ ∃ j, j < k ∧ f j = true ∧ (ps.getD j de).n.toNat = s ∧ ((setl ss ps f k).getD s de).ls = (ps.getD j de).ls := by
  induction k with
  | zero => exact .inl rfl
  | succ k ih =>
    simp only [setl]
    split
    case isTrue hf =>
      by_cases he : (ps.getD k de).n.toNat = s
      · refine .inr ⟨k, by omega, hf, he, ?_⟩
        rw [he, set_getD_self _ _ _ (by rw [setl_len]; exact hs)]
      · rw [set_getD_ne _ _ _ _ he]
        rcases ih (by omega) with h | ⟨j, h1, h2⟩
        · exact .inl h
        · exact .inr ⟨j, by omega, h2⟩
    case isFalse hf =>
      rcases ih (by omega) with h | ⟨j, h1, h2⟩
      · exact .inl h
      · exact .inr ⟨j, by omega, h2⟩

theorem Els.secA {W : World} {b off : Nat} {es : List El} (h : Els false W (some ⟨b, off, none⟩) es) (k : Nat) (hk : k < es.length) : W.cell? ⟨b, off + k, none⟩ = some (.slice (es.getD k de).a (es.getD k de).ls.length (es.getD k de).c) ∧ Byt W (es.getD k de).a (es.getD k de).ls := by
  obtain ⟨b', o', e, h1, h2, h3, -⟩ := h.sec k hk
  simp at e
  obtain ⟨rfl, rfl⟩ := e
  exact ⟨h2, h3⟩
theorem Els.penA {W : World} {b off : Nat} {es : List El} (h : Els true W (some ⟨b, off, none⟩) es) (k : Nat) (hk : k < es.length) : W.cell? ⟨b, off + k * 2, none⟩ = some (.int .i64 (es.getD k de).n) ∧ W.cell? ⟨b, off + k * 2 + 1, none⟩ = some (.slice (es.getD k de).a (es.getD k de).ls.length (es.getD k de).c) ∧ Byt W (es.getD k de).a (es.getD k de).ls := by
  obtain ⟨b', o', e, h1, h2, h3, h4, -⟩ := h.pen k hk
  simp at e
  obtain ⟨rfl, rfl⟩ := e
  exact ⟨h2, h3, h4⟩
theorem Els.formA {p : Bool} {W : World} {a : Option Addr} {es : List El} (h : Els p W a es) (k : Nat) (hk : k < es.length) : ∃ b off, a = some ⟨b, off, none⟩ := by
  obtain ⟨b, off, e, -⟩ := h.pos k hk
  exact ⟨b, off, e⟩
/-- What the law holds while it looks. -/
structure CrF (w W : World) (X1 X2 : Nat) (sa pa : Option Addr) (sc pc : Nat) (es fs : List El) (ta qa : Option Addr) (tc qc : Nat) (ts : List El) (ka : Option Addr) (ks : List Bool) : Prop where
  r : RawI W sa pa es fs
  x : RawI W ta qa ts []
  k : Bos W ka ks
  b1 : Box2 W X1 (.slice sa es.length sc) (.slice pa fs.length pc)
  b2 : Box2 W X2 (.slice ta ts.length tc) (.slice qa 0 qc)
  bel : Below w.heap.size w W
theorem CrF.step {w W W' : World} {X1 X2 : Nat} {sa pa : Option Addr} {sc pc : Nat} {es fs : List El} {ta qa : Option Addr} {tc qc : Nat} {ts : List El} {ka : Option Addr} {ks : List Bool} (h : CrF w W X1 X2 sa pa sc pc es fs ta qa tc qc ts ka ks) (hb : Below W.heap.size W W') : CrF w W' X1 X2 sa pa sc pc es fs ta qa tc qc ts ka ks :=
  ⟨h.r.below hb (Nat.le_refl _), h.x.below hb (Nat.le_refl _), h.k.below hb (Nat.le_refl _), h.b1.keep hb h.b1.lt, h.b2.keep hb h.b2.lt, h.bel.trans (hb.mono h.bel.size)⟩
/-- Found already, or still to be found. -/
def FI (ts fs : List El) (ks : List Bool) (s i : Nat) (b : Bool) : Prop := b = true ∨ ∃ j, i ≤ j ∧ j < fs.length ∧ kep false ks j = true ∧ (fs.getD j de).n = (s : Int) ∧ (ts.getD s de).ls = (fs.getD j de).ls
theorem FI.start {es fs ts : List El} {ks : List Bool} (hr : Rok es fs) (hc : ts.map El.ct = (setl es fs (kep false ks) fs.length).map El.ct) (s : Nat) (hs : s < es.length) : FI ts fs ks s 0 (smB (ts.getD s de).ls (es.getD s de).ls) := by
  have h1 := ctE_get hc s
  simp only [El.ct, Prod.mk.injEq] at h1
  rcases setl_found (ss := es) (ps := fs) (kep false ks) fs.length (Nat.le_refl _) s hs with h | ⟨j, h2, h3, h4, h5⟩
  · left
    rw [h1.2, h]
    exact smB_self _
  · have h6 := (hr.2.2.2.2 j h2).1
    exact .inr ⟨j, Nat.zero_le _, h2, h3, by omega, by rw [h1.2, h5]⟩
theorem FI.no {ts fs : List El} {ks : List Bool} {s i : Nat} (h : FI ts fs ks s i false) (hn : ¬ (kep false ks i = true ∧ (fs.getD i de).n = (s : Int))) : FI ts fs ks s (i + 1) false := by
  rcases h with h | ⟨j, h1, h2, h3, h4, h5⟩
  · simp at h
  · refine .inr ⟨j, ?_, h2, h3, h4, h5⟩
    rcases Nat.eq_or_lt_of_le h1 with rfl | h6
    · exact absurd ⟨h3, h4⟩ hn
    · omega
theorem FI.at {ts fs : List El} {ks : List Bool} {s i : Nat} (h : FI ts fs ks s i false) : FI ts fs ks s (i + 1) (smB (ts.getD s de).ls (fs.getD i de).ls) := by
  rcases h with h | ⟨j, h1, h2, h3, h4, h5⟩
  · simp at h
  · rcases Nat.eq_or_lt_of_le h1 with rfl | h6
    · left
      rw [h5]
      exact smB_self _
    · exact .inr ⟨j, by omega, h2, h3, h4, h5⟩
theorem FI.end {ts fs : List El} {ks : List Bool} {s : Nat} {b : Bool} (h : FI ts fs ks s fs.length b) : b = true := by
  rcases h with h | ⟨j, h1, h2, _⟩
  · exact h
  · omega

set_option maxRecDepth 20000 in
set_option maxHeartbeats 8000000 in
theorem lawFnCrashes_any (a : Option Addr) (cap : Nat) (bs : List Int) (w : World) (hb : Byt w a bs) (hm : bs.length ≤ maxLen) :
    Calls Try.prog 4 #[.slice a bs.length cap] w fun e w' => e = .returned (.bool true) ∧ Below w.heap.size w w' := by
  go_enter Try.func4, Try.ntmps4
  go_wp2_with fail
  refine (drawRawCrash_any a bs cap w hb hm).mono ?_
  clear hb hm
  rintro e w1 ⟨sa, sc, pa, pc, es, fs, ka, kc, ks, rfl, hri, hbo, ⟨h5, h61, h256, h7⟩, hb1⟩
  have hA : Below w1.heap.size w1 (w1.alloc (Obj.cells #[.slice sa es.length sc, .slice pa fs.length pc] 26)) := (Below.refl _ _).alloc (Nat.le_refl _) _
  have H1 : Hid (RawI (w1.alloc (Obj.cells #[.slice sa es.length sc, .slice pa fs.length pc] 26)) sa pa es fs ∧ Bos (w1.alloc (Obj.cells #[.slice sa es.length sc, .slice pa fs.length pc] 26)) ka ks ∧ Box2 (w1.alloc (Obj.cells #[.slice sa es.length sc, .slice pa fs.length pc] 26)) w1.heap.size (.slice sa es.length sc) (.slice pa fs.length pc) ∧ Below w.heap.size w (w1.alloc (Obj.cells #[.slice sa es.length sc, .slice pa fs.length pc] 26))) := ⟨hri.below hA (Nat.le_refl _), hbo.below hA (Nat.le_refl _), Box2.new _ _ _ _, hb1.trans (hA.mono hb1.size)⟩
  have HLL : Hid ((∀ s ∈ es, s.ls.length ≤ 281474976710656) ∧ ∀ s ∈ fs, s.ls.length ≤ 281474976710656) := ⟨fun s hs => by have := h256 s (List.mem_append_left _ hs); omega, fun s hs => by have := h256 s (List.mem_append_right _ hs); omega⟩
  have HCR := implRawCrash_any sa pa sc pc es fs ka kc ks _ H1.out.1 H1.out.2.1 (by omega) (by omega) HLL.out.1 HLL.out.2 (by omega)
  clear hri hbo hb1 hA h256
  cases hr : rok es fs with
  | false =>
    rw [show crB es fs ks = false from hr] at HCR
    go_wp2_with fail
    generalize w1.alloc (Obj.cells #[.slice sa es.length sc, .slice pa fs.length pc] 26) = W1 at *
    generalize w1.heap.size = X1 at *
    refine HCR.mono ?_
    clear HCR
    rintro e w2 ⟨⟨v, u, ts, qs, rfl, ⟨hct, hcq⟩, hro⟩, hb2⟩
    have hq0 : qs = [] := List.map_eq_nil_iff.1 hcq
    subst hq0
    obtain ⟨ta, tc, qa, qc, rfl, rfl⟩ := hro.form
    have hA2 : Below w2.heap.size w2 (w2.alloc (Obj.cells #[.slice ta ts.length tc, .slice qa 0 qc] 26)) := (Below.refl _ _).alloc (Nat.le_refl _) _
    have hb12 : Below W1.heap.size W1 (w2.alloc (Obj.cells #[.slice ta ts.length tc, .slice qa 0 qc] 26)) := hb2.trans (hA2.mono hb2.size)
    have H2 : Hid (CrF w (w2.alloc (Obj.cells #[.slice ta ts.length tc, .slice qa 0 qc] 26)) X1 w2.heap.size sa pa sc pc es fs ta qa tc qc ts ka ks) := ⟨H1.out.1.below hb12 (Nat.le_refl _), hro.inn.below hA2 (Nat.le_refl _), H1.out.2.1.below hb12 (Nat.le_refl _), H1.out.2.2.1.keep hb12 H1.out.2.2.1.lt, Box2.new _ _ _ _, H1.out.2.2.2.trans (hb12.mono H1.out.2.2.2.size)⟩
    clear hA2 hb12 hro hb2 hcq H1
    have HNW := implRawNew_any 2 (w2.alloc (Obj.cells #[.slice ta ts.length tc, .slice qa 0 qc] 26))
    rw [show newB 2 = true from by decide, show newN 2 = 2 from by decide] at HNW
    go_wp2_with fail
    generalize w2.alloc (Obj.cells #[.slice ta ts.length tc, .slice qa 0 qc] 26) = W2 at *
    generalize w2.heap.size = X2 at *
    refine HNW.mono ?_
    clear HNW
    rintro e w3 ⟨⟨v3, ms, rfl, hc3, hr3⟩, hb3⟩
    have hm2 : ms.length = 2 := by have := congrArg List.length hc3; simpa using this
    obtain ⟨ma, mc, -, -, rfl, -⟩ := hr3.form
    rw [hm2]
    have hA3 : Below w3.heap.size w3 (w3.alloc (Obj.cells #[.slice ma 2 mc, .slice none 0 0] 26)) := (Below.refl _ _).alloc (Nat.le_refl _) _
    have H3 : Hid (CrF w (w3.alloc (Obj.cells #[.slice ma 2 mc, .slice none 0 0] 26)) X1 X2 sa pa sc pc es fs ta qa tc qc ts ka ks) := H2.out.step (hb3.trans (hA3.mono hb3.size))
    clear hc3 hr3 hb3 hA3 hm2 H2
    have ht0 : ts = [] := List.map_eq_nil_iff.1 (by rw [hct]; exact se_no hr _ _)
    subst ht0
    have HSP := specRawOk_any sa pa sc pc es fs _ H3.out.r (by omega) (by omega) HLL.out.1 HLL.out.2
    rw [hr] at HSP
    obtain ⟨x0, x1, -, -, xl⟩ := H3.out.b1
    obtain ⟨y0, y1, -, -, yl⟩ := H3.out.b2
    simp only [List.length_nil] at y0
    clear hr hct
    go_wp2_with fail
    refine HSP.mono ?_
    clear HSP
    rintro e w4 ⟨rfl, hb4⟩
    have H4 : Hid (Below w.heap.size w w4 ∧ True) := ⟨H3.out.bel.trans (hb4.mono H3.out.bel.size), trivial⟩
    clear hb4 H3
    go_wp2
    go_ret
    exact ⟨rfl, H4.out.1⟩
  | true =>
    rw [show crB es fs ks = true from hr] at HCR
    go_wp2_with fail
    generalize w1.alloc (Obj.cells #[.slice sa es.length sc, .slice pa fs.length pc] 26) = W1 at *
    generalize w1.heap.size = X1 at *
    refine HCR.mono ?_
    clear HCR
    rintro e w2 ⟨⟨v, u, ts, qs, rfl, ⟨hct, hcq⟩, hro⟩, hb2⟩
    have hq0 : qs = [] := List.map_eq_nil_iff.1 hcq
    subst hq0
    obtain ⟨ta, tc, qa, qc, rfl, rfl⟩ := hro.form
    have hA2 : Below w2.heap.size w2 (w2.alloc (Obj.cells #[.slice ta ts.length tc, .slice qa 0 qc] 26)) := (Below.refl _ _).alloc (Nat.le_refl _) _
    have hb12 : Below W1.heap.size W1 (w2.alloc (Obj.cells #[.slice ta ts.length tc, .slice qa 0 qc] 26)) := hb2.trans (hA2.mono hb2.size)
    have H2 : Hid (CrF w (w2.alloc (Obj.cells #[.slice ta ts.length tc, .slice qa 0 qc] 26)) X1 w2.heap.size sa pa sc pc es fs ta qa tc qc ts ka ks) := ⟨H1.out.1.below hb12 (Nat.le_refl _), hro.inn.below hA2 (Nat.le_refl _), H1.out.2.1.below hb12 (Nat.le_refl _), H1.out.2.2.1.keep hb12 H1.out.2.2.1.lt, Box2.new _ _ _ _, H1.out.2.2.2.trans (hb12.mono H1.out.2.2.2.size)⟩
    clear hA2 hb12 hro hb2 hcq H1
    have HNW := implRawNew_any 2 (w2.alloc (Obj.cells #[.slice ta ts.length tc, .slice qa 0 qc] 26))
    rw [show newB 2 = true from by decide, show newN 2 = 2 from by decide] at HNW
    go_wp2_with fail
    generalize w2.alloc (Obj.cells #[.slice ta ts.length tc, .slice qa 0 qc] 26) = W2 at *
    generalize w2.heap.size = X2 at *
    refine HNW.mono ?_
    clear HNW
    rintro e w3 ⟨⟨v3, ms, rfl, hc3, hr3⟩, hb3⟩
    have hm2 : ms.length = 2 := by have := congrArg List.length hc3; simpa using this
    obtain ⟨ma, mc, -, -, rfl, -⟩ := hr3.form
    rw [hm2]
    have hA3 : Below w3.heap.size w3 (w3.alloc (Obj.cells #[.slice ma 2 mc, .slice none 0 0] 26)) := (Below.refl _ _).alloc (Nat.le_refl _) _
    have H3 : Hid (CrF w (w3.alloc (Obj.cells #[.slice ma 2 mc, .slice none 0 0] 26)) X1 X2 sa pa sc pc es fs ta qa tc qc ts ka ks) := H2.out.step (hb3.trans (hA3.mono hb3.size))
    clear hc3 hr3 hb3 hA3 hm2 H2
    have hct2 : ts.map El.ct = (setl es fs (kep false ks) fs.length).map El.ct := by rw [hct]; exact se_yes hr _ _
    have HOK : Hid (Rok es fs ∧ ts.map El.ct = (setl es fs (kep false ks) fs.length).map El.ct ∧ ts.length = es.length) := ⟨rok_ok hr, hct2, by rw [len_ctE hct2, setl_len]⟩
    clear hct hct2 hr
    go_wp2
    generalize w3.alloc (Obj.cells #[.slice ma 2 mc, .slice none 0 0] 26) = W3 at *
    generalize w3.heap.size = X3 at *
    go_loopw [9] (fun i wr => ∃ (s m : Nat), s ≤ es.length ∧ i = .int .i64 s ∧ wr = W3.drewN m) (fun i _ => es.length - (intOf i).toNat)
    case atStart => exact ⟨0, 0, Nat.zero_le _, rfl, rfl⟩
    case round =>
      obtain ⟨s, m, hs, rfl, hwr⟩ := hrel
      have HW : Hid (wr = W3.drewN m ∧ CrF w wr X1 X2 sa pa sc pc es fs ta qa tc qc ts ka ks) := ⟨hwr, by rw [hwr]; exact H3.out.step ⟨rfl, rfl, rfl, Nat.le_refl _, fun _ _ => rfl⟩⟩
      clear hwr
      obtain ⟨x0, x1, -, -, xl⟩ := HW.out.2.b1
      obtain ⟨y0, y1, -, -, yl⟩ := HW.out.2.b2
      by_cases hlt : s < es.length
      · have hst : s < ts.length := by rw [HOK.out.2.2]; exact hlt
        have hst2 : (s : Int) < (ts.length : Int) := by omega
        obtain ⟨g1, o1, rfl⟩ := HW.out.2.r.1.formA s hlt
        obtain ⟨g2, o2, rfl⟩ := HW.out.2.x.1.formA s hst
        obtain ⟨d1, hy1⟩ := HW.out.2.r.1.secA s hlt
        obtain ⟨d2, hy2⟩ := HW.out.2.x.1.secA s hst
        have hst0 := FI.start HOK.out.1 HOK.out.2.1 s hlt
        obtain ⟨t1, ht1⟩ : ∃ t, ts.getD s de = t := ⟨_, rfl⟩
        have HT : Hid (ts.getD s de = t1 ∧ True) := ⟨ht1, trivial⟩
        rw [ht1] at d2 hy2 hst0
        clear ht1
        generalize es.getD s de = e1 at *
        obtain ⟨tn, tA, tC, tl⟩ := t1
        obtain ⟨en, eA, eC, el⟩ := e1
        simp only at d1 d2 hy1 hy2 hst0
        have HF0 : Hid (FI ts fs ks s 0 (smB tl el)) := hst0
        have HY : Hid (Byt wr tA tl ∧ Byt wr eA el) := ⟨hy2, hy1⟩
        clear hst0 hy1 hy2
        go_wp2
        go_quiet (first | (go_at_call 12; refine Calls.quiet_of_same (same_is tA eA tC eC tl el _ (HY.out.1.drewN _) (HY.out.2.drewN _))))
        go_wp2
        go_loopw [10, 11] (fun b i wr2 => ∃ (bo : Bool) (k m2 : Nat), k ≤ fs.length ∧ b = .bool bo ∧ i = .int .i64 k ∧ wr2 = W3.drewN m2 ∧ FI ts fs ks s k bo) (fun _ i _ => fs.length - (intOf i).toNat)
        case atStart => exact ⟨_, 0, _, Nat.zero_le _, rfl, rfl, by rw [HW.out.1, World.drewN_drewN], HF0.out⟩
        case round =>
          clear HF0 HY HW d1 d2 x0 x1 xl y0 y1 yl
          obtain ⟨bo, k, m2, hk, rfl, rfl, hwr2, hfi⟩ := hrel
          have HW2 : Hid (wr = W3.drewN m2 ∧ CrF w wr X1 X2 (some ⟨g1, o1, none⟩) pa sc pc es fs (some ⟨g2, o2, none⟩) qa tc qc ts ka ks) := ⟨hwr2, by rw [hwr2]; exact H3.out.step ⟨rfl, rfl, rfl, Nat.le_refl _, fun _ _ => rfl⟩⟩
          have HFI : Hid (FI ts fs ks s k bo) := hfi
          clear hwr2 hfi
          obtain ⟨x0, x1, -, -, xl⟩ := HW2.out.2.b1
          obtain ⟨y0, y1, -, -, yl⟩ := HW2.out.2.b2
          by_cases hkt : k < fs.length
          · cases bo with
            | true =>
              go_wp2
              go_quiet (fail)
              go_wp2
              go_roundw
              case rel => exact ⟨true, k + 1, _, by omega, rfl, by go_num, by rw [HW2.out.1, World.drewN_drewN], .inl rfl⟩
              case measure => simp [intOf]; omega
            | false =>
              obtain ⟨g3, o3, rfl⟩ := HW2.out.2.r.2.formA k hkt
              obtain ⟨p0, p1, hyp⟩ := HW2.out.2.r.2.penA k hkt
              obtain ⟨d2, hy2⟩ := HW2.out.2.x.1.secA s hst
              rw [HT.out.1] at d2 hy2
              simp only at d2 hy2
              obtain ⟨q, hq⟩ : ∃ q, fs.getD k de = q := ⟨_, rfl⟩
              have HQ : Hid (fs.getD k de = q ∧ True) := ⟨hq, trivial⟩
              rw [hq] at p0 p1 hyp
              clear hq
              obtain ⟨qn, qA, qC, ql⟩ := q
              simp only at p0 p1 hyp
              have HYP : Hid (Byt wr tA tl ∧ Byt wr qA ql) := ⟨hy2, hyp⟩
              clear hy2 hyp
              by_cases hat : qn = (s : Int)
              · have hat2 : (qn == (s : Int)) = true := by rw [hat]; simp
                by_cases hkk : k < ks.length
                · obtain ⟨g4, o4, rfl, hg4, hkc⟩ := HW2.out.2.k.pos k hkk
                  have hkk2 : (k : Int) < (ks.length : Int) := by omega
                  cases hz : ks.getD k false with
                  | false =>
                    rw [hz] at hkc
                    have HZ : Hid (kep false ks k = false ∧ True) := ⟨by simp only [kep, hz, decide_eq_true hkk]; rfl, trivial⟩
                    clear hz
                    go_wp2
                    go_quiet (fail)
                    go_wp2
                    go_roundw
                    case rel => exact ⟨false, k + 1, _, by omega, rfl, by go_num, by rw [HW2.out.1, World.drewN_drewN], HFI.out.no (by rw [HZ.out.1]; simp)⟩
                    case measure => simp [intOf]; omega
                  | true =>
                    rw [hz] at hkc
                    clear hz
                    have HFA : Hid (FI ts fs ks s (k + 1) (smB tl ql)) := by
                      have h9 := HFI.out.at
                      rw [HT.out.1, HQ.out.1] at h9
                      exact h9
                    go_wp2
                    go_quiet (first | (go_at_call 12; refine Calls.quiet_of_same (same_is tA qA tC qC tl ql _ (HYP.out.1.drewN _) (HYP.out.2.drewN _))))
                    go_wp2
                    go_roundw
                    case rel => exact ⟨_, k + 1, _, by omega, rfl, by go_num, by rw [HW2.out.1, World.drewN_drewN], HFA.out⟩
                    case measure => simp [intOf]; omega
                · have hkk2 : ¬ (k : Int) < (ks.length : Int) := by omega
                  have HZ : Hid (kep false ks k = false ∧ True) := ⟨by simp only [kep, decide_eq_false hkk]; rfl, trivial⟩
                  go_wp2
                  go_quiet (fail)
                  go_wp2
                  go_roundw
                  case rel => exact ⟨false, k + 1, _, by omega, rfl, by go_num, by rw [HW2.out.1, World.drewN_drewN], HFI.out.no (by rw [HZ.out.1]; simp)⟩
                  case measure => simp [intOf]; omega
              · have hat2 : (qn == (s : Int)) = false := by rw [beq_eq_false_iff_ne]; exact hat
                have HAT : Hid (¬ qn = (s : Int)) := hat
                clear hat
                go_wp2
                go_quiet (fail)
                go_wp2
                go_roundw
                case rel => exact ⟨false, k + 1, _, by omega, rfl, by go_num, by rw [HW2.out.1, World.drewN_drewN], HFI.out.no (by rintro ⟨-, h9⟩; rw [HQ.out.1] at h9; exact HAT.out h9)⟩
                case measure => simp [intOf]; omega
          · have hkf : k = fs.length := by omega
            subst hkf
            obtain rfl := HFI.out.end
            go_wp2
            go_roundw
            case rel => exact ⟨s + 1, m2, by omega, by go_num, HW2.out.1⟩
            case measure => simp [intOf]; omega
      · have hse : s = es.length := by omega
        subst hse
        generalize wr = V at *
        obtain ⟨W4, hmk, hob, hb4⟩ := run_make_bo V fs.length (by omega)
        have H4 : Hid (OwBo W4 V.heap.size V.heap.size fs.length (List.replicate fs.length false) ∧ Below V.heap.size V W4) := ⟨hob, hb4⟩
        have HRK : Hid (rok es fs = true ∧ True) := ⟨rok_yes HOK.out.1, trivial⟩
        clear hob hb4
        go_wp2
        go_loopw [13] (fun i wr3 => ∃ (k : Nat) (l : List Bool), k ≤ fs.length ∧ i = .int .i64 k ∧ (l.length = fs.length ∧ ∀ j, j < k → l.getD j false = true) ∧ OwBo wr3 V.heap.size V.heap.size fs.length l ∧ Below V.heap.size V wr3) (fun i _ => fs.length - (intOf i).toNat)
        case atStart => exact ⟨0, _, Nat.zero_le _, rfl, ⟨by simp, by simp⟩, H4.out.1, H4.out.2⟩
        case round =>
          clear H4 hmk x0 x1 xl y0 y1 yl
          obtain ⟨k, l, hk, rfl, hll, how, hbv⟩ := hrel
          have HL : Hid (l.length = fs.length ∧ ∀ j, j < k → l.getD j false = true) := hll
          have HO : Hid (OwBo wr V.heap.size V.heap.size fs.length l ∧ Below V.heap.size V wr) := ⟨how, hbv⟩
          clear hll hbv
          by_cases hkt : k < fs.length
          · have hc := how.cell k (by rw [HL.out.1]; exact hkt)
            have hf := how.frozen k
            have hkt2 : (k : Int) < (fs.length : Int) := by omega
            have HF : Hid (((l.set k true).length = fs.length ∧ ∀ j, j < k + 1 → (l.set k true).getD j false = true) ∧ OwBo (wr.setCell ⟨V.heap.size, k, none⟩ (.bool true)) V.heap.size V.heap.size fs.length (l.set k true) ∧ Below V.heap.size V (wr.setCell ⟨V.heap.size, k, none⟩ (.bool true))) := by
              refine ⟨⟨by rw [List.length_set]; exact HL.out.1, fun j hj => ?_⟩, how.store k true, HO.out.2.setCell (p := ⟨V.heap.size, k, none⟩) (by simp) _⟩
              by_cases he : k = j
              · subst he
                rw [List.getD_eq_getElem?_getD, List.getElem?_set_self (by rw [HL.out.1]; exact hkt)]
                rfl
              · rw [List.getD_eq_getElem?_getD, List.getElem?_set_ne he, ← List.getD_eq_getElem?_getD]
                exact HL.out.2 j (by omega)
            clear how
            go_wp2
            go_roundw
            case rel => exact ⟨k + 1, l.set k true, by omega, by go_num, HF.out.1, HF.out.2.1, HF.out.2.2⟩
            case measure => simp [intOf]; omega
          · have hkf : k = fs.length := by omega
            subst hkf
            have HC5 : Hid (CrF w wr X1 X2 sa pa sc pc es fs ta qa tc qc ts ka ks) := HW.out.2.step HO.out.2
            have HCR := implRawCrash_any sa pa sc pc es fs (some ⟨V.heap.size, 0, none⟩) fs.length l wr HC5.out.r how.bos (by omega) (by omega) HLL.out.1 HLL.out.2 (by rw [HL.out.1]; omega)
            rw [show crB es fs l = true from HRK.out.1, HL.out.1] at HCR
            obtain ⟨x0, x1, -, -, xl⟩ := HC5.out.b1
            clear how
            go_wp2_with fail
            refine HCR.mono ?_
            clear HCR x0 x1 xl
            rintro e w5 ⟨⟨v, u, ys, qs, rfl, ⟨hcy, hcq⟩, hro⟩, hb5⟩
            have hq0 : qs = [] := List.map_eq_nil_iff.1 hcq
            subst hq0
            obtain ⟨ya, yc, yp, yq, rfl, rfl⟩ := hro.form
            have hA5 : Below w5.heap.size w5 (w5.alloc (Obj.cells #[.slice ya ys.length yc, .slice yp 0 yq] 26)) := (Below.refl _ _).alloc (Nat.le_refl _) _
            have hb55 : Below wr.heap.size wr (w5.alloc (Obj.cells #[.slice ya ys.length yc, .slice yp 0 yq] 26)) := hb5.trans (hA5.mono hb5.size)
            have H5 : Hid (CrF w (w5.alloc (Obj.cells #[.slice ya ys.length yc, .slice yp 0 yq] 26)) X1 X2 sa pa sc pc es fs ta qa tc qc ts ka ks ∧ RawI (w5.alloc (Obj.cells #[.slice ya ys.length yc, .slice yp 0 yq] 26)) ya yp ys [] ∧ Box2 (w5.alloc (Obj.cells #[.slice ya ys.length yc, .slice yp 0 yq] 26)) w5.heap.size (.slice ya ys.length yc) (.slice yp 0 yq)) := ⟨HC5.out.step hb55, hro.inn.below hA5 (Nat.le_refl _), Box2.new _ _ _ _⟩
            have HCY : Hid (ys.map El.ct = (setl es fs (kep true []) fs.length).map El.ct ∧ True) := by
              refine ⟨?_, trivial⟩
              rw [hcy, show crS es fs l = (setl es fs (kep false l) fs.length).map El.ct from se_yes HRK.out.1 _ _, setl_ext (f := kep false l) (g := kep true []) fs.length (fun i hi => ?_)]
              have h9 := HL.out.2 i hi
              simp only [kep, h9, decide_eq_true (show i < l.length by rw [HL.out.1]; exact hi)]
              rfl
            clear hA5 hb55 hro hb5 hcy hcq HC5
            have HBR := implRawBarrier_any sa pa sc pc es fs _ H5.out.1.r (by omega) (by omega) HLL.out.1 HLL.out.2
            rw [show brB es fs = true from HRK.out.1] at HBR
            obtain ⟨x0, x1, -, -, xl⟩ := H5.out.1.b1
            go_wp2_with fail
            generalize w5.alloc (Obj.cells #[.slice ya ys.length yc, .slice yp 0 yq] 26) = W5 at *
            generalize w5.heap.size = X5 at *
            refine HBR.mono ?_
            clear HBR x0 x1 xl
            rintro e w6 ⟨⟨v, u, zs, qs, rfl, ⟨hcz, hcq⟩, hro⟩, hb6⟩
            have hq0 : qs = [] := List.map_eq_nil_iff.1 hcq
            subst hq0
            have hcz2 : ys.map El.ct = zs.map El.ct := by
              rw [HCY.out.1, hcz]
              exact (se_yes HRK.out.1 _ _).symm
            have hyl : ys.length = es.length := by rw [len_ctE HCY.out.1, setl_len]
            obtain ⟨za, zc, zp, zq, rfl, rfl⟩ := hro.form
            rw [← len_ctE hcz2]
            have hA6 : Below w6.heap.size w6 (w6.alloc (Obj.cells #[.slice za ys.length zc, .slice zp 0 zq] 26)) := (Below.refl _ _).alloc (Nat.le_refl _) _
            have hb66 : Below W5.heap.size W5 (w6.alloc (Obj.cells #[.slice za ys.length zc, .slice zp 0 zq] 26)) := hb6.trans (hA6.mono hb6.size)
            have hcf := H5.out.1.step hb66
            have HSR := sameRaw_yes0 ya yp za zp yc yq zc zq ys zs _ (H5.out.2.1.1.below hb66 (Nat.le_refl _)) (hro.inn.1.below hA6 (Nat.le_refl _)) hcz2 (by omega)
            have H6 : Hid (Below w.heap.size w (w6.alloc (Obj.cells #[.slice za ys.length zc, .slice zp 0 zq] 26)) ∧ True) := ⟨hcf.bel, trivial⟩
            obtain ⟨y0, y1, -, -, yl⟩ := H5.out.1.b2.keep hb6 H5.out.1.b2.lt
            obtain ⟨u0, u1, -, -, ul⟩ := H5.out.2.2.keep hb6 H5.out.2.2.lt
            clear hA6 hb66 hro hb6 hcz hcz2 hcf hcq hyl
            go_wp2_with fail
            refine HSR.mono ?_
            clear HSR
            rintro e w7 ⟨rfl, hb7⟩
            have H7 : Hid (Below w.heap.size w w7 ∧ True) := ⟨H6.out.1.trans (hb7.mono H6.out.1.size), trivial⟩
            clear hb7 H6 H5
            go_wp2
            go_ret
            exact ⟨rfl, H7.out.1⟩
end Go.Proofs.Ytklpjdeccplhbaa
