/-
  The law on drawn writes returns true, whatever is handed in, and writes nothing that was there.
-/
import Derived.Test.YtpedfcknmeeknaaDrWrite
import Derived.Test.YtpedfcknmeeknaaRwAt
namespace Go.Proofs.Ytpedfcknmeeknaa
open Go.RowKit
set_option linter.unusedVariables false
set_option linter.unusedSimpArgs false

theorem bos_nil {w : World} : Bos w none [] := fun h => absurd h (by simp)
set_option maxRecDepth 20000 in
set_option maxHeartbeats 8000000 in
theorem lawFnRaws_any (a : Option Addr) (cap : Nat) (bs : List Int) (w : World) (hb : Byt w a bs) (hm : bs.length ≤ maxLen) :
    Calls Try.prog 3 #[.slice a bs.length cap] w fun e w' => e = .returned (.bool true) ∧ Below w.heap.size w w' := by
  go_enter Try.func3, Try.ntmps3
  go_wp2_with fail
  refine (drawRawWrite_any a bs cap w hb hm).mono ?_
  clear hb hm
  rintro e w1 ⟨sa, sc, pa, pc, es, fs, x, ba, bc, zs, rfl, hri, hby, ⟨h5, h61, h256, hz6, hx1, hx6⟩, hb1⟩
  have hA : Below w1.heap.size w1 (w1.alloc (Obj.cells #[.slice sa es.length sc, .slice pa fs.length pc] 26)) := (Below.refl _ _).alloc (Nat.le_refl _) _
  have H1 : Hid (Below w.heap.size w (w1.alloc (Obj.cells #[.slice sa es.length sc, .slice pa fs.length pc] 26)) ∧ DvF (w1.alloc (Obj.cells #[.slice sa es.length sc, .slice pa fs.length pc] 26)) w1.heap.size sa pa sc pc es.length fs.length es fs ∧ Byt (w1.alloc (Obj.cells #[.slice sa es.length sc, .slice pa fs.length pc] 26)) ba zs) := ⟨hb1.trans (hA.mono hb1.size), ⟨hri.below hA (Nat.le_refl _), Box2.new _ _ _ _⟩, hby.below hA (Nat.le_refl _)⟩
  have HLL : Hid ((∀ s ∈ es, s.ls.length ≤ 281474976710656) ∧ ∀ s ∈ fs, s.ls.length ≤ 281474976710656) := ⟨fun s hs => by have := h256 s (List.mem_append_left _ hs); omega, fun s hs => by have := h256 s (List.mem_append_right _ hs); omega⟩
  have HWR := implRawWrite_any sa pa sc pc es fs x ba bc zs _ H1.out.2.1.i H1.out.2.2 (by omega) (by omega) (by omega) HLL.out.1 HLL.out.2 (by omega)
  clear hri hby hb1 hA h256
  by_cases hk : rok es fs = true ∧ 0 ≤ x ∧ x < (es.length : Int) ∧ zs.length = 256 ∧ fs.length < 60

  · obtain ⟨i, rfl⟩ := Int.eq_ofNat_of_zero_le hk.2.1
    have h1 := wr_yes hk.1 hk.2
    rw [h1.1, h1.2.1, h1.2.2] at HWR
    have HKK0 : Hid (Rok es fs ∧ (i : Int) < (es.length : Int) ∧ zs.length = 256 ∧ fs.length < 60) := ⟨rok_ok hk.1, hk.2.2.1, hk.2.2.2.1, hk.2.2.2.2⟩
    clear h1 hk
    go_wp2_with fail
    generalize (w1.alloc (Obj.cells #[.slice sa es.length sc, .slice pa fs.length pc] 26)) = W1 at *
    generalize w1.heap.size = X1 at *
    refine HWR.mono ?_
    clear HWR
    rintro e v2 ⟨⟨v, u, ts, qs, rfl, ⟨hct, hcq⟩, hro⟩, hb2⟩
    obtain ⟨hRk, hil, hz256, hf60⟩ := HKK0.out
    have hil2 : i < es.length := by omega
    have hts : ts.length = es.length := len_ctE hct
    have hqs : qs.length = fs.length + 1 := by have := congrArg List.length hcq; simpa using this
    obtain ⟨ta, tc, qa, qc, rfl, rfl⟩ := hro.form
    rw [hts, hqs]
    have hcq2 : qs.map El.ct = (fs ++ [(⟨(i : Int), none, 0, zs⟩ : El)]).map El.ct := by rw [hcq, List.map_append]; rfl
    have HX : Hid (Rok ts qs ∧ ts.length = es.length ∧ qs.length = fs.length + 1 ∧ ts.map El.ct = es.map El.ct ∧ qs.map El.ct = (fs ++ [(⟨(i : Int), none, 0, zs⟩ : El)]).map El.ct ∧ Rok es fs) := ⟨Rok.ct hct hcq2 (hRk.more hf60 (by simp) hil hz256), hts, hqs, hct, hcq2, hRk⟩
    have HRI : Hid (∀ s : Nat, (rdE ts qs (s : Int)).ls = if i = s then zs else (rdE es fs (s : Int)).ls) := by
      intro s
      rw [rdE_ct hct hcq2, rdE_write]
      by_cases he : i = s
      · subst he
        simp
      · rw [if_neg (by simp only; omega), if_neg he]
    have hA2 : Below v2.heap.size v2 (v2.alloc (Obj.cells #[.slice ta es.length tc, .slice qa (fs.length + 1) qc] 26)) := (Below.refl _ _).alloc (Nat.le_refl _) _
    have hbn := hb2.trans (hA2.mono hb2.size)
    have H2 : Hid (Below w.heap.size w (v2.alloc (Obj.cells #[.slice ta es.length tc, .slice qa (fs.length + 1) qc] 26)) ∧ DvF (v2.alloc (Obj.cells #[.slice ta es.length tc, .slice qa (fs.length + 1) qc] 26)) X1 sa pa sc pc es.length fs.length es fs ∧ Byt (v2.alloc (Obj.cells #[.slice ta es.length tc, .slice qa (fs.length + 1) qc] 26)) ba zs ∧ DvF (v2.alloc (Obj.cells #[.slice ta es.length tc, .slice qa (fs.length + 1) qc] 26)) v2.heap.size ta qa tc qc es.length (fs.length + 1) ts qs) := ⟨H1.out.1.trans (hbn.mono H1.out.1.size), H1.out.2.1.step hbn, H1.out.2.2.below hbn (Nat.le_refl _), ⟨hro.inn.below hA2 (Nat.le_refl _), Box2.new _ _ _ _⟩⟩
    have HI : Hid (i < es.length ∧ zs.length = 256 ∧ fs.length < 60) := ⟨hil2, hz256, hf60⟩
    clear hA2 hbn hro hb2 hct hcq H1 hts hqs hcq2 hRk hil hil2 hz256 hf60 HKK0
    have HNW := implRawNew_any 2 (v2.alloc (Obj.cells #[.slice ta es.length tc, .slice qa (fs.length + 1) qc] 26))
    rw [show newB 2 = true from by decide, show newN 2 = 2 from by decide] at HNW
    go_wp2_with fail
    generalize (v2.alloc (Obj.cells #[.slice ta es.length tc, .slice qa (fs.length + 1) qc] 26)) = W2 at *
    generalize v2.heap.size = X2 at *
    refine HNW.mono ?_
    clear HNW
    rintro e v3 ⟨⟨v3v, ms, rfl, hc3, hr3⟩, hb3⟩
    have hm2 := Rok.new hc3 (by omega) (by omega)
    obtain ⟨ma, mc, -, -, rfl, -⟩ := hr3.form
    rw [hm2.2]
    have hA3 : Below v3.heap.size v3 (v3.alloc (Obj.cells #[.slice ma 2 mc, .slice none 0 0] 26)) := (Below.refl _ _).alloc (Nat.le_refl _) _
    have hbn := hb3.trans (hA3.mono hb3.size)
    have H3 : Hid (Below w.heap.size w (v3.alloc (Obj.cells #[.slice ma 2 mc, .slice none 0 0] 26)) ∧ DvF (v3.alloc (Obj.cells #[.slice ma 2 mc, .slice none 0 0] 26)) X1 sa pa sc pc es.length fs.length es fs ∧ Byt (v3.alloc (Obj.cells #[.slice ma 2 mc, .slice none 0 0] 26)) ba zs ∧ DvF (v3.alloc (Obj.cells #[.slice ma 2 mc, .slice none 0 0] 26)) X2 ta qa tc qc es.length (fs.length + 1) ts qs) := ⟨H2.out.1.trans (hbn.mono H2.out.1.size), H2.out.2.1.step hbn, H2.out.2.2.1.below hbn (Nat.le_refl _), H2.out.2.2.2.step hbn⟩
    have HOK := implRawOk_any ma none mc 0 ms [] (v3.alloc (Obj.cells #[.slice ma 2 mc, .slice none 0 0] 26)) (hr3.inn.below hA3 (Nat.le_refl _)) (by omega) (by simp) (fun s hs => by have := hm2.1.lens.1 s hs; omega) (by simp)
    rw [hm2.2, rok_yes hm2.1] at HOK
    simp only [List.length_nil] at HOK
    clear hc3 hr3 hb3 hA3 hbn hm2 H2
    go_wp2_with fail
    generalize (v3.alloc (Obj.cells #[.slice ma 2 mc, .slice none 0 0] 26)) = W3 at *
    generalize v3.heap.size = X3 at *
    refine HOK.mono ?_
    clear HOK
    rintro e V4 ⟨rfl, hbn⟩
    have H4 : Hid (Below w.heap.size w V4 ∧ DvF V4 X1 sa pa sc pc es.length fs.length es fs ∧ Byt V4 ba zs ∧ DvF V4 X2 ta qa tc qc es.length (fs.length + 1) ts qs) := ⟨H3.out.1.trans (hbn.mono H3.out.1.size), H3.out.2.1.step hbn, H3.out.2.2.1.below hbn (Nat.le_refl _), H3.out.2.2.2.step hbn⟩
    clear hbn H3
    have HC := readAt ta qa tc qc es.length (fs.length + 1) ts qs i zs V4 H4.out.2.2.2.i HX.out.1 HX.out.2.1 HX.out.2.2.1 HI.out.1 (by rw [HRI.out, if_pos rfl])
    obtain ⟨x0, x1, -, -, xl⟩ := H4.out.2.2.2.b
    go_wp2_with fail
    refine HC.mono ?_
    clear HC x0 x1 xl
    rintro e V5 ⟨⟨aa, ac, rfl, hya⟩, hbn⟩
    have H5 : Hid (Below w.heap.size w V5 ∧ DvF V5 X1 sa pa sc pc es.length fs.length es fs ∧ Byt V5 ba zs ∧ DvF V5 X2 ta qa tc qc es.length (fs.length + 1) ts qs ∧ Byt V5 aa zs) := ⟨H4.out.1.trans (hbn.mono H4.out.1.size), H4.out.2.1.step hbn, H4.out.2.2.1.below hbn (Nat.le_refl _), H4.out.2.2.2.step hbn, hya⟩
    clear hbn H4 hya
    have HC := barrierAt ta qa tc qc es.length (fs.length + 1) ts qs V5 H5.out.2.2.2.1.i HX.out.1 HX.out.2.1 HX.out.2.2.1
    obtain ⟨x0, x1, -, -, xl⟩ := H5.out.2.2.2.1.b
    go_wp2_with fail
    refine HC.mono ?_
    clear HC x0 x1 xl
    rintro e v6 ⟨⟨ya, yp, yc, yq, ys, rfl, ⟨hcy, hyn, hyo⟩, hyi⟩, hbq⟩
    have HMY : Hid ((Rok ys [] ∧ ys.length = es.length) ∧ ∀ s : Nat, s < es.length → (rdE ys [] (s : Int)).ls = if i = s then zs else (rdE es fs (s : Int)).ls) := ⟨⟨hyo, hyn⟩, fun s hs => by rw [rdE_barrier HX.out.1 hcy s (by rw [HX.out.2.1]; exact hs), HRI.out]⟩
    have hA2 : Below v6.heap.size v6 (v6.alloc (Obj.cells #[.slice ya es.length yc, .slice yp 0 yq] 26)) := (Below.refl _ _).alloc (Nat.le_refl _) _
    have hbn := hbq.trans (hA2.mono hbq.size)
    have H6 : Hid (Below w.heap.size w (v6.alloc (Obj.cells #[.slice ya es.length yc, .slice yp 0 yq] 26)) ∧ DvF (v6.alloc (Obj.cells #[.slice ya es.length yc, .slice yp 0 yq] 26)) X1 sa pa sc pc es.length fs.length es fs ∧ Byt (v6.alloc (Obj.cells #[.slice ya es.length yc, .slice yp 0 yq] 26)) ba zs ∧ DvF (v6.alloc (Obj.cells #[.slice ya es.length yc, .slice yp 0 yq] 26)) X2 ta qa tc qc es.length (fs.length + 1) ts qs ∧ Byt (v6.alloc (Obj.cells #[.slice ya es.length yc, .slice yp 0 yq] 26)) aa zs ∧ DvF (v6.alloc (Obj.cells #[.slice ya es.length yc, .slice yp 0 yq] 26)) v6.heap.size ya yp yc yq es.length 0 ys []) := ⟨H5.out.1.trans (hbn.mono H5.out.1.size), H5.out.2.1.step hbn, H5.out.2.2.1.below hbn (Nat.le_refl _), H5.out.2.2.2.1.step hbn, H5.out.2.2.2.2.below hbn (Nat.le_refl _), ⟨hyi.below hA2 (Nat.le_refl _), Box2.new _ _ _ _⟩⟩
    clear hbn hbq hA2 H5
    clear hcy hyn hyo hyi
    have HC := readAt ya yp yc yq es.length 0 ys [] i zs (v6.alloc (Obj.cells #[.slice ya es.length yc, .slice yp 0 yq] 26)) H6.out.2.2.2.2.2.i HMY.out.1.1 HMY.out.1.2 rfl HI.out.1 (by rw [HMY.out.2 i HI.out.1, if_pos rfl])
    obtain ⟨x0, x1, -, -, xl⟩ := H6.out.2.2.2.2.2.b
    go_wp2_with fail
    generalize (v6.alloc (Obj.cells #[.slice ya es.length yc, .slice yp 0 yq] 26)) = W6 at *
    generalize v6.heap.size = X4 at *
    refine HC.mono ?_
    clear HC x0 x1 xl
    rintro e V7 ⟨⟨ab, bcc, rfl, hyb⟩, hbn⟩
    have H7 : Hid (Below w.heap.size w V7 ∧ DvF V7 X1 sa pa sc pc es.length fs.length es fs ∧ Byt V7 ba zs ∧ DvF V7 X2 ta qa tc qc es.length (fs.length + 1) ts qs ∧ Byt V7 aa zs ∧ DvF V7 X4 ya yp yc yq es.length 0 ys [] ∧ Byt V7 ab zs) := ⟨H6.out.1.trans (hbn.mono H6.out.1.size), H6.out.2.1.step hbn, H6.out.2.2.1.below hbn (Nat.le_refl _), H6.out.2.2.2.1.step hbn, H6.out.2.2.2.2.1.below hbn (Nat.le_refl _), H6.out.2.2.2.2.2.step hbn, hyb⟩
    clear hbn H6 hyb
    obtain ⟨V8, hmk, hob, hb8⟩ := run_make_bo V7 (fs.length + 1) (by have := HI.out.2.2; omega)
    have hmk2 := hmk
    simp only [Int.natCast_add, Int.natCast_one] at hmk2
    obtain ⟨K, hK⟩ : ∃ K, K = (List.replicate (fs.length + 1) false).set fs.length true := ⟨_, rfl⟩
    have hbn : Below V7.heap.size V7 (V8.setCell ⟨V7.heap.size, fs.length, none⟩ (.bool true)) := hb8.setCell (p := ⟨V7.heap.size, fs.length, none⟩) (by simp) _
    have HKK : Hid (Bos (V8.setCell ⟨V7.heap.size, fs.length, none⟩ (.bool true)) (some ⟨V7.heap.size, 0, none⟩) K ∧ K.length = fs.length + 1 ∧ kep false K fs.length = true) := by
      refine ⟨by rw [hK]; exact (hob.store fs.length true).bos, by rw [hK]; simp, ?_⟩
      rw [hK]
      simp [kep, List.getD_eq_getElem?_getD]
    have H9 : Hid (Below w.heap.size w (V8.setCell ⟨V7.heap.size, fs.length, none⟩ (.bool true)) ∧ DvF (V8.setCell ⟨V7.heap.size, fs.length, none⟩ (.bool true)) X1 sa pa sc pc es.length fs.length es fs ∧ Byt (V8.setCell ⟨V7.heap.size, fs.length, none⟩ (.bool true)) ba zs ∧ DvF (V8.setCell ⟨V7.heap.size, fs.length, none⟩ (.bool true)) X2 ta qa tc qc es.length (fs.length + 1) ts qs ∧ Byt (V8.setCell ⟨V7.heap.size, fs.length, none⟩ (.bool true)) aa zs ∧ DvF (V8.setCell ⟨V7.heap.size, fs.length, none⟩ (.bool true)) X4 ya yp yc yq es.length 0 ys [] ∧ Byt (V8.setCell ⟨V7.heap.size, fs.length, none⟩ (.bool true)) ab zs) := ⟨H7.out.1.trans (hbn.mono H7.out.1.size), H7.out.2.1.step hbn, H7.out.2.2.1.below hbn (Nat.le_refl _), H7.out.2.2.2.1.step hbn, H7.out.2.2.2.2.1.below hbn (Nat.le_refl _), H7.out.2.2.2.2.2.1.step hbn, H7.out.2.2.2.2.2.2.below hbn (Nat.le_refl _)⟩
    have hcc := hob.cell fs.length (by simp)
    have hff := hob.frozen fs.length
    obtain ⟨x0, x1, -, -, xl⟩ := H7.out.2.2.2.1.b
    clear hob hb8 hbn hK
    obtain ⟨y0, y1, -, -, yl⟩ := H9.out.2.2.2.1.b
    have HC := crashAt ta qa tc qc es.length (fs.length + 1) ts qs (some ⟨V7.heap.size, 0, none⟩) (fs.length + 1) K (fs.length + 1) (V8.setCell ⟨V7.heap.size, fs.length, none⟩ (.bool true)) H9.out.2.2.2.1.i HKK.out.1 HX.out.1 HX.out.2.1 HX.out.2.2.1 HKK.out.2.1 (by have := HI.out.2.2; omega)
    go_wp2_with fail
    refine HC.mono ?_
    clear HC hmk hmk2 hcc hff x0 x1 xl y0 y1 yl H7
    generalize (V8.setCell ⟨V7.heap.size, fs.length, none⟩ (.bool true)) = V9 at *
    rintro e v10 ⟨⟨za, zp, zc, zq, ws, rfl, ⟨hcz, hzn, hzo⟩, hzi⟩, hbq⟩
    have HMZ : Hid ((Rok ws [] ∧ ws.length = es.length) ∧ (rdE ws [] (i : Int)).ls = zs) := by
      refine ⟨⟨hzo, hzn⟩, ?_⟩
      have h1 := ctE_get hcz i
      have h2 := ctE_get HX.out.2.2.2.2.1 fs.length
      rw [show (fs ++ [(⟨(i : Int), none, 0, zs⟩ : El)]).getD fs.length de = (⟨(i : Int), none, 0, zs⟩ : El) from by rw [List.getD_eq_getElem?_getD, List.getElem?_append_right (Nat.le_refl _), Nat.sub_self]; rfl] at h2
      simp only [El.ct, Prod.mk.injEq] at h1 h2
      rw [rdE_nil, h1.2, setl_last fs.length HKK.out.2.2 i (by rw [HX.out.2.1]; exact HI.out.1) h2.1, h2.2]
    have hA2 : Below v10.heap.size v10 (v10.alloc (Obj.cells #[.slice za es.length zc, .slice zp 0 zq] 26)) := (Below.refl _ _).alloc (Nat.le_refl _) _
    have hbn := hbq.trans (hA2.mono hbq.size)
    have H10 : Hid (Below w.heap.size w (v10.alloc (Obj.cells #[.slice za es.length zc, .slice zp 0 zq] 26)) ∧ DvF (v10.alloc (Obj.cells #[.slice za es.length zc, .slice zp 0 zq] 26)) X1 sa pa sc pc es.length fs.length es fs ∧ Byt (v10.alloc (Obj.cells #[.slice za es.length zc, .slice zp 0 zq] 26)) ba zs ∧ DvF (v10.alloc (Obj.cells #[.slice za es.length zc, .slice zp 0 zq] 26)) X2 ta qa tc qc es.length (fs.length + 1) ts qs ∧ Byt (v10.alloc (Obj.cells #[.slice za es.length zc, .slice zp 0 zq] 26)) aa zs ∧ DvF (v10.alloc (Obj.cells #[.slice za es.length zc, .slice zp 0 zq] 26)) X4 ya yp yc yq es.length 0 ys [] ∧ Byt (v10.alloc (Obj.cells #[.slice za es.length zc, .slice zp 0 zq] 26)) ab zs ∧ DvF (v10.alloc (Obj.cells #[.slice za es.length zc, .slice zp 0 zq] 26)) v10.heap.size za zp zc zq es.length 0 ws []) := ⟨H9.out.1.trans (hbn.mono H9.out.1.size), H9.out.2.1.step hbn, H9.out.2.2.1.below hbn (Nat.le_refl _), H9.out.2.2.2.1.step hbn, H9.out.2.2.2.2.1.below hbn (Nat.le_refl _), H9.out.2.2.2.2.2.1.step hbn, H9.out.2.2.2.2.2.2.below hbn (Nat.le_refl _), ⟨hzi.below hA2 (Nat.le_refl _), Box2.new _ _ _ _⟩⟩
    clear hbn hbq hA2 H9 hcz hzn hzo hzi HKK
    have HC := readAt za zp zc zq es.length 0 ws [] i zs (v10.alloc (Obj.cells #[.slice za es.length zc, .slice zp 0 zq] 26)) H10.out.2.2.2.2.2.2.2.i HMZ.out.1.1 HMZ.out.1.2 rfl HI.out.1 HMZ.out.2
    obtain ⟨x0, x1, -, -, xl⟩ := H10.out.2.2.2.2.2.2.2.b
    go_wp2_with fail
    generalize (v10.alloc (Obj.cells #[.slice za es.length zc, .slice zp 0 zq] 26)) = W10 at *
    generalize v10.heap.size = X5 at *
    refine HC.mono ?_
    clear HC x0 x1 xl
    rintro e V11 ⟨⟨ag, gc, rfl, hyg⟩, hbn⟩
    have H11 : Hid (Below w.heap.size w V11 ∧ DvF V11 X1 sa pa sc pc es.length fs.length es fs ∧ Byt V11 ba zs ∧ DvF V11 X2 ta qa tc qc es.length (fs.length + 1) ts qs ∧ Byt V11 aa zs ∧ DvF V11 X4 ya yp yc yq es.length 0 ys [] ∧ Byt V11 ab zs ∧ DvF V11 X5 za zp zc zq es.length 0 ws [] ∧ Byt V11 ag zs) := ⟨H10.out.1.trans (hbn.mono H10.out.1.size), H10.out.2.1.step hbn, H10.out.2.2.1.below hbn (Nat.le_refl _), H10.out.2.2.2.1.step hbn, H10.out.2.2.2.2.1.below hbn (Nat.le_refl _), H10.out.2.2.2.2.2.1.step hbn, H10.out.2.2.2.2.2.2.1.below hbn (Nat.le_refl _), H10.out.2.2.2.2.2.2.2.step hbn, hyg⟩
    clear hbn H10 hyg
    have HC := crashAt ta qa tc qc es.length (fs.length + 1) ts qs none 0 [] 0 V11 H11.out.2.2.2.1.i bos_nil HX.out.1 HX.out.2.1 HX.out.2.2.1 rfl (by omega)
    obtain ⟨x0, x1, -, -, xl⟩ := H11.out.2.2.2.1.b
    go_wp2_with fail
    refine HC.mono ?_
    clear HC x0 x1 xl
    rintro e v12 ⟨⟨ua, up, uc, uq, us, rfl, ⟨hcu, hun, huo⟩, hui⟩, hbq⟩
    have HMU : Hid (us.map El.ct = es.map El.ct ∧ us.length = es.length) := ⟨by rw [hcu, setl_none _ (fun j hj => by simp [kep])]; exact HX.out.2.2.2.1, hun⟩
    have hA2 : Below v12.heap.size v12 (v12.alloc (Obj.cells #[.slice ua es.length uc, .slice up 0 uq] 26)) := (Below.refl _ _).alloc (Nat.le_refl _) _
    have hbn := hbq.trans (hA2.mono hbq.size)
    have H12 : Hid (Below w.heap.size w (v12.alloc (Obj.cells #[.slice ua es.length uc, .slice up 0 uq] 26)) ∧ DvF (v12.alloc (Obj.cells #[.slice ua es.length uc, .slice up 0 uq] 26)) X1 sa pa sc pc es.length fs.length es fs ∧ Byt (v12.alloc (Obj.cells #[.slice ua es.length uc, .slice up 0 uq] 26)) ba zs ∧ DvF (v12.alloc (Obj.cells #[.slice ua es.length uc, .slice up 0 uq] 26)) X2 ta qa tc qc es.length (fs.length + 1) ts qs ∧ Byt (v12.alloc (Obj.cells #[.slice ua es.length uc, .slice up 0 uq] 26)) aa zs ∧ DvF (v12.alloc (Obj.cells #[.slice ua es.length uc, .slice up 0 uq] 26)) X4 ya yp yc yq es.length 0 ys [] ∧ Byt (v12.alloc (Obj.cells #[.slice ua es.length uc, .slice up 0 uq] 26)) ab zs ∧ DvF (v12.alloc (Obj.cells #[.slice ua es.length uc, .slice up 0 uq] 26)) X5 za zp zc zq es.length 0 ws [] ∧ Byt (v12.alloc (Obj.cells #[.slice ua es.length uc, .slice up 0 uq] 26)) ag zs ∧ DvF (v12.alloc (Obj.cells #[.slice ua es.length uc, .slice up 0 uq] 26)) v12.heap.size ua up uc uq es.length 0 us []) := ⟨H11.out.1.trans (hbn.mono H11.out.1.size), H11.out.2.1.step hbn, H11.out.2.2.1.below hbn (Nat.le_refl _), H11.out.2.2.2.1.step hbn, H11.out.2.2.2.2.1.below hbn (Nat.le_refl _), H11.out.2.2.2.2.2.1.step hbn, H11.out.2.2.2.2.2.2.1.below hbn (Nat.le_refl _), H11.out.2.2.2.2.2.2.2.1.step hbn, H11.out.2.2.2.2.2.2.2.2.below hbn (Nat.le_refl _), ⟨hui.below hA2 (Nat.le_refl _), Box2.new _ _ _ _⟩⟩
    clear hbn hbq hA2 H11
    clear hcu hun huo hui
    have h256 := HI.out.2.1
    have HS1 := same_is aa ba ac bc zs zs (v12.alloc (Obj.cells #[.slice ua es.length uc, .slice up 0 uq] 26)) H12.out.2.2.2.2.1 H12.out.2.2.1
    have HS2 := same_is ab ba bcc bc zs zs (v12.alloc (Obj.cells #[.slice ua es.length uc, .slice up 0 uq] 26)) H12.out.2.2.2.2.2.2.1 H12.out.2.2.1
    have HS3 := same_is ag ba gc bc zs zs (v12.alloc (Obj.cells #[.slice ua es.length uc, .slice up 0 uq] 26)) H12.out.2.2.2.2.2.2.2.2.1 H12.out.2.2.1
    have HSA := sameAll_yes ua sa uc sc us es (v12.alloc (Obj.cells #[.slice ua es.length uc, .slice up 0 uq] 26)) H12.out.2.2.2.2.2.2.2.2.2.i.1 H12.out.2.1.i.1 HMU.out.1 (by rw [HMU.out.2]; omega)
    rw [smB_self] at HS1 HS2 HS3
    rw [HMU.out.2] at HSA
    obtain ⟨x0, x1, -, -, xl⟩ := H12.out.2.2.2.2.2.1.b
    obtain ⟨y0, y1, -, -, yl⟩ := H12.out.2.2.2.2.2.2.2.2.2.b
    obtain ⟨r0, r1, -, -, rl⟩ := H12.out.2.1.b
    clear h256
    go_wp2_with fail
    generalize (v12.alloc (Obj.cells #[.slice ua es.length uc, .slice up 0 uq] 26)) = W12 at *
    generalize v12.heap.size = X6 at *
    refine HS1.mono ?_
    clear HS1
    rintro e _ ⟨rfl, rfl⟩
    go_wp2_with fail
    refine HS2.mono ?_
    clear HS2
    rintro e _ ⟨rfl, rfl⟩
    go_wp2_with fail
    refine HS3.mono ?_
    clear HS3
    rintro e _ ⟨rfl, rfl⟩
    go_wp2_with fail
    refine HSA.mono ?_
    clear HSA
    rintro e V13 ⟨rfl, hbn⟩
    have H13 : Hid (Below w.heap.size w V13 ∧ DvF V13 X1 sa pa sc pc es.length fs.length es fs ∧ DvF V13 X2 ta qa tc qc es.length (fs.length + 1) ts qs ∧ DvF V13 X4 ya yp yc yq es.length 0 ys []) := ⟨H12.out.1.trans (hbn.mono H12.out.1.size), H12.out.2.1.step hbn, H12.out.2.2.2.1.step hbn, H12.out.2.2.2.2.2.1.step hbn⟩
    clear hbn H12 x0 x1 xl y0 y1 yl r0 r1 rl
    go_wp2
    go_loopw [23] (fun iv wr => ∃ k : Nat, k ≤ es.length ∧ iv = .int .i64 k ∧ Hid (Below w.heap.size w wr ∧ DvF wr X1 sa pa sc pc es.length fs.length es fs ∧ DvF wr X2 ta qa tc qc es.length (fs.length + 1) ts qs ∧ DvF wr X4 ya yp yc yq es.length 0 ys [])) (fun iv _ => es.length - (intOf iv).toNat)
    case atStart => exact ⟨0, Nat.zero_le _, rfl, H13⟩
    case round =>
      clear H13
      obtain ⟨k, hk, rfl, hrl⟩ := hrel
      have H14 : Hid (Below w.heap.size w wr ∧ DvF wr X1 sa pa sc pc es.length fs.length es fs ∧ DvF wr X2 ta qa tc qc es.length (fs.length + 1) ts qs ∧ DvF wr X4 ya yp yc yq es.length 0 ys []) := hrl
      clear hrl
      obtain ⟨r0, r1, -, -, rl⟩ := H14.out.2.1.b
      by_cases hlt : k < es.length
      · have hlt2 : (k : Int) < (es.length : Int) := by omega
        have HC := readAt sa pa sc pc es.length fs.length es fs k (rdE es fs (k : Int)).ls wr H14.out.2.1.i HX.out.2.2.2.2.2 rfl rfl hlt rfl
        go_wp2_with fail
        refine HC.mono ?_
        clear HC r0 r1 rl
        rintro e V15 ⟨⟨pp, pq, rfl, hyp⟩, hbn⟩
        have H15 : Hid (Below w.heap.size w V15 ∧ DvF V15 X1 sa pa sc pc es.length fs.length es fs ∧ DvF V15 X2 ta qa tc qc es.length (fs.length + 1) ts qs ∧ DvF V15 X4 ya yp yc yq es.length 0 ys [] ∧ Byt V15 pp (rdE es fs (k : Int)).ls) := ⟨H14.out.1.trans (hbn.mono H14.out.1.size), H14.out.2.1.step hbn, H14.out.2.2.1.step hbn, H14.out.2.2.2.step hbn, hyp⟩
        clear hbn H14 hyp
        have HC := readAt ya yp yc yq es.length 0 ys [] k (rdE ys [] (k : Int)).ls V15 H15.out.2.2.2.1.i HMY.out.1.1 HMY.out.1.2 rfl hlt rfl
        obtain ⟨x0, x1, -, -, xl⟩ := H15.out.2.2.2.1.b
        rw [HMY.out.2 k hlt] at HC
        by_cases hik : i = k
        · subst hik
          rw [if_pos rfl] at HC
          go_wp2_with fail
          refine HC.mono ?_
          clear HC x0 x1 xl
          rintro e V16 ⟨⟨qp, qq, rfl, hyq⟩, hbn⟩
          have H16 : Hid (Below w.heap.size w V16 ∧ DvF V16 X1 sa pa sc pc es.length fs.length es fs ∧ DvF V16 X2 ta qa tc qc es.length (fs.length + 1) ts qs ∧ DvF V16 X4 ya yp yc yq es.length 0 ys []) := ⟨H15.out.1.trans (hbn.mono H15.out.1.size), H15.out.2.1.step hbn, H15.out.2.2.1.step hbn, H15.out.2.2.2.1.step hbn⟩
          clear hbn H15 hyq
          go_wp2
          go_roundw
          case rel => exact ⟨i + 1, by omega, by go_num, H16⟩
          case measure => simp [intOf]; omega
        · have hki : ((k : Int) == (i : Int)) = false := by rw [beq_eq_false_iff_ne]; omega
          rw [if_neg hik] at HC
          generalize (rdE es fs (k : Int)).ls = ll at *
          go_wp2_with fail
          refine HC.mono ?_
          clear HC x0 x1 xl
          rintro e V16 ⟨⟨qp, qq, rfl, hyq⟩, hbn⟩
          have HS := same_is pp qp pq qq ll ll V16 (H15.out.2.2.2.2.below hbn (Nat.le_refl _)) hyq
          rw [smB_self] at HS
          have H16 : Hid (Below w.heap.size w V16 ∧ DvF V16 X1 sa pa sc pc es.length fs.length es fs ∧ DvF V16 X2 ta qa tc qc es.length (fs.length + 1) ts qs ∧ DvF V16 X4 ya yp yc yq es.length 0 ys []) := ⟨H15.out.1.trans (hbn.mono H15.out.1.size), H15.out.2.1.step hbn, H15.out.2.2.1.step hbn, H15.out.2.2.2.1.step hbn⟩
          clear hbn H15 hyq
          go_wp2_with fail
          refine HS.mono ?_
          clear HS
          rintro e _ ⟨rfl, rfl⟩
          go_wp2
          go_roundw
          case rel => exact ⟨k + 1, by omega, by go_num, H16⟩
          case measure => simp [intOf]; omega
      · have hke : ¬ (k : Int) < (es.length : Int) := by omega
        have HC := implRawOk_any ta qa tc qc ts qs wr H14.out.2.2.1.i (by rw [HX.out.2.1]; omega) (by rw [HX.out.2.2.1]; omega) (fun s hs => by have := HX.out.1.lens.1 s hs; omega) (fun s hs => by have := HX.out.1.lens.2 s hs; omega)
        rw [rok_yes HX.out.1, HX.out.2.1, HX.out.2.2.1] at HC
        obtain ⟨x0, x1, -, -, xl⟩ := H14.out.2.2.1.b
        go_wp2_with fail
        refine HC.mono ?_
        clear HC x0 x1 xl
        rintro e V17 ⟨rfl, hbn⟩
        have H17 : Hid (Below w.heap.size w V17 ∧ True) := ⟨H14.out.1.trans (hbn.mono H14.out.1.size), trivial⟩
        clear hbn H14
        go_wp2
        go_ret
        exact ⟨rfl, H17.out.1⟩

  · have h1 := wr_no hk
    rw [h1.1, h1.2.1, h1.2.2] at HWR
    clear h1 hk
    go_wp2_with fail
    generalize (w1.alloc (Obj.cells #[.slice sa es.length sc, .slice pa fs.length pc] 26)) = W1 at *
    generalize w1.heap.size = X1 at *
    refine HWR.mono ?_
    clear HWR
    rintro e v2 ⟨⟨v, u, ts, qs, rfl, ⟨hct, hcq⟩, hro⟩, hb2⟩
    have ht0 : ts = [] := List.map_eq_nil_iff.1 hct
    have hq0 : qs = [] := List.map_eq_nil_iff.1 hcq
    subst ht0 hq0
    obtain ⟨ta, tc, qa, qc, rfl, rfl⟩ := hro.form
    have hA2 : Below v2.heap.size v2 (v2.alloc (Obj.cells #[.slice ta 0 tc, .slice qa 0 qc] 26)) := (Below.refl _ _).alloc (Nat.le_refl _) _
    have hbn := hb2.trans (hA2.mono hb2.size)
    have H2 : Hid (Below w.heap.size w (v2.alloc (Obj.cells #[.slice ta 0 tc, .slice qa 0 qc] 26)) ∧ DvF (v2.alloc (Obj.cells #[.slice ta 0 tc, .slice qa 0 qc] 26)) X1 sa pa sc pc es.length fs.length es fs ∧ DvF (v2.alloc (Obj.cells #[.slice ta 0 tc, .slice qa 0 qc] 26)) v2.heap.size ta qa tc qc 0 0 [] []) := ⟨H1.out.1.trans (hbn.mono H1.out.1.size), H1.out.2.1.step hbn, ⟨hro.inn.below hA2 (Nat.le_refl _), Box2.new _ _ _ _⟩⟩
    clear hA2 hbn hro hb2 hct hcq H1
    have HNW := implRawNew_any 2 (v2.alloc (Obj.cells #[.slice ta 0 tc, .slice qa 0 qc] 26))
    rw [show newB 2 = true from by decide, show newN 2 = 2 from by decide] at HNW
    go_wp2_with fail
    generalize (v2.alloc (Obj.cells #[.slice ta 0 tc, .slice qa 0 qc] 26)) = W2 at *
    generalize v2.heap.size = X2 at *
    refine HNW.mono ?_
    clear HNW
    rintro e v3 ⟨⟨v3v, ms, rfl, hc3, hr3⟩, hb3⟩
    have hm2 := Rok.new hc3 (by omega) (by omega)
    obtain ⟨ma, mc, -, -, rfl, -⟩ := hr3.form
    rw [hm2.2]
    have hA3 : Below v3.heap.size v3 (v3.alloc (Obj.cells #[.slice ma 2 mc, .slice none 0 0] 26)) := (Below.refl _ _).alloc (Nat.le_refl _) _
    have hbn := hb3.trans (hA3.mono hb3.size)
    have H3 : Hid (Below w.heap.size w (v3.alloc (Obj.cells #[.slice ma 2 mc, .slice none 0 0] 26)) ∧ DvF (v3.alloc (Obj.cells #[.slice ma 2 mc, .slice none 0 0] 26)) X1 sa pa sc pc es.length fs.length es fs ∧ DvF (v3.alloc (Obj.cells #[.slice ma 2 mc, .slice none 0 0] 26)) X2 ta qa tc qc 0 0 [] []) := ⟨H2.out.1.trans (hbn.mono H2.out.1.size), H2.out.2.1.step hbn, H2.out.2.2.step hbn⟩
    have HOK := implRawOk_any ma none mc 0 ms [] (v3.alloc (Obj.cells #[.slice ma 2 mc, .slice none 0 0] 26)) (hr3.inn.below hA3 (Nat.le_refl _)) (by omega) (by simp) (fun s hs => by have := hm2.1.lens.1 s hs; omega) (by simp)
    rw [hm2.2, rok_yes hm2.1] at HOK
    simp only [List.length_nil] at HOK
    clear hc3 hr3 hb3 hA3 hbn hm2 H2
    go_wp2_with fail
    generalize (v3.alloc (Obj.cells #[.slice ma 2 mc, .slice none 0 0] 26)) = W3 at *
    generalize v3.heap.size = X3 at *
    refine HOK.mono ?_
    clear HOK
    rintro e V4 ⟨rfl, hbn⟩
    have H4 : Hid (Below w.heap.size w V4 ∧ DvF V4 X1 sa pa sc pc es.length fs.length es fs ∧ DvF V4 X2 ta qa tc qc 0 0 [] []) := ⟨H3.out.1.trans (hbn.mono H3.out.1.size), H3.out.2.1.step hbn, H3.out.2.2.step hbn⟩
    clear hbn H3
    obtain ⟨y0, y1, -, -, yl⟩ := H4.out.2.2.b
    go_wp2
    go_ret
    exact ⟨rfl, H4.out.1⟩
end Go.Proofs.Ytpedfcknmeeknaa
