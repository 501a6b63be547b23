/-
  The law on RawCrash returns true, whatever is handed in, and writes nothing that was there.
-/
import Derived.Test.YtajhaoclkomjnaaRwSeI
import Derived.Test.YtajhaoclkomjnaaBosQ
import Derived.Test.YtajhaoclkomjnaaSnapR
import Derived.Test.YtajhaoclkomjnaaSnW
namespace Go.Proofs.Ytajhaoclkomjnaa
open Go.RowKit
set_option linter.unusedVariables false

set_option maxHeartbeats 16000000 in
theorem lawRawCrash_any (sa pa : Option Addr) (sc pc : Nat) (ss ps : List El) (da : Option Addr) (dc : Nat) (ds : List Bool) (w : World) (hb : RawI w sa pa ss ps) (hd : Bos w da ds) (hm1 : ss.length ≤ maxLen) (hm2 : ps.length ≤ maxLen) (hmd : ds.length ≤ maxLen) :
    Calls Try.prog 8 #[.agg #[.slice sa ss.length sc, .slice pa ps.length pc], .slice da ds.length dc] w fun e w' => e = .returned (.bool true) ∧ Below w.heap.size w w' := by
  have HB : Hid (RawI w sa pa ss ps) := hb
  have HM : Hid (ss.length ≤ maxLen ∧ ps.length ≤ maxLen) := ⟨hm1, hm2⟩
  clear hb hm1 hm2
  have HD : Hid (Bos w da ds) := hd
  clear hd
  unfold maxLen at hmd
  by_cases hdl : ds.length ≤ 1048576
  case neg =>
    have hdl2 : (1048576 : Int) < (ds.length : Int) := by omega
    have A0 : Hid (Arg w (w.alloc (Obj.cells #[Value.slice sa ss.length sc, Value.slice pa ps.length pc] 25)) (.slice sa ss.length sc) (.slice pa ps.length pc)) := Arg.new _ _ _ _
    go_enter Try.func8, Try.ntmps8
    go_wp2
    go_ret
    exact ⟨rfl, A0.out.bel⟩
  have hdl2 : ¬ (1048576 : Int) < (ds.length : Int) := by omega
  go_enter Try.func8, Try.ntmps8
  have A0 : Hid (Arg w (w.alloc (Obj.cells #[Value.slice sa ss.length sc, Value.slice pa ps.length pc] 25)) (.slice sa ss.length sc) (.slice pa ps.length pc)) := Arg.new _ _ _ _
  go_wp2_with fail
  refine (szRaw_any sa pa sc pc ss ps _ (HB.out.below A0.out.bel (Nat.le_refl _)) HM.out.1 HM.out.2).mono ?_
  rintro e w1 ⟨⟨z, rfl, hz⟩, hb1⟩
  have A1 : Hid (Arg w w1 (.slice sa ss.length sc) (.slice pa ps.length pc)) := A0.out.step hb1
  clear hb1 A0
  obtain ⟨-, x0, x1, -, -, xl⟩ := A1.out
  rcases hz with rfl | ⟨hz0, hfew⟩
  · go_wp2
    go_ret
    exact ⟨rfl, A1.out.bel⟩
  have HF : Hid (Few ss ps) := hfew
  clear hfew
  obtain ⟨AS, BS, ok, nA, nB, hAS, hBS, hok, hfe⟩ : ∃ AS BS ok nA nB, (AS = crS ss ps ds ∧ nA = AS.length) ∧ (BS = crP ss ps ds ∧ nB = BS.length) ∧ ok = crB ss ps ds ∧ ∀ ms ns : List El, ms.map El.ct = AS → ns.map El.ct = BS → Few ms ns := ⟨_, _, _, _, _, ⟨rfl, rfl⟩, ⟨rfl, rfl⟩, rfl, few_cr⟩
  have HFE : Hid (∀ ms ns : List El, ms.map El.ct = AS → ns.map El.ct = BS → Few ms ns ∧ ms.length = nA ∧ ns.length = nB) := fun ms ns h1 h2 => ⟨hfe ms ns h1 h2, by rw [hAS.2, ← h1, List.length_map], by rw [hBS.2, ← h2, List.length_map]⟩
  have HSPEC : Hid (∀ (W : World) (ta qa : Option Addr) (tc qc : Nat) (ts qs : List El) (ea : Option Addr) (ec : Nat), RawI W ta qa ts qs → Bos W ea ds → ts.map El.ct = ss.map El.ct → qs.map El.ct = ps.map El.ct → Calls Try.prog 28 #[.agg #[.slice ta ss.length tc, .slice qa ps.length qc], .slice ea ds.length ec] W fun e W' => ∃ aa ac ba bc ms ns, e = .returned (.tuple #[.agg #[.slice aa nA ac, .slice ba nB bc], .bool ok]) ∧ (ms.map El.ct = AS ∧ ns.map El.ct = BS) ∧ RawO W' W.heap.size (.slice aa nA ac) (.slice ba nB bc) ms ns ∧ Below W.heap.size W W') := by
    intro W ta qa tc qc ts qs ea ec hq he h1 h2
    have hf := (HF.out.ct h1 h2).big
    have h3 := specRawCrash_any ta qa tc qc ts qs  ea ec ds W hq he  hf.1 hf.2.1 hf.2.2.1 hf.2.2.2 (by omega)
    rw [len_ctE h1, len_ctE h2, (cr_ct h1 h2 ds).1, (cr_ct h1 h2 ds).2.1, (cr_ct h1 h2 ds).2.2, ← hAS.1, ← hBS.1, ← hok] at h3
    refine h3.mono ?_
    rintro e W' ⟨⟨v, u, ms, ns, rfl, hc, hr⟩, hbb⟩
    obtain ⟨aa, ac, ba, bc, rfl, rfl⟩ := hr.form
    rw [(HFE.out ms ns hc.1 hc.2).2.1, (HFE.out ms ns hc.1 hc.2).2.2] at hr ⊢
    exact ⟨aa, ac, ba, bc, ms, ns, rfl, hc, hr, hbb⟩
  have HIMPL : Hid (∀ (W : World) (ta qa : Option Addr) (tc qc : Nat) (ts qs : List El) (ea : Option Addr) (ec : Nat), RawI W ta qa ts qs → Bos W ea ds → ts.map El.ct = ss.map El.ct → qs.map El.ct = ps.map El.ct → Calls Try.prog 30 #[.agg #[.slice ta ss.length tc, .slice qa ps.length qc], .slice ea ds.length ec] W fun e W' => ∃ aa ac ba bc ms ns, e = .returned (.tuple #[.agg #[.slice aa nA ac, .slice ba nB bc], .bool ok]) ∧ (ms.map El.ct = AS ∧ ns.map El.ct = BS) ∧ RawO W' W.heap.size (.slice aa nA ac) (.slice ba nB bc) ms ns ∧ Below W.heap.size W W') := by
    intro W ta qa tc qc ts qs ea ec hq he h1 h2
    have hf := (HF.out.ct h1 h2).big
    have h3 := implRawCrash_any ta qa tc qc ts qs  ea ec ds W hq he  hf.1 hf.2.1 hf.2.2.1 hf.2.2.2 (by omega)
    rw [len_ctE h1, len_ctE h2, (cr_ct h1 h2 ds).1, (cr_ct h1 h2 ds).2.1, (cr_ct h1 h2 ds).2.2, ← hAS.1, ← hBS.1, ← hok] at h3
    refine h3.mono ?_
    rintro e W' ⟨⟨v, u, ms, ns, rfl, hc, hr⟩, hbb⟩
    obtain ⟨aa, ac, ba, bc, rfl, rfl⟩ := hr.form
    rw [(HFE.out ms ns hc.1 hc.2).2.1, (HFE.out ms ns hc.1 hc.2).2.2] at hr ⊢
    exact ⟨aa, ac, ba, bc, ms, ns, rfl, hc, hr, hbb⟩
  clear hAS hBS hok hfe
  go_wp2_with fail
  refine (toRaw_few sa pa sc pc ss ps w1 (HB.out.below A1.out.bel (Nat.le_refl _)) HF.out).mono ?_
  rintro e w2 ⟨⟨ta, tc, qa, qc, ts, qs, rfl, hct, hr2⟩, hb2⟩
  have A2 : Hid (Arg w w2 (.slice sa ss.length sc) (.slice pa ps.length pc)) := A1.out.step hb2
  clear hb2 A1 x0 x1 xl
  have HR2 : Hid (RawI w2 ta qa ts qs) := hr2.inn
  go_wp2_with fail
  refine (toBoolS_any da dc ds w2 (HD.out.below A2.out.bel (Nat.le_refl _)) hdl).mono ?_
  rintro e w25 ⟨rfl, ho25, hb25⟩
  have HSP := HSPEC.out w25 ta qa tc qc ts qs (some ⟨w2.heap.size, 0, none⟩) ds.length (HR2.out.below hb25 (Nat.le_refl _)) ho25.bos hct.1 hct.2
  have A2' : Hid (Arg w w25 (.slice sa ss.length sc) (.slice pa ps.length pc)) := A2.out.step hb25
  clear A2 hb25 ho25 HR2
  have A2 : Hid (Arg w w25 (.slice sa ss.length sc) (.slice pa ps.length pc)) := A2'.out
  clear A2'
  clear hr2 hct
  clear ts qs
  go_wp2_with fail
  refine HSP.mono ?_
  clear HSP
  rintro e w3 ⟨aa, ac, ba, bc, ms, ns, rfl, hcm, hrm, hb3⟩
  have HCM : Hid (ms.map El.ct = AS ∧ ns.map El.ct = BS) := hcm
  have A3 : Hid (Arg w w3 (.slice sa ss.length sc) (.slice pa ps.length pc)) := A2.out.step hb3
  have hba : Below w3.heap.size w3 (w3.alloc (Obj.cells #[.slice aa nA ac, .slice ba nB bc] 30)) := (Below.refl _ _).alloc (Nat.le_refl _) _
  have A4 : Hid (Arg w (w3.alloc (Obj.cells #[.slice aa nA ac, .slice ba nB bc] 30)) (.slice sa ss.length sc) (.slice pa ps.length pc)) := A3.out.alloc _
  have HW4 : Hid (RawO (w3.alloc (Obj.cells #[.slice aa nA ac, .slice ba nB bc] 30)) (w.heap.size + 1) (.slice aa nA ac) (.slice ba nB bc) ms ns ∧ (∀ k, blkR (.slice aa nA ac) (.slice ba nB bc) ms ns k → k < w3.heap.size) ∧ Box2 (w3.alloc (Obj.cells #[.slice aa nA ac, .slice ba nB bc] 30)) w3.heap.size (.slice aa nA ac) (.slice ba nB bc) ∧ w.heap.size < w3.heap.size ∧ (w3.alloc (Obj.cells #[.slice aa nA ac, .slice ba nB bc] 30)).heap.size = w3.heap.size + 1) :=
    ⟨(hrm.below hba).weak (by have := A2.out.box.lt; omega), fun k hk => (hrm.inside k hk).2, Box2.new _ _ _ _, A3.out.box.lt, by simp⟩
  obtain ⟨-, x0, x1, -, -, xl⟩ := A3.out
  clear hcm hrm hb3 hba A2 A3
  go_wp2_with fail
  generalize w3.alloc (Obj.cells #[.slice aa nA ac, .slice ba nB bc] 30) = w4 at *
  refine (toRaw_few sa pa sc pc ss ps w4 (HB.out.below A4.out.bel (Nat.le_refl _)) HF.out).mono ?_
  rintro e w5 ⟨⟨ta, tc, qa, qc, ts, qs, rfl, hct, hr5⟩, hb5⟩
  have HCT : Hid (ts.map El.ct = ss.map El.ct ∧ qs.map El.ct = ps.map El.ct) := hct
  have hba : Below w5.heap.size w5 (w5.alloc (Obj.cells #[.slice ta ss.length tc, .slice qa ps.length qc] 30)) := (Below.refl _ _).alloc (Nat.le_refl _) _
  have hb6 := hb5.trans (hba.mono hb5.size)
  have A6 : Hid (Arg w (w5.alloc (Obj.cells #[.slice ta ss.length tc, .slice qa ps.length qc] 30)) (.slice sa ss.length sc) (.slice pa ps.length pc)) := A4.out.step hb6
  have HW6 : Hid (RawO (w5.alloc (Obj.cells #[.slice ta ss.length tc, .slice qa ps.length qc] 30)) (w.heap.size + 1) (.slice aa nA ac) (.slice ba nB bc) ms ns ∧ (∀ k, blkR (.slice aa nA ac) (.slice ba nB bc) ms ns k → k < w3.heap.size) ∧ Box2 (w5.alloc (Obj.cells #[.slice ta ss.length tc, .slice qa ps.length qc] 30)) w3.heap.size (.slice aa nA ac) (.slice ba nB bc) ∧ w.heap.size < w3.heap.size) := ⟨HW4.out.1.below hb6, HW4.out.2.1, HW4.out.2.2.1.keep hb6 HW4.out.2.2.1.lt, HW4.out.2.2.2.1⟩
  have HX6 : Hid (RawO (w5.alloc (Obj.cells #[.slice ta ss.length tc, .slice qa ps.length qc] 30)) (w3.heap.size + 1) (.slice ta ss.length tc) (.slice qa ps.length qc) ts qs ∧ (∀ k, blkR (.slice ta ss.length tc) (.slice qa ps.length qc) ts qs k → k < w5.heap.size) ∧ Box2 (w5.alloc (Obj.cells #[.slice ta ss.length tc, .slice qa ps.length qc] 30)) w5.heap.size (.slice ta ss.length tc) (.slice qa ps.length qc) ∧ w3.heap.size < w5.heap.size ∧ (w5.alloc (Obj.cells #[.slice ta ss.length tc, .slice qa ps.length qc] 30)).heap.size = w5.heap.size + 1) :=
    ⟨(hr5.below hba).weak (by rw [HW4.out.2.2.2.2]; omega), fun k hk => (hr5.inside k hk).2, Box2.new _ _ _ _, by have := hb5.size; have := HW4.out.2.2.2.2; omega, by simp⟩
  clear hct hr5 hb5 hba hb6 x0 x1 xl HW4 A4
  go_wp2_with fail
  generalize w5.alloc (Obj.cells #[.slice ta ss.length tc, .slice qa ps.length qc] 30) = w6 at *
  refine (toBoolS_any da dc ds w6 (HD.out.below A6.out.bel (Nat.le_refl _)) hdl).mono ?_
  rintro e w7 ⟨rfl, ho7, hb7⟩
  have A7 : Hid (Arg w w7 (.slice sa ss.length sc) (.slice pa ps.length pc)) := A6.out.step hb7
  have HW7 : Hid (RawO w7 (w.heap.size + 1) (.slice aa nA ac) (.slice ba nB bc) ms ns ∧ (∀ k, blkR (.slice aa nA ac) (.slice ba nB bc) ms ns k → k < w3.heap.size) ∧ Box2 w7 w3.heap.size (.slice aa nA ac) (.slice ba nB bc) ∧ w.heap.size < w3.heap.size) := ⟨HW6.out.1.below hb7, HW6.out.2.1, HW6.out.2.2.1.keep hb7 HW6.out.2.2.1.lt, HW6.out.2.2.2⟩
  have HX7 : Hid (RawO w7 (w3.heap.size + 1) (.slice ta ss.length tc) (.slice qa ps.length qc) ts qs ∧ (∀ k, blkR (.slice ta ss.length tc) (.slice qa ps.length qc) ts qs k → k < w5.heap.size) ∧ Box2 w7 w5.heap.size (.slice ta ss.length tc) (.slice qa ps.length qc) ∧ w3.heap.size < w5.heap.size ∧ w5.heap.size < w7.heap.size) := ⟨HX6.out.1.below hb7, HX6.out.2.1, HX6.out.2.2.1.keep hb7 HX6.out.2.2.1.lt, HX6.out.2.2.2.1, by have := hb7.size; have := HX6.out.2.2.2.2; omega⟩
  have HO7 : Hid (OwBo w7 w6.heap.size w6.heap.size ds.length ds ∧ w5.heap.size < w6.heap.size ∧ w6.heap.size < w7.heap.size) := ⟨ho7, by have := HX6.out.2.2.2.2; omega, ho7.lt.2⟩
  have HIM := HIMPL.out w7 ta qa tc qc ts qs (some ⟨w6.heap.size, 0, none⟩) ds.length HX7.out.1.inn ho7.bos HCT.out.1 HCT.out.2
  obtain ⟨t0, t1, -, -, tl⟩ := HX7.out.2.2.1
  clear A6 HW6 HX6 hb7 ho7
  go_wp2_with fail
  clear t0 t1 tl
  refine HIM.mono ?_
  clear HIM
  rintro e w8 ⟨ga, gc, ha, hc, gs, hs, rfl, hcg, hrg, hb8⟩
  have HCG : Hid (gs.map El.ct = AS ∧ hs.map El.ct = BS) := hcg
  have hba : Below w8.heap.size w8 (w8.alloc (Obj.cells #[.slice ga nA gc, .slice ha nB hc] 30)) := (Below.refl _ _).alloc (Nat.le_refl _) _
  have hb9 := hb8.trans (hba.mono hb8.size)
  have HS9 : Hid (StR w (w8.alloc (Obj.cells #[.slice ga nA gc, .slice ha nB hc] 30)) (.slice sa ss.length sc) (.slice pa ps.length pc) w3.heap.size (.slice aa nA ac) (.slice ba nB bc) ms ns w5.heap.size (.slice ta ss.length tc) (.slice qa ps.length qc) ts qs w7.heap.size w8.heap.size (.slice ga nA gc) (.slice ha nB hc) gs hs) :=
    ⟨A7.out.step hb9, HW7.out.2.2.2, HW7.out.1.below hb9, HW7.out.2.1, HW7.out.2.2.1.keep hb9 HW7.out.2.2.1.lt, HX7.out.2.2.2.1, HX7.out.1.below hb9, HX7.out.2.1, HX7.out.2.2.1.keep hb9 HX7.out.2.2.1.lt, HX7.out.2.2.2.2, hb8.size, hrg.below hba, fun k hk => (hrg.inside k hk).2, Box2.new _ _ _ _⟩
  have HO9 : Hid (OwBo (w8.alloc (Obj.cells #[.slice ga nA gc, .slice ha nB hc] 30)) w6.heap.size w6.heap.size ds.length ds ∧ w5.heap.size < w6.heap.size ∧ w6.heap.size < w7.heap.size) := ⟨HO7.out.1.below hb9 (Nat.le_refl _), HO7.out.2⟩
  clear HO7
  have h89 := HS9.out.step (Below.refl _ _)
  obtain ⟨p0, p1, -, -, pl⟩ := HW7.out.2.2.1.keep hb8 HW7.out.2.2.1.lt
  clear hcg hrg hb8 hba hb9 A7 HW7 HX7 h89
  have hOO : (ok != ok) = false := by simp
  have HEQ := eqRaw_yes ga ha aa ba gc hc ac bc gs hs ms ns _ HS9.out.mg.inn HS9.out.mw.inn (HCG.out.1.trans HCM.out.1.symm) (HCG.out.2.trans HCM.out.2.symm) (HFE.out gs hs HCG.out.1 HCG.out.2).1
  rw [(HFE.out gs hs HCG.out.1 HCG.out.2).2.1, (HFE.out gs hs HCG.out.1 HCG.out.2).2.2] at HEQ
  go_wp2_with fail
  generalize w8.alloc (Obj.cells #[.slice ga nA gc, .slice ha nB hc] 30) = w9 at *
  generalize w3.heap.size = U at *
  generalize w5.heap.size = T at *
  generalize w7.heap.size = X at *
  generalize w8.heap.size = Y at *
  refine HEQ.mono ?_
  clear HEQ
  rintro e w10 ⟨rfl, hb10⟩
  have HS10 : Hid _ := HS9.out.step hb10
  generalize w6.heap.size = G at *
  have HO10 : Hid (OwBo w10 G G ds.length ds ∧ T < G ∧ G < X) := ⟨HO9.out.1.below hb10 (Nat.le_refl _), HO9.out.2⟩
  clear HO9
  clear hb10 HS9 p0 p1 pl
  go_wp2_with fail
  go_region_held3 (fun W => W.cell? ⟨T, 0, none⟩ = some (.slice ta ss.length tc) ∧ W.cell? ⟨T, 1, none⟩ = some (.slice qa ps.length qc) ∧ W.cell? ⟨w.heap.size, 0, none⟩ = some (.slice sa ss.length sc) ∧ W.cell? ⟨w.heap.size, 1, none⟩ = some (.slice pa ps.length pc))
    (first | exact ⟨HS10.out.bx.c0, HS10.out.bx.c1, HS10.out.arg.box.c0, HS10.out.arg.box.c1⟩ | exact ⟨HS11.out.bx.c0, HS11.out.bx.c1, HS11.out.arg.box.c0, HS11.out.arg.box.c1⟩ | exact ⟨HS12.out.bx.c0, HS12.out.bx.c1, HS12.out.arg.box.c0, HS12.out.arg.box.c1⟩)
    (first
      | (go_at_call 11; refine (toRaw_few sa pa sc pc ss ps _ (HB.out.below HS10.out.arg.bel.drew (Nat.le_refl _)) HF.out).mono ?_; rintro e w11 ⟨⟨ua, uc, va, vc, us, vs, rfl, hcu, hr11⟩, hb11'⟩; have hb11 : Below w10.heap.size w10 w11 := Below.drewS hb11'; have HS11 : Hid (StR w w11 (.slice sa ss.length sc) (.slice pa ps.length pc) U (.slice aa nA ac) (.slice ba nB bc) ms ns T (.slice ta ss.length tc) (.slice qa ps.length qc) ts qs X Y (.slice ga nA gc) (.slice ha nB hc) gs hs) := HS10.out.step hb11; have HO11 : Hid (OwBo w11 G G ds.length ds ∧ T < G ∧ G < X) := ⟨HO10.out.1.below hb11 (Nat.le_refl _), HO10.out.2⟩; have HEQ := eqRaw_yes ta qa ua va tc qc uc vc ts qs us vs w11 HS11.out.rx.inn hr11.inn (HCT.out.1.trans hcu.1.symm) (HCT.out.2.trans hcu.2.symm) (HF.out.ct HCT.out.1 HCT.out.2); rw [len_ctE HCT.out.1, len_ctE HCT.out.2] at HEQ; clear hb11' hb11 hr11 hcu)
      | (go_at_call 13; refine HEQ.mono ?_; clear HEQ; rintro e w12 ⟨rfl, hb12⟩; have HS12 : Hid (StR w w12 (.slice sa ss.length sc) (.slice pa ps.length pc) U (.slice aa nA ac) (.slice ba nB bc) ms ns T (.slice ta ss.length tc) (.slice qa ps.length qc) ts qs X Y (.slice ga nA gc) (.slice ha nB hc) gs hs) := HS11.out.step hb12; have HO12 : Hid (OwBo w12 G G ds.length ds ∧ T < G ∧ G < X) := ⟨HO11.out.1.below hb12 (Nat.le_refl _), HO11.out.2⟩; clear hb12))
  clear HS10 HS11
  clear HO10 HO11
  go_wp2_with fail
  refine (toBoolS_any da dc ds w12 (HD.out.below HS12.out.arg.bel (Nat.le_refl _)) hdl).mono ?_
  rintro e w26 ⟨rfl, ho26, hb26⟩
  have HS26 : Hid _ := HS12.out.step hb26
  have HO26 : Hid (OwBo w26 G G ds.length ds ∧ T < G ∧ G < X) := ⟨HO12.out.1.below hb26 (Nat.le_refl _), HO12.out.2⟩
  have HOB : Hid (Bos w26 (some ⟨w12.heap.size, 0, none⟩) ds) := ho26.bos
  clear hb26 ho26 HS12 HO12
  go_wp2_with fail
  refine (eqBoolS_yes (some ⟨G, 0, none⟩) (some ⟨w12.heap.size, 0, none⟩) ds.length ds.length ds w26 HO26.out.1.bos HOB.out (by omega)).mono ?_
  rintro e w27 ⟨rfl, n27, rfl⟩
  have HS27 : Hid _ := HS26.out.step (below_dR w26 n27)
  have HO27 : Hid (OwBo (w26.drewN n27) G G ds.length ds ∧ T < G ∧ G < X) := ⟨HO26.out.1.below (below_dR w26 n27) (Nat.le_refl _), HO26.out.2⟩
  clear HS26 HO26 HOB
  generalize w26.drewN n27 = w27 at *
  have HS12 : Hid _ := HS27.out
  have HO12 : Hid _ := HO27.out
  clear HS27 HO27
  have hrx := HS12.out.rx
  rw [← len_ctE HCT.out.1, ← len_ctE HCT.out.2] at hrx
  have HMK := markRaw_own ta qa tc qc (U + 1) ts qs _ hrx (HF.out.ct HCT.out.1 HCT.out.2)
  rw [len_ctE HCT.out.1, len_ctE HCT.out.2] at HMK
  have hkb : 0 ≤ mkN ts qs ∧ mkN ts qs ≤ 2097152 := by
    have := (HF.out.ct HCT.out.1 HCT.out.2).sum
    unfold mkN
    omega
  generalize mkN ts qs = kk at *
  obtain ⟨hkb, hkb2⟩ := hkb
  obtain ⟨t0, t1, -, -, tl⟩ := HS12.out.bx
  clear hrx
  go_wp2_with fail
  refine HMK.mono ?_
  clear HMK
  rintro e w13 ⟨rfl, hr13, ho13⟩
  have HS13 : Hid _ := HS12.out.markX ho13 hr13 (mk_a ts qs)
  have HO13 : Hid (OwBo w13 G G ds.length ds ∧ T < G ∧ G < X) := ⟨HO12.out.1.only ho13 (fun hs => by have := HS12.out.ix G hs; have := HO12.out.2.1; omega), HO12.out.2⟩
  clear HO12
  clear ho13 hr13 HS12 t0 t1 tl
  have HMK := markBoolS_own G G ds.length ds kk w13 HO13.out.1 (by omega) (by omega) (by omega)
  go_wp2_with fail
  refine HMK.mono ?_
  clear HMK
  rintro e w28 ⟨rfl, -, ho28⟩
  have HS28 : Hid _ := HS13.out.other ho28 (fun k hk => by rw [hk]; exact HO13.out.2)
  have hkb3 : 0 ≤ kk + (ds.length : Int) := by omega
  clear HS13 HO13 ho28
  generalize kk + (ds.length : Int) = kk2 at *
  have HS13 : Hid _ := HS28.out
  clear HS28
  obtain ⟨t0, t1, -, -, tl⟩ := HS13.out.bg
  obtain ⟨p0, p1, -, -, pl⟩ := HS13.out.bw
  have HEQ := eqRaw_yes ga ha aa ba gc hc ac bc gs hs ms ns _ HS13.out.mg.inn HS13.out.mw.inn (HCG.out.1.trans HCM.out.1.symm) (HCG.out.2.trans HCM.out.2.symm) (HFE.out gs hs HCG.out.1 HCG.out.2).1
  rw [(HFE.out gs hs HCG.out.1 HCG.out.2).2.1, (HFE.out gs hs HCG.out.1 HCG.out.2).2.2] at HEQ
  go_wp2_with fail
  refine HEQ.mono ?_
  clear HEQ
  rintro e w14 ⟨rfl, hb14⟩
  have HS14 : Hid _ := HS13.out.step hb14
  clear hb14 HS13 t0 t1 tl p0 p1 pl
  obtain ⟨t0, t1, -, -, tl⟩ := HS14.out.bg
  have hmg := HS14.out.mg
  rw [← (HFE.out gs hs HCG.out.1 HCG.out.2).2.1, ← (HFE.out gs hs HCG.out.1 HCG.out.2).2.2] at hmg
  have HMG := markRaw_own ga ha gc hc X gs hs w14 hmg (HFE.out gs hs HCG.out.1 HCG.out.2).1
  rw [(HFE.out gs hs HCG.out.1 HCG.out.2).2.1, (HFE.out gs hs HCG.out.1 HCG.out.2).2.2] at HMG
  have hgb : 0 ≤ mkN gs hs := by unfold mkN; omega
  generalize hG : mkN gs hs = gg at *
  have HGG : Hid (mkN gs hs = gg ∧ True) := ⟨hG, trivial⟩
  have hgg : (gg != gg) = false := by simp
  clear hmg hG
  go_wp2_with fail
  refine HMG.mono ?_
  clear HMG
  rintro e w15 ⟨rfl, hr15, ho15⟩
  have HS15 : Hid _ := HS14.out.markG ho15 hr15 (mk_a gs hs)
  clear ho15 hr15 HS14 t0 t1 tl
  obtain ⟨t0, t1, -, -, tl⟩ := HS15.out.bg
  have HHD := heldRaw_any ga ha gc hc gs hs w15 HS15.out.mg.inn (HFE.out gs hs HCG.out.1 HCG.out.2).1
  rw [(HFE.out gs hs HCG.out.1 HCG.out.2).2.1, (HFE.out gs hs HCG.out.1 HCG.out.2).2.2, HGG.out.1] at HHD
  go_wp2_with fail
  refine HHD.mono ?_
  clear HHD
  rintro e w16 ⟨rfl, hb16⟩
  have HS16 : Hid _ := HS15.out.step hb16
  clear hb16 HS15 t0 t1 tl
  obtain ⟨-, x0, x1, -, -, xl⟩ := HS16.out.arg
  go_wp2_with fail
  refine (toRaw_few sa pa sc pc ss ps w16 (HB.out.below HS16.out.arg.bel (Nat.le_refl _)) HF.out).mono ?_
  rintro e w17 ⟨⟨ua, uc, va, vc, us, vs, rfl, hcu, hr17⟩, hb17⟩
  have HS17 : Hid _ := HS16.out.step hb17
  clear hb17 HS16 x0 x1 xl
  have HR17 : Hid (RawI w17 ua va us vs) := hr17.inn
  go_wp2_with fail
  refine (toBoolS_any da dc ds w17 (HD.out.below HS17.out.arg.bel (Nat.le_refl _)) hdl).mono ?_
  rintro e w18 ⟨rfl, ho18, hb18⟩
  have HS18 : Hid _ := HS17.out.step hb18
  have HIM := HIMPL.out w18 ua va uc vc us vs (some ⟨w17.heap.size, 0, none⟩) ds.length (HR17.out.below hb18 (Nat.le_refl _)) ho18.bos hcu.1 hcu.2
  clear HS17 hb18 ho18 HR17
  clear hr17 hcu
  go_wp2_with fail
  refine HIM.mono ?_
  clear HIM
  rintro e w19 ⟨ia, ic, ja, jc, is, js, rfl, hci, hri, hb19⟩
  have HCI : Hid (is.map El.ct = AS ∧ js.map El.ct = BS) := hci
  have HS19 : Hid _ := HS18.out.step hb19
  have hba : Below w19.heap.size w19 (w19.alloc (Obj.cells #[.slice ia nA ic, .slice ja nB jc] 30)) := (Below.refl _ _).alloc (Nat.le_refl _) _
  have HS20 : Hid (StR w (w19.alloc (Obj.cells #[.slice ia nA ic, .slice ja nB jc] 30)) (.slice sa ss.length sc) (.slice pa ps.length pc) U (.slice aa nA ac) (.slice ba nB bc) ms ns T (.slice ta ss.length tc) (.slice qa ps.length qc) (mkSs ts) (mkPs ts qs) X Y (.slice ga nA gc) (.slice ha nB hc) (mkSs gs) (mkPs gs hs)) := HS19.out.step hba
  have HRI : Hid (RawO (w19.alloc (Obj.cells #[.slice ia nA ic, .slice ja nB jc] 30)) w18.heap.size (.slice ia nA ic) (.slice ja nB jc) is js) := hri.below hba
  obtain ⟨p0, p1, -, -, pl⟩ := HS19.out.bw
  have HEQ := eqRaw_yes ia ja aa ba ic jc ac bc is js ms ns _ HRI.out.inn HS20.out.mw.inn (HCI.out.1.trans HCM.out.1.symm) (HCI.out.2.trans HCM.out.2.symm) (HFE.out is js HCI.out.1 HCI.out.2).1
  rw [(HFE.out is js HCI.out.1 HCI.out.2).2.1, (HFE.out is js HCI.out.1 HCI.out.2).2.2] at HEQ
  clear hci hri hb19 hba HS18 HS19
  go_wp2_with fail
  generalize w19.alloc (Obj.cells #[.slice ia nA ic, .slice ja nB jc] 30) = w20 at *
  refine HEQ.mono ?_
  clear HEQ
  rintro e w21 ⟨rfl, hb21⟩
  have HS21 : Hid _ := HS20.out.step hb21
  clear hb21 HS20 p0 p1 pl HRI
  obtain ⟨t0, t1, -, -, tl⟩ := HS21.out.bg
  have HHD := heldRaw_any ga ha gc hc gs hs w21 HS21.out.mg.inn (HFE.out gs hs HCG.out.1 HCG.out.2).1
  rw [(HFE.out gs hs HCG.out.1 HCG.out.2).2.1, (HFE.out gs hs HCG.out.1 HCG.out.2).2.2, HGG.out.1] at HHD
  go_wp2_with fail
  refine HHD.mono ?_
  clear HHD
  rintro e w22 ⟨rfl, hb22⟩
  have HS22 : Hid _ := HS21.out.step hb22
  clear hb22
  go_wp2
  go_ret
  exact ⟨rfl, HS22.out.arg.bel⟩
end Go.Proofs.Ytajhaoclkomjnaa
