/-
  The law on LitsOf returns true, whatever is handed in, and writes nothing that was there.
-/
import Derived.Test.YtgkcaohcgjcbnaaSqL
import Derived.Test.YtgkcaohcgjcbnaaSqM
import Derived.Test.YtgkcaohcgjcbnaaSnapR
import Derived.Test.YtgkcaohcgjcbnaaLawSeqsOk
namespace Go.Proofs.Ytgkcaohcgjcbnaa
open Go.RowKit
set_option linter.unusedVariables false

theorem lits_all {ss ts : List Sq} (hct : ts.map Sq.ct = ss.map Sq.ct) (h : ∀ s ∈ ss, s.ls.length ≤ 1048576) : ∀ s ∈ ts, s.ls.length ≤ 281474976710656 := fun s hs => by
  obtain ⟨i, hi, rfl⟩ := memS_get hs
  have h1 := ct_get hct i
  have h2 := h _ (getD_memS (ss := ss) (k := i) (by have := len_ct hct; omega))
  simp only [Sq.ct, Prod.mk.injEq] at h1
  rw [h1.1]
  omega
/-- Where a row of sequences and their letters lie. -/
theorem OwS.inside {w : World} {B g cap : Nat} {ss : List Sq} (h : OwS w B g cap ss) : ∀ b, (b = g ∨ ∃ s ∈ ss, rowOf s.a b) → B ≤ b ∧ b < w.heap.size := by
  rintro b (rfl | ⟨s, hs, hr⟩)
  · exact h.lt
  · exact (h.mine s hs).rowB hr

set_option maxHeartbeats 8000000 in
theorem lawLitsOf_any (a : Option Addr) (cap : Nat) (ss : List Sq) (w : World) (hb : Sqs w a ss) (hm : ss.length ≤ maxLen) :
    Calls Try.prog 8 #[.slice a ss.length cap] w fun e w' => e = .returned (.bool true) ∧ Below w.heap.size w w' := by
  go_enter Try.func8, Try.ntmps8
  go_wp2_with fail
  refine (szSeqS_any a cap ss w hb hm).mono ?_
  rintro e w1 ⟨⟨z, rfl, hz⟩, hb1⟩
  by_cases hz0 : 0 ≤ z
  · have HSZ : Hid (ss.length + lets ss ≤ 1048576) := hz hz0
    have HLT : Hid (∀ s ∈ ss, s.ls.length ≤ 1048576) := lets_all (by have := HSZ.out; omega)
    have hn : ss.length ≤ 1048576 := by have := HSZ.out; omega
    -- what both answer
    obtain ⟨ys, hys, hyl⟩ : ∃ ys, ys = (if (sqn ss).isSome then lib ss ss.length else []) ∧ ys.length ≤ 64 := by
      refine ⟨_, rfl, ?_⟩
      cases hs : sqn ss with
      | none => simp
      | some m =>
        obtain ⟨_, h2, h3, _⟩ := sqn_at hs
        have := lib_le ss ss.length
        simp
        omega
    have HSPEC : Hid (∀ (W : World) (g : Nat) (ts : List Sq), Sqs W (some ⟨g, 0, none⟩) ts → ts.map Sq.ct = ss.map Sq.ct → Calls Try.prog 28 #[.slice (some ⟨g, 0, none⟩) ss.length ss.length] W fun e W' => ∃ aw cw, e = .returned (.slice aw ys.length cw) ∧ Mine W' W.heap.size W'.heap.size aw cw ys ∧ Below W.heap.size W W') := by
      intro W g ts hq hct
      have h1 := specLitsOf_any (some ⟨g, 0, none⟩) ss.length ts W hq (by rw [len_ct hct]; omega) (lits_all hct HLT.out)
      rw [len_ct hct, sqn_ct hct, lib_ct hct, ← hys] at h1
      refine h1.mono ?_
      rintro e W' ⟨⟨v, rfl, hov⟩, hbb⟩
      obtain ⟨aw, cw, rfl, hmm⟩ := hov.mine
      exact ⟨aw, cw, rfl, hmm, hbb⟩
    have HIMPL : Hid (∀ (W : World) (g : Nat) (ts : List Sq), Sqs W (some ⟨g, 0, none⟩) ts → ts.map Sq.ct = ss.map Sq.ct → Calls Try.prog 29 #[.slice (some ⟨g, 0, none⟩) ss.length ss.length] W fun e W' => ∃ aw cw, e = .returned (.slice aw ys.length cw) ∧ Mine W' W.heap.size W'.heap.size aw cw ys ∧ Below W.heap.size W W') := by
      intro W g ts hq hct
      have h1 := implLitsOf_any (some ⟨g, 0, none⟩) ss.length ts W hq (by rw [len_ct hct]; omega) (lits_all hct HLT.out)
      rw [len_ct hct, sqn_ct hct, lib_ct hct, ← hys] at h1
      refine h1.mono ?_
      rintro e W' ⟨⟨v, rfl, hov⟩, hbb⟩
      obtain ⟨aw, cw, rfl, hmm⟩ := hov.mine
      exact ⟨aw, cw, rfl, hmm, hbb⟩
    clear hz hys
    go_wp2_with fail
    refine (toSeqS_any a cap ss w1 (hb.below hb1 (Nat.le_refl _)) hn HLT.out).mono ?_
    rintro e w2 ⟨rfl, ⟨ts, htl, hct, ho2⟩, hb2⟩
    have hbb2 : Below w.heap.size w w2 := hb1.trans (hb2.mono hb1.size)
    have HSP := HSPEC.out w2 w1.heap.size ts ho2.sqs hct
    clear ho2 hb2 hb1 hct htl
    clear ts
    go_wp2_with fail
    refine HSP.mono ?_
    clear HSP
    rintro e w3 ⟨aw, cw, rfl, hmw, hb3⟩
    have hbb3 : Below w.heap.size w w3 := hbb2.trans (hb3.mono hbb2.size)
    have HMW : Hid (Mine w3 w.heap.size w3.heap.size aw cw ys) := hmw.mono hbb2.size (Nat.le_refl _)
    clear hb3 hbb2 hmw
    go_wp2_with fail
    refine (toSeqS_any a cap ss w3 (hb.below hbb3 (Nat.le_refl _)) hn HLT.out).mono ?_
    rintro e w4 ⟨rfl, ⟨ts, htl, hct, ho4⟩, hb4⟩
    have hbb4 : Below w.heap.size w w4 := hbb3.trans (hb4.mono hbb3.size)
    have HIM := HIMPL.out w4 w3.heap.size ts ho4.sqs hct
    have HCT : Hid (ts.map Sq.ct = ss.map Sq.ct) := hct
    have HO4 : Hid (OwS w4 w3.heap.size w3.heap.size ss.length ts) := ho4
    have HIN : Hid (∀ b, (b = w3.heap.size ∨ ∃ s ∈ ts, rowOf s.a b) → w3.heap.size ≤ b ∧ b < w4.heap.size) := ho4.inside
    have HMW4 : Hid (Mine w4 w.heap.size w3.heap.size aw cw ys) := HMW.out.below hb4
    have hz4 := hb4.size
    clear hb4 hct htl ho4 HMW
    go_wp2_with fail
    refine HIM.mono ?_
    clear HIM
    rintro e w5 ⟨ag, cg, rfl, hmg, hb5⟩
    have HO5 : Hid (OwS w5 w3.heap.size w3.heap.size ss.length ts) := HO4.out.below hb5
    have HS5 : Hid (SnapR w w5 w3.heap.size aw cw ys w4.heap.size ag cg ys) := ⟨hbb4.trans (hb5.mono hbb4.size), hbb3.size, hz4, hb5.size, HMW4.out.below hb5, hmg⟩
    clear hb5 HO4 hbb3 hbb4 HMW4 hmg hz4
    generalize w3.heap.size = U at *
    generalize w4.heap.size = X at *
    go_wp2_with fail
    refine (eqByteS_yes ag aw cg cw ys _ HS5.out.mg.byt HS5.out.mw.byt (by omega)).mono ?_
    rintro e w6 ⟨rfl, n6, rfl⟩
    have HS6 : Hid _ := HS5.out.step (below_dR w5 n6)
    have HO6 : Hid (OwS (w5.drewN n6) U U ss.length ts) := HO5.out.below (below_dR w5 n6)
    clear HS5 HO5
    generalize w5.drewN n6 = w6 at *
    go_wp2_with fail
    refine (toSeqS_any a cap ss w6 (hb.below HS6.out.bel (Nat.le_refl _)) hn HLT.out).mono ?_
    rintro e w7 ⟨rfl, ⟨us, hul, hcu, ho7⟩, hb7⟩
    have HS7 : Hid _ := HS6.out.step hb7
    have HO7 : Hid (OwS w7 U U ss.length ts) := HO6.out.below hb7
    have HEQ := eqSeqS_yes (some ⟨U, 0, none⟩) (some ⟨w6.heap.size, 0, none⟩) ss.length ss.length ts us w7 HO7.out.sqs ho7.sqs (HCT.out.trans hcu.symm) (by rw [len_ct HCT.out]; omega) (lits_all HCT.out HLT.out)
    rw [len_ct HCT.out] at HEQ
    clear hb7 ho7 hcu hul HO6 HS6
    go_wp2_with fail
    refine HEQ.mono ?_
    clear HEQ
    rintro e w8 ⟨rfl, hb8⟩
    have HS8 : Hid _ := HS7.out.step hb8
    have HO8 : Hid (OwS w8 U U ss.length ts) := HO7.out.below hb8
    have HMK := markSeqS_own U U ss.length ts 1 w8 HO8.out (by rw [len_ct HCT.out, lets_ct ts ss HCT.out]; exact HSZ.out) (by omega) (by omega)
    rw [len_ct HCT.out, lets_ct ts ss HCT.out] at HMK
    have hkb : 0 ≤ (1 : Int) + lets ss + 2 * ss.length := by omega
    clear hb8 HS7 HO7
    go_wp2_with fail
    refine HMK.mono ?_
    clear HMK
    rintro e w9 ⟨rfl, -, ho9⟩
    have HS9 : Hid _ := HS8.out.other ho9 HIN.out
    clear ho9 HS8 HO8 HIN
    generalize (1 : Int) + lets ss + 2 * ss.length = kk at *
    go_wp2_with fail
    refine (eqByteS_yes ag aw cg cw ys _ HS9.out.mg.byt HS9.out.mw.byt (by omega)).mono ?_
    rintro e w10 ⟨rfl, n10, rfl⟩
    have HS10 : Hid _ := HS9.out.step (below_dR w9 n10)
    clear HS9
    generalize w9.drewN n10 = w10 at *
    go_wp2_with fail
    refine (markByteS_any ag X w10.heap.size cg ys 1 _ HS10.out.mg (by omega) (by omega) (by omega)).mono ?_
    rintro e w11 ⟨rfl, hm11, ho11⟩
    have HS11 : Hid _ := HS10.out.markG ho11 hm11
    clear hm11 ho11 HS10
    go_wp2_with fail
    refine (heldByteS_any ag cg ys.length 1 _ HS11.out.mg.byt (by omega) (by omega) (by omega)).mono ?_
    rintro e w12 ⟨rfl, rfl⟩
    go_wp2_with fail
    refine (toSeqS_any a cap ss w12 (hb.below HS11.out.bel (Nat.le_refl _)) hn HLT.out).mono ?_
    rintro e w13 ⟨rfl, ⟨vs, hvl, hcv, ho13⟩, hb13⟩
    have HS13 : Hid _ := HS11.out.step hb13
    have HIM := HIMPL.out w13 w12.heap.size vs ho13.sqs hcv
    clear hb13 HS11 ho13 hvl hcv
    go_wp2_with fail
    refine HIM.mono ?_
    clear HIM
    rintro e w14 ⟨ah, ch, rfl, hmh, hb14⟩
    have HS14 : Hid _ := HS13.out.step hb14
    have HMH : Hid (Mine w14 w13.heap.size w14.heap.size ah ch ys) := hmh
    clear hb14 hmh HS13
    go_wp2_with fail
    refine (eqByteS_yes ah aw ch cw ys _ HMH.out.byt HS14.out.mw.byt (by omega)).mono ?_
    rintro e w15 ⟨rfl, n15, rfl⟩
    have HS15 : Hid _ := HS14.out.step (below_dR w14 n15)
    clear HS14 HMH
    generalize w14.drewN n15 = w15 at *
    go_wp2_with fail
    refine (heldByteS_any ag cg ys.length 1 _ HS15.out.mg.byt (by omega) (by omega) (by omega)).mono ?_
    rintro e w16 ⟨rfl, rfl⟩
    go_wp2
    go_ret
    exact ⟨rfl, HS15.out.bel⟩
  · clear hz
    go_wp2
    go_ret
    exact ⟨rfl, hb1⟩
end Go.Proofs.Ytgkcaohcgjcbnaa
