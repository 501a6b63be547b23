/-
  The law on SeqsOk returns true, whatever is handed in, and writes nothing that was there.
-/
import Derived.Test.YtgkcaohcgjcbnaaSqB
import Derived.Test.YtgkcaohcgjcbnaaSqTo
import Derived.Test.YtgkcaohcgjcbnaaSqSz
import Derived.Test.YtgkcaohcgjcbnaaSqEq
namespace Go.Proofs.Ytgkcaohcgjcbnaa
open Go.RowKit
set_option linter.unusedVariables false

theorem len_ct {ss ts : List Sq} (h : ts.map Sq.ct = ss.map Sq.ct) : ts.length = ss.length := by have := congrArg List.length h; simpa using this
theorem lets_all {ss : List Sq} {B : Nat} (h : lets ss ≤ B) : ∀ s ∈ ss, s.ls.length ≤ B := fun s hs => Nat.le_trans (lets_mem hs) h

set_option maxHeartbeats 2000000 in
theorem lawSeqsOk_any (a : Option Addr) (cap : Nat) (ss : List Sq) (w : World) (hb : Sqs w a ss) (hm : ss.length ≤ maxLen) :
    Calls Try.prog 3 #[.slice a ss.length cap] w fun e w' => e = .returned (.bool true) ∧ Below w.heap.size w w' := by
  go_enter Try.func3, Try.ntmps3
  go_wp2_with fail
  refine (szSeqS_any a cap ss w hb hm).mono ?_
  rintro e w1 ⟨⟨z, rfl, hz⟩, hb1⟩
  by_cases hz0 : 0 ≤ z
  · have hsz := hz hz0
    have HLT : Hid (∀ s ∈ ss, s.ls.length ≤ 1048576) := lets_all (by omega)
    have hn : ss.length ≤ 1048576 := by omega
    clear hz hsz
    go_wp2_with fail
    refine (toSeqS_any a cap ss w1 (hb.below hb1 (Nat.le_refl _)) hn HLT.out).mono ?_
    rintro e w2 ⟨rfl, ⟨ts, htl, hct, ho2⟩, hb2⟩
    have HT : Hid (∀ s ∈ ts, s.ls.length ≤ 281474976710656) := fun s hs => by
      obtain ⟨i, hi, rfl⟩ := List.mem_iff_getElem.1 hs
      have h1 := ct_get hct i
      have h2 := HLT.out _ (getD_memS (ss := ss) (k := i) (by omega))
      simp only [Sq.ct, Prod.mk.injEq] at h1
      rw [← h1.1] at h2
      rw [List.getD_eq_getElem?_getD, List.getElem?_eq_getElem hi] at h2
      simp at h2
      omega
    have hbb2 : Below w.heap.size w w2 := hb1.trans (hb2.mono hb1.size)
    have HSP := specSeqsOk_any (some ⟨w1.heap.size, 0, none⟩) ss.length ts w2 ho2.sqs (by omega) HT.out
    rw [htl, sqn_ct hct] at HSP
    clear ho2 hb2 hb1 hct htl HT
    clear ts
    go_wp2_with fail
    refine HSP.mono ?_
    clear HSP
    rintro e w3 ⟨rfl, hb3⟩
    have hbb3 : Below w.heap.size w w3 := hbb2.trans (hb3.mono hbb2.size)
    clear hb3 hbb2
    go_wp2_with fail
    refine (toSeqS_any a cap ss w3 (hb.below hbb3 (Nat.le_refl _)) hn HLT.out).mono ?_
    rintro e w4 ⟨rfl, ⟨ts, htl, hct, ho4⟩, hb4⟩
    have HT : Hid (∀ s ∈ ts, s.ls.length ≤ 281474976710656) := fun s hs => by
      obtain ⟨i, hi, rfl⟩ := List.mem_iff_getElem.1 hs
      have h1 := ct_get hct i
      have h2 := HLT.out _ (getD_memS (ss := ss) (k := i) (by omega))
      simp only [Sq.ct, Prod.mk.injEq] at h1
      rw [← h1.1] at h2
      rw [List.getD_eq_getElem?_getD, List.getElem?_eq_getElem hi] at h2
      simp at h2
      omega
    have hbb4 : Below w.heap.size w w4 := hbb3.trans (hb4.mono hbb3.size)
    have HIM := implSeqsOk_any (some ⟨w3.heap.size, 0, none⟩) ss.length ts w4 ho4.sqs (by omega) HT.out
    rw [htl, sqn_ct hct] at HIM
    have HCT : Hid (ts.map Sq.ct = ss.map Sq.ct) := hct
    have HTL : Hid (ts.length = ss.length) := htl
    have HO4 : Hid (OwS w4 w3.heap.size w3.heap.size ss.length ts) := ho4
    clear hb4 hct htl ho4
    go_wp2_with fail
    refine HIM.mono ?_
    clear HIM
    rintro e w5 ⟨rfl, hb5⟩
    have hbb5 : Below w.heap.size w w5 := hbb4.trans (hb5.mono hbb4.size)
    have HO5 : Hid (OwS w5 w3.heap.size w3.heap.size ss.length ts) := HO4.out.below hb5
    clear hb5 HO4 hbb3 hbb4
    generalize (sqn ss).isSome = O at *
    have hOO : (O != O) = false := by simp
    go_wp2_with fail
    refine (toSeqS_any a cap ss w5 (hb.below hbb5 (Nat.le_refl _)) hn HLT.out).mono ?_
    rintro e w6 ⟨rfl, ⟨us, hul, hcu, ho6⟩, hb6⟩
    have hbb6 : Below w.heap.size w w6 := hbb5.trans (hb6.mono hbb5.size)
    have HEQ := eqSeqS_yes (some ⟨w3.heap.size, 0, none⟩) (some ⟨w5.heap.size, 0, none⟩) ss.length ss.length ts us w6 (HO5.out.below hb6).sqs ho6.sqs (HCT.out.trans hcu.symm) (by rw [HTL.out]; omega) HT.out
    rw [HTL.out] at HEQ
    clear hb6 ho6 hcu hul HO5
    go_wp2_with fail
    refine HEQ.mono ?_
    clear HEQ
    rintro e w7 ⟨rfl, hb7⟩
    have hbb7 : Below w.heap.size w w7 := hbb6.trans (hb7.mono hbb6.size)
    go_wp2
    go_ret
    exact ⟨rfl, hbb7⟩
  · clear hz
    go_wp2
    go_ret
    exact ⟨rfl, hb1⟩
end Go.Proofs.Ytgkcaohcgjcbnaa
