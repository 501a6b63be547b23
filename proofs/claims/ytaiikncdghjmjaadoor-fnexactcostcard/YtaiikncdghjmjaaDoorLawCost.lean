/-
  The law on Cost returns true, whatever is handed in, where the sentinels hold errors, and writes nothing that was there.
-/
import Derived.Test.YtaiikncdghjmjaaDoorICost2
import Derived.Test.YtaiikncdghjmjaaDoorICopy
import Derived.Test.YtaiikncdghjmjaaDoorIEq
import Derived.Test.YtaiikncdghjmjaaDoorLawLens
namespace Go.Proofs.YtaiikncdghjmjaaDoor
open Go.RowKit
set_option linter.unusedVariables false

set_option maxHeartbeats 2000000 in
theorem lawCost_any (a : Option Addr) (cap : Nat) (cs : List Int) (b : Option Addr) (cb : Nat) (ls : List Int) (w : World) (ha : Ins w a cs) (hb : Ins w b ls) (hm : cs.length ≤ maxLen) (hm2 : ls.length ≤ maxLen) (h4 : Four w) (hE : ErrT w) :
    Calls Tryd.prog 4 #[.slice a cs.length cap, .slice b ls.length cb] w fun e w' => e = .returned (.bool true) ∧ Below w.heap.size w w' := by
  by_cases hn : cs.length ≤ 1048576
  · by_cases hn2 : ls.length ≤ 1048576
    · go_enter Tryd.func4, Tryd.ntmps4
      go_wp2_with fail
      refine (toIntS_any a cap cs _ ha hn).mono ?_
      rintro e w1 ⟨rfl, ho1, hb1⟩
      go_wp2_with fail
      refine (toIntS_any b cb ls _ (hb.below hb1 (Nat.le_refl _)) hn2).mono ?_
      rintro e w2 ⟨rfl, ho2, hb2⟩
      have hbb2 : Below w.heap.size w w2 := hb1.trans (hb2.mono hb1.size)
      have ho12 := ho1.below hb2 (Nat.le_refl _)
      clear ho1 hb2
      go_wp2_with fail
      refine (specCost_any _ _ cs _ _ ls _ ho12.byt ho2.byt (by omega) (by omega)).mono ?_
      rintro e w3 ⟨rfl, n3, rfl⟩
      have hbb3 : Below w.heap.size w (w2.drewN n3) := below_drewNI hbb2 n3
      clear ho12 ho2 hbb2 hb1
      generalize w2.drewN n3 = w3 at *
      generalize hP : costN cs ls = P at *
      generalize hO : costB cs ls = O at *
      have HP : Hid (costN cs ls = P ∧ costB cs ls = O) := ⟨hP, hO⟩
      clear hP hO
      go_wp2_with fail
      refine (toIntS_any a cap cs _ (ha.below hbb3 (Nat.le_refl _)) hn).mono ?_
      rintro e w4 ⟨rfl, ho4, hb4⟩
      have hbb4 : Below w.heap.size w w4 := hbb3.trans (hb4.mono hbb3.size)
      clear hb4
      go_wp2_with fail
      refine (toIntS_any b cb ls _ (hb.below hbb4 (Nat.le_refl _)) hn2).mono ?_
      rintro e w5 ⟨rfl, ho5, hb5⟩
      have hbb5 : Below w.heap.size w w5 := hbb4.trans (hb5.mono hbb4.size)
      have ho45 := ho4.below hb5 (Nat.le_refl _)
      clear ho4 hb5
      go_wp2_with fail
      refine (implCost_any _ _ cs _ _ ls _ ho45.byt ho5.byt (by omega) (by omega) (h4.below hbb5) (hE.below hbb5)).mono ?_
      rintro e w6 ⟨rfl, hb6⟩
      rw [HP.out.1, HP.out.2]
      have hbb6 : Below w.heap.size w w6 := hbb5.trans (hb6.mono hbb5.size)
      have ho46 := ho45.below hb6 (Nat.le_refl _)
      have ho56 := ho5.below hb6 (Nat.le_refl _)
      clear ho45 ho5 hb6
      have hPP : (P != P) = false := by simp
      have hOO : (O != O) = false := by simp
      go_wp2_with fail
      refine (toIntS_any a cap cs _ (ha.below hbb6 (Nat.le_refl _)) hn).mono ?_
      rintro e w7 ⟨rfl, ho7, hb7⟩
      have hbb7 : Below w.heap.size w w7 := hbb6.trans (hb7.mono hbb6.size)
      have ho47 := ho46.below hb7 (Nat.le_refl _)
      have ho57 := ho56.below hb7 (Nat.le_refl _)
      clear ho46 ho56 hb7
      go_wp2_with fail
      refine (eqIntS_yes _ _ _ _ cs _ ho47.byt ho7.byt (by omega)).mono ?_
      rintro e w8 ⟨rfl, n8, rfl⟩
      have hbb8 : Below w.heap.size w (w7.drewN n8) := below_drewNI hbb7 n8
      have ho58 := ho57.below (B' := w7.heap.size) (below_drewNI (Below.refl _ _) n8) (Nat.le_refl _)
      clear ho47 ho57 ho7 hbb7
      generalize w7.drewN n8 = w8 at *
      go_wp2_with fail
      refine (toIntS_any b cb ls _ (hb.below hbb8 (Nat.le_refl _)) hn2).mono ?_
      rintro e w9 ⟨rfl, ho9, hb9⟩
      have hbb9 : Below w.heap.size w w9 := hbb8.trans (hb9.mono hbb8.size)
      have ho59 := ho58.below hb9 (Nat.le_refl _)
      clear ho58 hb9
      go_wp2_with fail
      refine (eqIntS_yes _ _ _ _ ls _ ho59.byt ho9.byt (by omega)).mono ?_
      rintro e w10 ⟨rfl, n10, rfl⟩
      have hbb10 : Below w.heap.size w (w9.drewN n10) := below_drewNI hbb9 n10
      clear ho59 ho9
      generalize w9.drewN n10 = w10 at *
      go_wp2
      go_ret
      exact ⟨rfl, hbb10⟩
    · go_enter Tryd.func4, Tryd.ntmps4
      go_wp2
      go_ret
      exact ⟨rfl, Below.refl _ _⟩
  · go_enter Tryd.func4, Tryd.ntmps4
    go_wp2
    go_ret
    exact ⟨rfl, Below.refl _ _⟩
end Go.Proofs.YtaiikncdghjmjaaDoor
