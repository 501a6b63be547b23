/-
  The law on CountsOk returns true, whatever is handed in, and writes nothing that was there.
-/
import Derived.Test.YtaiikncdghjmjaaICnt
import Derived.Test.YtaiikncdghjmjaaICopy
import Derived.Test.YtaiikncdghjmjaaIEq
namespace Go.Proofs.Ytaiikncdghjmjaa
open Go.RowKit
set_option linter.unusedVariables false

theorem below_drewNI {B : Nat} {a b : World} (h : Below B a b) (n : Nat) : Below B a (b.drewN n) := ⟨h.os, h.tape, h.output, h.size, h.block⟩

set_option maxHeartbeats 1000000 in
theorem lawCnt_any (a : Option Addr) (cap : Nat) (zs : List Int) (w : World) (hb : Ins w a zs) (hm : zs.length ≤ maxLen) :
    Calls Try.prog 3 #[.slice a zs.length cap] w fun e w' => e = .returned (.bool true) ∧ Below w.heap.size w w' := by
  by_cases hn : zs.length ≤ 1048576
  · go_enter Try.func3, Try.ntmps3
    go_wp2_with fail
    refine (toIntS_any a cap zs _ hb hn).mono ?_
    rintro e w2 ⟨rfl, ho2, hb2⟩
    go_wp2_with fail
    refine (specCnt_any _ _ zs _ ho2.byt (by omega)).mono ?_
    rintro e w3 ⟨rfl, n3, rfl⟩
    have hb3 : Below w.heap.size w (w2.drewN n3) := below_drewNI hb2 n3
    clear ho2 hb2
    generalize w2.drewN n3 = w3 at *
    generalize hO : cntB zs = O at *
    have HO : Hid (cntB zs = O) := hO
    clear hO
    go_wp2_with fail
    refine (toIntS_any a cap zs _ (hb.below hb3 (Nat.le_refl _)) hn).mono ?_
    rintro e w4 ⟨rfl, ho4, hb4⟩
    have hb4' : Below w.heap.size w w4 := hb3.trans (hb4.mono hb3.size)
    go_wp2_with fail
    refine (implCnt_any _ _ zs _ ho4.byt (by omega)).mono ?_
    rintro e w5 ⟨rfl, rfl⟩
    rw [HO.out]
    have hOO : (O != O) = false := by simp
    go_wp2_with fail
    refine (toIntS_any a cap zs _ (hb.below hb4' (Nat.le_refl _)) hn).mono ?_
    rintro e w6 ⟨rfl, ho6, hb6⟩
    have hb6' : Below w.heap.size w w6 := hb4'.trans (hb6.mono hb4'.size)
    go_wp2_with fail
    refine (eqIntS_yes _ _ _ _ zs _ (ho4.below hb6 (Nat.le_refl _)).byt ho6.byt (by omega)).mono ?_
    rintro e w7 ⟨rfl, n7, rfl⟩
    have hb7 : Below w.heap.size w (w6.drewN n7) := below_drewNI hb6' n7
    clear ho4 ho6 hb4 hb6
    generalize w6.drewN n7 = w7 at *
    go_wp2
    go_ret
    exact ⟨rfl, hb7⟩
  · go_enter Try.func3, Try.ntmps3
    go_wp2
    go_ret
    exact ⟨rfl, Below.refl _ _⟩
end Go.Proofs.Ytaiikncdghjmjaa
