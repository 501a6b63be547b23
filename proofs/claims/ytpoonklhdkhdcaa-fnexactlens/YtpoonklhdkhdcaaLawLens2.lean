/-
  The law on Lens returns true, whatever is handed in, and writes nothing that was there.
-/
import Derived.Test.YtpoonklhdkhdcaaLnI
import Derived.Test.YtpoonklhdkhdcaaICopy
import Derived.Test.YtpoonklhdkhdcaaIEq
import Derived.Test.YtpoonklhdkhdcaaISnap
import Derived.Deep.RegionHeld3
namespace Go.Proofs.Ytpoonklhdkhdcaa
open Go.RowKit
set_option linter.unusedVariables false

theorem below_dN (w : World) (n : Nat) : Below w.heap.size w (w.drewN n) := below_dL (Below.refl _ _) n

set_option maxHeartbeats 2000000 in
theorem lawLens2_any (a : Option Addr) (cap : Nat) (zs : List Int) (x : Int) (w : World) (hb : Ins w a zs) (hm : zs.length ≤ maxLen) :
    Calls Try.prog 3 #[.slice a zs.length cap, .int .i64 x] w fun e w' => e = .returned (.bool true) ∧ Below w.heap.size w w' := by
  by_cases hn : zs.length ≤ 1048576
  · obtain ⟨ys, ok, hyl, hspec, himpl⟩ := lens_both zs x hn
    have HS0 : Hid _ := hspec
    have HI0 : Hid _ := himpl
    clear hspec himpl
    have hok : (ok != ok) = false := by simp
    go_enter Try.func3, Try.ntmps3
    go_wp2_with fail
    refine (toIntS_any a cap zs _ hb hn).mono ?_
    rintro e w2 ⟨rfl, ho2, hb2⟩
    go_wp2_with fail
    refine (HS0.out _ _ _ ho2.byt).mono ?_
    rintro e w3 ⟨aw, cw, rfl, hmw, hb3⟩
    have hbb3 : Below w.heap.size w w3 := hb2.trans (hb3.mono hb2.size)
    have hmw3 : MinI w3 w.heap.size w3.heap.size aw cw ys := hmw.mono hb2.size (Nat.le_refl _)
    clear hb2 hb3 ho2 hmw
    go_wp2_with fail
    refine (toIntS_any a cap zs _ (hb.below hbb3 (Nat.le_refl _)) hn).mono ?_
    rintro e w4 ⟨rfl, ho4, hb4⟩
    have hbb4 : Below w.heap.size w w4 := hbb3.trans (hb4.mono hbb3.size)
    have hmw4 := hmw3.below hb4
    have hz4 := hb4.size
    clear hmw3 hb4
    go_wp2_with fail
    refine (HI0.out _ _ _ ho4.byt).mono ?_
    rintro e w5 ⟨ag, cg, rfl, hmg, hb5⟩
    have sn5 : SnapI w w5 aw cw ys w3.heap.size (some ⟨w3.heap.size, 0, none⟩) zs.length zs w4.heap.size ag cg ys :=
      ⟨hbb4.trans (hb5.mono hbb4.size), ⟨hbb3.size, hz4, hb5.size⟩, hmw4.below hb5, .inr ⟨w3.heap.size, rfl, Nat.le_refl _, ho4.lt.2, ho4.below hb5 (Nat.le_refl _)⟩, hmg⟩
    have HS5 : Hid _ := sn5
    clear hmg hb5 hmw4 ho4 hbb4 hbb3 hz4 sn5
    generalize w3.heap.size = U at *
    generalize w4.heap.size = V at *
    go_wp2_with fail
    refine (eqIntS_yes ag aw cg cw ys _ HS5.out.mg.byt HS5.out.mw.byt (by omega)).mono ?_
    rintro e w6 ⟨rfl, n6, rfl⟩
    have HS6 : Hid _ := HS5.out.step (below_dN w5 n6)
    clear HS5
    generalize w5.drewN n6 = w6 at *
    go_wp2_with fail
    refine (toIntS_any a cap zs _ (hb.below HS6.out.bel (Nat.le_refl _)) hn).mono ?_
    rintro e w7 ⟨rfl, ho7, hb7⟩
    have HS7 : Hid _ := HS6.out.step hb7
    clear HS6 hb7
    go_wp2_with fail
    refine (eqIntS_yes _ _ _ _ zs _ HS7.out.mx.byt ho7.byt (by omega)).mono ?_
    rintro e w8 ⟨rfl, n8, rfl⟩
    have HS8 : Hid _ := HS7.out.step (below_dN w7 n8)
    clear HS7 ho7
    generalize w7.drewN n8 = w8 at *
    go_wp2_with fail
    refine (markIntS_any _ U V zs.length zs 1 _ HS8.out.mx (by omega) (by omega) (by omega)).mono ?_
    rintro e w9 ⟨rfl, hm9, ho9⟩
    have HS9 : Hid _ := HS8.out.markX ho9 hm9
    clear hm9 ho9 HS8
    go_wp2_with fail
    refine (eqIntS_yes ag aw cg cw ys _ HS9.out.mg.byt HS9.out.mw.byt (by omega)).mono ?_
    rintro e w10 ⟨rfl, n10, rfl⟩
    have HS10 : Hid _ := HS9.out.step (below_dN w9 n10)
    clear HS9
    generalize w9.drewN n10 = w10 at *
    go_wp2_with fail
    refine (markIntS_any ag V w10.heap.size cg ys 1 _ HS10.out.mg (by omega) (by omega) (by omega)).mono ?_
    rintro e w11 ⟨rfl, hm11, ho11⟩
    have HS11 : Hid _ := HS10.out.markG ho11 hm11
    clear hm11 ho11 HS10
    go_wp2_with fail
    refine (heldIntS_any ag cg ys.length 1 _ HS11.out.mg.byt (by omega) (by omega) (by omega)).mono ?_
    rintro e w12 ⟨rfl, rfl⟩
    go_wp2_with fail
    refine (toIntS_any a cap zs _ (hb.below HS11.out.bel (Nat.le_refl _)) hn).mono ?_
    rintro e w13 ⟨rfl, ho13, hb13⟩
    have HS13 : Hid _ := HS11.out.step hb13
    clear HS11 hb13
    go_wp2_with fail
    refine (HI0.out _ _ _ ho13.byt).mono ?_
    rintro e w14 ⟨ah, ch, rfl, hmh, hb14⟩
    have HS14 : Hid _ := HS13.out.step hb14
    have HMH : Hid (MinI w14 w13.heap.size w14.heap.size ah ch ys) := hmh
    clear HS13 hb14 ho13 hmh
    go_wp2_with fail
    refine (eqIntS_yes ah aw ch cw ys _ HMH.out.byt HS14.out.mw.byt (by omega)).mono ?_
    rintro e w15 ⟨rfl, n15, rfl⟩
    have HS15 : Hid _ := HS14.out.step (below_dN w14 n15)
    clear HS14 HMH
    generalize w14.drewN n15 = w15 at *
    go_wp2_with fail
    refine (heldIntS_any ag cg ys.length 1 _ HS15.out.mg.byt (by omega) (by omega) (by omega)).mono ?_
    rintro e w16 ⟨rfl, rfl⟩
    go_wp2
    go_ret
    exact ⟨rfl, HS15.out.bel⟩
  · go_enter Try.func3, Try.ntmps3
    go_wp2
    go_ret
    exact ⟨rfl, Below.refl _ _⟩
end Go.Proofs.Ytpoonklhdkhdcaa
