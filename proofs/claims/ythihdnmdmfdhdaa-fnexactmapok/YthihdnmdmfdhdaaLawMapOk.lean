/-
  The law on MapOk returns true, whatever is handed in, and writes nothing that was there.
-/
import Derived.Test.YthihdnmdmfdhdaaMpAt
import Derived.Test.YthihdnmdmfdhdaaMpOkS
import Derived.Test.YthihdnmdmfdhdaaPlTo
import Derived.Test.YthihdnmdmfdhdaaPlEq
namespace Go.Proofs.Ythihdnmdmfdhdaa
open Go.RowKit
set_option linter.unusedVariables false

set_option maxHeartbeats 4000000 in
theorem lawMapOk_any (a : Option Addr) (cap : Nat) (ps : List (Int × Int)) (w : World) (hb : Pls w a ps) (hm : ps.length ≤ maxLen) :
    Calls Try.prog 3 #[.agg #[.slice a ps.length cap]] w fun e w' => e = .returned (.bool true) ∧ Below w.heap.size w w' := by
  have hw : Below w.heap.size w (w.alloc (Obj.cells #[Value.slice a ps.length cap] 24)) := (Below.refl _ _).alloc (Nat.le_refl _) _
  have HB : Hid (Pls w a ps) := hb
  clear hb
  by_cases hn : ps.length ≤ 1048576
  · have HSZ := szMap_any a ps.length cap (w.alloc (Obj.cells #[Value.slice a ps.length cap] 24)) hm
    rw [if_pos (by omega)] at HSZ
    go_enter Try.func3, Try.ntmps3
    go_wp2_with fail
    refine HSZ.mono ?_
    clear HSZ
    rintro e w1 ⟨rfl, hb1⟩
    have z1 : w.heap.size < w1.heap.size := by have := hb1.size; simp at this; omega
    have p1 : w1.cell? ⟨w.heap.size, 0, none⟩ = some (.slice a ps.length cap) := keep hb1 (by simp) (by simp)
    have HB1 : Hid (Below w.heap.size w w1) := hw.trans (hb1.mono (by simp))
    clear hb1 hw
    go_wp2_with fail
    refine (toMap_any a cap ps w1 (HB.out.below HB1.out (Nat.le_refl _)) hn).mono ?_
    rintro e w2 ⟨g2, rfl, ho2, hb2⟩
    have p2 := keep hb2 z1 p1
    have z2 : w.heap.size < w2.heap.size := by have := hb2.size; omega
    have HB2 : Hid (Below w.heap.size w w2) := HB1.out.trans (hb2.mono (by omega))
    have HSP := specMapOk_any (some ⟨g2, 0, none⟩) ps.length ps w2 ho2.pls hn
    clear hb2 HB1 p1 ho2
    generalize hR : mapB ps = R at *
    have HR : Hid (mapB ps = R ∧ True) := ⟨hR, trivial⟩
    clear hR
    have hRR : (R != R) = false := by simp
    go_wp2_with fail
    refine HSP.mono ?_
    clear HSP
    rintro e w3 ⟨rfl, hb3⟩
    have p3 := keep hb3 z2 p2
    have z3 : w.heap.size < w3.heap.size := by have := hb3.size; omega
    have HB3 : Hid (Below w.heap.size w w3) := HB2.out.trans (hb3.mono (by omega))
    clear hb3 HB2 p2
    go_wp2_with fail
    refine (toMap_any a cap ps w3 (HB.out.below HB3.out (Nat.le_refl _)) hn).mono ?_
    rintro e w4 ⟨g4, rfl, ho4, hb4⟩
    have HB4 : Hid (Below w.heap.size w w4) := HB3.out.trans (hb4.mono (by omega))
    have p4 := keep hb4 z3 p3
    have z4 : w.heap.size < w4.heap.size := by have := hb4.size; omega
    have hba : Below w4.heap.size w4 (w4.alloc (Obj.cells #[Value.slice (some ⟨g4, 0, none⟩) ps.length ps.length] 29)) := (Below.refl _ _).alloc (Nat.le_refl _) _
    have HO5 : Hid (OwP (w4.alloc (Obj.cells #[Value.slice (some ⟨g4, 0, none⟩) ps.length ps.length] 29)) w3.heap.size g4 ps.length ps) := OVp.below ho4 hba
    have p5 := keep hba z4 p4
    have q5 : (w4.alloc (Obj.cells #[Value.slice (some ⟨g4, 0, none⟩) ps.length ps.length] 29)).cell? ⟨w4.heap.size, 0, none⟩ = some (.slice (some ⟨g4, 0, none⟩) ps.length ps.length) := by simp
    have y5 : w4.heap.size < (w4.alloc (Obj.cells #[Value.slice (some ⟨g4, 0, none⟩) ps.length ps.length] 29)).heap.size := by simp
    have HB5 : Hid (Below w.heap.size w (w4.alloc (Obj.cells #[Value.slice (some ⟨g4, 0, none⟩) ps.length ps.length] 29))) := HB4.out.trans (hba.mono (by omega))
    clear hba ho4 hb4 HB4 p4 HB3 p3
    go_wp2_with fail
    generalize w4.heap.size = X at *
    generalize w4.alloc (Obj.cells #[Value.slice (some ⟨g4, 0, none⟩) ps.length ps.length] 29) = w5 at *
    have HIM := implMapOk_any (some ⟨g4, 0, none⟩) ps.length ps w5 HO5.out.pls hn
    rw [HR.out.1] at HIM
    refine HIM.mono ?_
    clear HIM
    rintro e w6 ⟨rfl, hb6⟩
    have z5 : w.heap.size < w5.heap.size := by omega
    have HP6 : Hid (w6.cell? ⟨X, 0, none⟩ = some (.slice (some ⟨g4, 0, none⟩) ps.length ps.length) ∧ w6.cell? ⟨w.heap.size, 0, none⟩ = some (.slice a ps.length cap)) := ⟨keep hb6 y5 q5, keep hb6 z5 p5⟩
    have HB6 : Hid (Below w.heap.size w w6) := HB5.out.trans (hb6.mono (by omega))
    have HO6 : Hid (OwP w6 w3.heap.size g4 ps.length ps) := OVp.below HO5.out hb6
    have y6 : X < w6.heap.size := Nat.lt_of_lt_of_le y5 hb6.size
    have z6 : w.heap.size < w6.heap.size := Nat.lt_of_lt_of_le z5 hb6.size
    clear hb6 HB5 HO5 p5 q5
    go_wp2_with fail
    go_region_held3 (fun W => W.cell? ⟨X, 0, none⟩ = some (.slice (some ⟨g4, 0, none⟩) ps.length ps.length) ∧ W.cell? ⟨w.heap.size, 0, none⟩ = some (.slice a ps.length cap))
      (first | exact HP6.out | exact HP7.out | exact HP8.out)
      (first
        | (go_at_call 12; refine (toMap_any a cap ps _ (HB.out.below HB6.out.drew (Nat.le_refl _)) hn).mono ?_; rintro e w7 ⟨g7, rfl, ho7, hb7'⟩; have hb7 : Below w6.heap.size w6 w7 := Below.drewS hb7'; have HO7 : Hid (OwP w7 w3.heap.size g4 ps.length ps ∧ Pls w7 (some ⟨g7, 0, none⟩) ps) := ⟨OVp.below HO6.out hb7, ho7.pls⟩; have HP7 : Hid (w7.cell? ⟨X, 0, none⟩ = some (.slice (some ⟨g4, 0, none⟩) ps.length ps.length) ∧ w7.cell? ⟨w.heap.size, 0, none⟩ = some (.slice a ps.length cap)) := ⟨keep hb7 y6 HP6.out.1, keep hb7 z6 HP6.out.2⟩; have HB7 : Hid (Below w.heap.size w w7) := HB6.out.trans (hb7.mono (by omega)); have z7 : w6.heap.size ≤ w7.heap.size := hb7.size; clear hb7 hb7' ho7)
        | (go_at_call 14; refine (eqMap_yes _ _ _ _ ps w7 (by exact HO7.out.1.pls) (by exact HO7.out.2) hn).mono ?_; rintro e w8 ⟨rfl, hb8⟩; have HP8 : Hid (w8.cell? ⟨X, 0, none⟩ = some (.slice (some ⟨g4, 0, none⟩) ps.length ps.length) ∧ w8.cell? ⟨w.heap.size, 0, none⟩ = some (.slice a ps.length cap)) := ⟨keep hb8 (by omega) HP7.out.1, keep hb8 (by omega) HP7.out.2⟩; have HB8 : Hid (Below w.heap.size w w8) := HB7.out.trans (hb8.mono (by omega)); clear hb8))
    clear HP6 HP7 HO7 HB7
    go_wp2
    go_ret
    exact ⟨rfl, HB8.out⟩
  · have HSZ := szMap_any a ps.length cap (w.alloc (Obj.cells #[Value.slice a ps.length cap] 24)) hm
    rw [if_neg (by omega)] at HSZ
    go_enter Try.func3, Try.ntmps3
    go_wp2_with fail
    refine HSZ.mono ?_
    clear HSZ
    rintro e w1 ⟨rfl, hb1⟩
    have HB1 : Hid (Below w.heap.size w w1) := hw.trans (hb1.mono (by simp))
    clear hb1
    go_wp2
    go_ret
    exact ⟨rfl, HB1.out⟩
end Go.Proofs.Ythihdnmdmfdhdaa
