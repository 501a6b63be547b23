/-
  The law on MapLive returns true, whatever is handed in, and writes nothing that was there.
-/
import Derived.Test.YthihdnmdmfdhdaaMpLive
import Derived.Test.YthihdnmdmfdhdaaSnp
import Derived.Test.YthihdnmdmfdhdaaPlTo
import Derived.Test.YthihdnmdmfdhdaaPlEq
import Derived.Test.YthihdnmdmfdhdaaIEq
namespace Go.Proofs.Ythihdnmdmfdhdaa
open Go.RowKit
set_option linter.unusedVariables false

theorem lvL_len (ps : List (Int × Int)) (s : Int) : (lvL ps s).length ≤ 16 := by
  unfold lvL
  split
  · rename_i h
    have := liv_len ps ps.length s
    have := (mapB_len ps h).2
    omega
  · simp

set_option maxRecDepth 20000 in
set_option maxHeartbeats 8000000 in
theorem lawMapLive_any (a : Option Addr) (cap : Nat) (ps : List (Int × Int)) (s : Int) (w : World) (hb : Pls w a ps) (hm : ps.length ≤ maxLen) (hs : -9223372036854775808 ≤ s ∧ s ≤ 9223372036854775807) :
    Calls Try.prog 6 #[.agg #[.slice a ps.length cap], .int .i64 s] w fun e w' => e = .returned (.bool true) ∧ Below w.heap.size w w' := by
  have hw : Below w.heap.size w (w.alloc (Obj.cells #[Value.slice a ps.length cap] 24)) := (Below.refl _ _).alloc (Nat.le_refl _) _
  have HB : Hid (Pls w a ps) := hb
  clear hb
  by_cases hn : ps.length ≤ 1048576
  · have HSZ := szMap_any a ps.length cap (w.alloc (Obj.cells #[Value.slice a ps.length cap] 24)) hm
    rw [if_pos (by omega)] at HSZ
    have hll := lvL_len ps s
    have HSPEC : Hid (∀ (a : Option Addr) (cap : Nat) (w : World), Pls w a ps → Calls Try.prog 22 #[.agg #[.slice a ps.length cap], .int .i64 s] w fun e w' => (∃ a c, e = .returned (.slice a (lvL ps s).length c) ∧ MinI w' w.heap.size w'.heap.size a c (lvL ps s)) ∧ Below w.heap.size w w') := fun a cap w h => specMapLive_any a cap ps s w h hn hs
    have HIMPL : Hid (∀ (a : Option Addr) (cap : Nat) (w : World), Pls w a ps → Calls Try.prog 23 #[.agg #[.slice a ps.length cap], .int .i64 s] w fun e w' => (∃ a c, e = .returned (.slice a (lvL ps s).length c) ∧ MinI w' w.heap.size w'.heap.size a c (lvL ps s)) ∧ Below w.heap.size w w') := fun a cap w h => implMapLive_any a cap ps s w h hn hs
    generalize lvL ps s = ls at *
    go_enter Try.func6, Try.ntmps6
    go_wp2_with fail
    refine HSZ.mono ?_
    clear HSZ
    rintro e w1 ⟨rfl, hb1⟩
    have z1 : w.heap.size < w1.heap.size := by have := hb1.size; simp at this; omega
    have p1 : w1.cell? ⟨w.heap.size, 0, none⟩ = some (.slice a ps.length cap) := keep hb1 (by simp) (by simp)
    have HB1 : Hid (Below w.heap.size w w1) := hw.trans (hb1.mono (by simp))
    clear hb1 hw
    go_wp2_with fail
    refine (toMap_any a cap ps w1 (HB.out.below HB1.out (Nat.le_refl _)) hn).mono ?_
    rintro e w2 ⟨g2, rfl, ho2, hb2⟩
    have p2 := keep hb2 z1 p1
    have z2 : w.heap.size < w2.heap.size := by have := hb2.size; omega
    have HB2 : Hid (Below w.heap.size w w2) := HB1.out.trans (hb2.mono (by omega))
    have HSP := HSPEC.out (some ⟨g2, 0, none⟩) ps.length w2 ho2.pls
    clear hb2 HB1 p1 ho2 HSPEC
    go_wp2_with fail
    refine HSP.mono ?_
    clear HSP
    rintro e w3 ⟨⟨aw, cw, rfl, hmw⟩, hb3⟩
    have p3 := keep hb3 z2 p2
    have z3 : w.heap.size < w3.heap.size := by have := hb3.size; omega
    have HB3 : Hid (Below w.heap.size w w3 ∧ MinI w3 (w.heap.size + 1) w3.heap.size aw cw ls) := ⟨HB2.out.trans (hb3.mono (by omega)), hmw.mono (by omega) (Nat.le_refl _)⟩
    clear hb3 HB2 p2 hmw
    go_wp2_with fail
    refine (toMap_any a cap ps w3 (HB.out.below HB3.out.1 (Nat.le_refl _)) hn).mono ?_
    rintro e w4 ⟨g4, rfl, ho4, hb4⟩
    have hba : Below w4.heap.size w4 (w4.alloc (Obj.cells #[Value.slice (some ⟨g4, 0, none⟩) ps.length ps.length] 29)) := (Below.refl _ _).alloc (Nat.le_refl _) _
    have hb5 := hb4.trans (hba.mono hb4.size)
    have HO5 : Hid (OwP (w4.alloc (Obj.cells #[Value.slice (some ⟨g4, 0, none⟩) ps.length ps.length] 29)) w3.heap.size g4 ps.length ps ∧ g4 < w4.heap.size) := ⟨OVp.below ho4 hba, ho4.lt.2⟩
    have p5 := keep hb5 z3 p3
    have q5 : (w4.alloc (Obj.cells #[Value.slice (some ⟨g4, 0, none⟩) ps.length ps.length] 29)).cell? ⟨w4.heap.size, 0, none⟩ = some (.slice (some ⟨g4, 0, none⟩) ps.length ps.length) := by simp
    have y5 : w4.heap.size + 1 = (w4.alloc (Obj.cells #[Value.slice (some ⟨g4, 0, none⟩) ps.length ps.length] 29)).heap.size := by simp
    have HB5 : Hid (Below w.heap.size w (w4.alloc (Obj.cells #[Value.slice (some ⟨g4, 0, none⟩) ps.length ps.length] 29)) ∧ MinI (w4.alloc (Obj.cells #[Value.slice (some ⟨g4, 0, none⟩) ps.length ps.length] 29)) (w.heap.size + 1) w3.heap.size aw cw ls ∧ w3.heap.size ≤ w4.heap.size) := ⟨HB3.out.1.trans (hb5.mono (by omega)), HB3.out.2.below hb5, hb4.size⟩
    have HY5 : Hid (w4.heap.size + 1 = (w4.alloc (Obj.cells #[Value.slice (some ⟨g4, 0, none⟩) ps.length ps.length] 29)).heap.size ∧ True) := ⟨y5, trivial⟩
    clear hba ho4 hb4 hb5 HB3 p3 y5
    go_wp2_with fail
    generalize w4.alloc (Obj.cells #[Value.slice (some ⟨g4, 0, none⟩) ps.length ps.length] 29) = w5 at *
    generalize w4.heap.size = X at *
    generalize w3.heap.size = U at *
    have HIM := HIMPL.out (some ⟨g4, 0, none⟩) ps.length w5 HO5.out.1.pls
    refine HIM.mono ?_
    clear HIM
    rintro e w6 ⟨⟨ag, cg, rfl, hmg⟩, hb6⟩
    have HS6 : Hid (Snp w w6 (w.heap.size + 1) U (X + 1) w6.heap.size (fun W => W.cell? ⟨w.heap.size, 0, none⟩ = some (.slice a ps.length cap)) (fun W => MinI W (w.heap.size + 1) U aw cw ls) (fun W => MinP W U X (some ⟨g4, 0, none⟩) ps.length ps ∧ W.cell? ⟨X, 0, none⟩ = some (.slice (some ⟨g4, 0, none⟩) ps.length ps.length)) (fun W => MinI W (X + 1) w6.heap.size ag cg ls)) := by
      have hx := HB5.out.2.2
      have hy := HY5.out.1
      have h6 := hb6.size
      refine ⟨HB5.out.1.trans (hb6.mono (by omega)), by omega, Stab.cell (Nat.le_refl _) (by omega), keep hb6 (by omega) p5, Stab.minI (Nat.le_refl _) (Nat.le_refl _), HB5.out.2.1.below hb6, (Stab.minP (Nat.le_refl _) (by omega)).and (Stab.cell hx (by omega)), ⟨.inr ⟨g4, rfl, HO5.out.1.lt.1, HO5.out.2, OVp.below HO5.out.1 hb6⟩, keep hb6 (by omega) q5⟩, Stab.minI (Nat.le_refl _) (Nat.le_refl _), hmg.mono (by omega) (Nat.le_refl _)⟩
    clear hmg hb6 HB5 HO5 p5 q5 HY5
    generalize w6.heap.size = Z at *
    go_wp2_with fail
    refine (eqIntS_yes ag aw cg cw ls w6 HS6.out.hg.byt HS6.out.hw.byt (by omega)).mono ?_
    rintro e w7 ⟨rfl, n7, rfl⟩
    have HS7 : Hid _ := HS6.out.drew n7
    clear HS6
    generalize w6.drewN n7 = w7 at *
    go_wp2_with fail
    go_region_held3 (fun W => W.cell? ⟨X, 0, none⟩ = some (.slice (some ⟨g4, 0, none⟩) ps.length ps.length) ∧ W.cell? ⟨w.heap.size, 0, none⟩ = some (.slice a ps.length cap))
      (first | exact ⟨HS7.out.hx.2, HS7.out.hb⟩ | exact ⟨HS8.out.hx.2, HS8.out.hb⟩ | exact ⟨HS9.out.hx.2, HS9.out.hb⟩)
      (first
        | (go_at_call 12; refine (toMap_any a cap ps _ (HB.out.below HS7.out.bel.drew (Nat.le_refl _)) hn).mono ?_; rintro e w8 ⟨g8, rfl, ho8', hb8'⟩; have ho8 : Hid (Pls w8 (some ⟨g8, 0, none⟩) ps) := ho8'.pls; have HS8 : Hid _ := HS7.out.step (Below.drewS hb8'); clear ho8' hb8')
        | (go_at_call 14; refine (eqMap_yes _ _ _ _ ps w8 (by exact HS8.out.hx.1.pls) (by exact ho8.out) hn).mono ?_; rintro e w9 ⟨rfl, hb9⟩; have HS9 : Hid _ := HS8.out.step hb9; clear hb9))
    clear HS7 HS8 ho8
    have q9 := HS9.out.hx.2
    go_wp2_with fail
    refine (markMap_any (some ⟨g4, 0, none⟩) U X ps.length ps 1 _ HS9.out.hx.1 (by have := HS9.out.ord; omega) hn (by omega) (by omega)).mono ?_
    rintro e w10 ⟨rfl, hm10, ho10⟩
    have HS10 : Hid _ := HS9.out.markX ho10 (fun k hk => by have := hm10.row hk; omega) (Stab.minP (B := U) (U := X) (a := some ⟨g4, 0, none⟩) (c := ps.length) (zs := mkP 1 ps.length) (Nat.le_refl _) (by omega)) hm10
    clear hm10 ho10 HS9 q9
    go_wp2_with fail
    refine (eqIntS_yes ag aw cg cw ls w10 HS10.out.hg.byt HS10.out.hw.byt (by omega)).mono ?_
    rintro e w11 ⟨rfl, n11, rfl⟩
    have HS11 : Hid _ := HS10.out.drew n11
    clear HS10
    generalize w10.drewN n11 = w11 at *
    go_wp2_with fail
    refine (markIntS_any ag (X + 1) Z cg ls 1 _ HS11.out.hg (by omega) (by omega) (by omega)).mono ?_
    rintro e w12 ⟨rfl, hm12, ho12⟩
    have HS12 : Hid _ := HS11.out.markG ho12 (fun k hk => hm12.rowT hk) (Stab.minI (B := X + 1) (U := Z) (a := ag) (c := cg) (zs := marksI 1 ls.length) (Nat.le_refl _) (Nat.le_refl _)) hm12
    clear hm12 ho12 HS11
    go_wp2_with fail
    refine (heldIntS_any ag cg ls.length 1 _ HS12.out.hg.byt (by omega) (by omega) (by omega)).mono ?_
    rintro e w13 ⟨rfl, rfl⟩
    have p12 := HS12.out.hb
    go_wp2_with fail
    refine (toMap_any a cap ps _ (HB.out.below HS12.out.bel (Nat.le_refl _)) hn).mono ?_
    rintro e w14 ⟨g14, rfl, ho14, hb14⟩
    have HS14 : Hid _ := HS12.out.step hb14
    have HIM := HIMPL.out (some ⟨g14, 0, none⟩) ps.length w14 ho14.pls
    clear hb14 ho14 HS12 p12 HIMPL
    go_wp2_with fail
    refine HIM.mono ?_
    clear HIM
    rintro e w15 ⟨⟨ah, ch, rfl, hmh⟩, hb15⟩
    have HS15 : Hid _ := HS14.out.step hb15
    have HMH : Hid (Ins w15 ah ls) := hmh.byt
    clear hmh hb15 HS14
    go_wp2_with fail
    refine (eqIntS_yes ah aw ch cw ls w15 HMH.out HS15.out.hw.byt (by omega)).mono ?_
    rintro e w16 ⟨rfl, n16, rfl⟩
    have HS16 : Hid _ := HS15.out.drew n16
    clear HS15 HMH
    generalize w15.drewN n16 = w16 at *
    go_wp2_with fail
    refine (heldIntS_any ag cg ls.length 1 _ HS16.out.hg.byt (by omega) (by omega) (by omega)).mono ?_
    rintro e w17 ⟨rfl, rfl⟩
    go_wp2
    go_ret
    exact ⟨rfl, HS16.out.bel⟩
  · have HSZ := szMap_any a ps.length cap (w.alloc (Obj.cells #[Value.slice a ps.length cap] 24)) hm
    rw [if_neg (by omega)] at HSZ
    go_enter Try.func6, Try.ntmps6
    go_wp2_with fail
    refine HSZ.mono ?_
    clear HSZ
    rintro e w1 ⟨rfl, hb1⟩
    have HB1 : Hid (Below w.heap.size w w1) := hw.trans (hb1.mono (by simp))
    clear hb1
    go_wp2
    go_ret
    exact ⟨rfl, HB1.out⟩
end Go.Proofs.Ythihdnmdmfdhdaa
