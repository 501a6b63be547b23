/-
  The law on BitsSeal returns true, whatever is handed in, and writes nothing that was there.
-/
import Derived.Test.YtkojinmnmmbidaaDoorSeal1
import Derived.Test.YtkojinmnmmbidaaDoorSnapS
import Derived.Test.YtkojinmnmmbidaaDoorSz
import Derived.Test.YtkojinmnmmbidaaDoorToB
import Derived.Test.YtkojinmnmmbidaaDoorEqB
import Derived.Test.YtkojinmnmmbidaaDoorMarksB
import Derived.Deep.RegionWith
namespace Go.Proofs.YtkojinmnmmbidaaDoor
open Go.RowKit
set_option linter.unusedVariables false

/-- The model and the program seal alike. -/
theorem seal_both (N : Int) (zs : List Int) (hl : zs.length ≤ 1048576) : ∃ (ys : List Int) (ok : Bool), ys.length ≤ 1048576 ∧
    (∀ (a : Option Addr) (cap : Nat) (w : World), Byt w a zs → Calls Tryd.prog 34 #[.agg #[.slice a zs.length cap, .int .i64 N]] w fun e w' =>
      ∃ a' cp, e = .returned (.tuple #[.slice a' ys.length cp, .bool ok]) ∧ Mine w' (w.heap.size + 1) w'.heap.size a' cp ys ∧ Below w.heap.size w w') ∧
    (∀ (a : Option Addr) (cap : Nat) (w : World), Byt w a zs → Calls Tryd.prog 17 #[.agg #[.slice a zs.length cap, .int .i64 N]] w fun e w' =>
      ∃ a' cp, e = .returned (.tuple #[.slice a' ys.length cp, .bool ok]) ∧ Mine w' (w.heap.size + 1) w'.heap.size a' cp ys ∧ Below w.heap.size w w') := by
  by_cases hr : ∀ z ∈ zs, 0 ≤ z ∧ z ≤ 255
  · cases hO : okB N zs
    · refine ⟨[], false, by simp, ?_, ?_⟩
      · intro a cap w hb
        refine (specSeal_no a cap zs N w hb (by omega) hO).mono ?_
        rintro e w' ⟨rfl, hb'⟩
        exact ⟨none, 0, rfl, .inl ⟨rfl, rfl, rfl⟩, hb'⟩
      · intro a cap w hb
        refine (implSeal_no a cap zs N w hb (by omega) hO).mono ?_
        rintro e w' ⟨rfl, hb'⟩
        exact ⟨none, 0, rfl, .inl ⟨rfl, rfl, rfl⟩, hb'⟩
    · obtain ⟨k, rfl, hk, he, hv⟩ := okB_enc hO hr
      refine ⟨enc (k + 1) (val zs + 2 ^ k), true, ?_, ?_, ?_⟩
      · rw [enc_len]; omega
      · intro a cap w hb; exact specSeal_yes a cap zs k w hb hO he hv hk
      · intro a cap w hb; exact implSeal_yes a cap zs k w hb hO he hv hk
  · exact ⟨[], false, by simp, fun a cap w hb => absurd hb.1 hr, fun a cap w hb => absurd hb.1 hr⟩

set_option maxRecDepth 100000 in
set_option maxHeartbeats 4000000 in
theorem lawSeal_any (a : Option Addr) (cap : Nat) (zs : List Int) (N : Int) (w : World) (hb : Byt w a zs) (hm : zs.length ≤ maxLen) :
    Calls Tryd.prog 9 #[.agg #[.slice a zs.length cap, .int .i64 N]] w fun e w' => e = .returned (.bool true) ∧ Below w.heap.size w w' := by
  have hw : Below w.heap.size w (w.alloc (Obj.cells #[Value.slice a zs.length cap, Value.int IntKind.i64 N] 44)) := (Below.refl _ _).alloc (Nat.le_refl _) _
  by_cases hn : zs.length ≤ 1048576
  · obtain ⟨ys, ok, hyl, hspec, himpl⟩ := seal_both N zs hn
    have hsz : (zs.length : Int) ≤ 1048576 := by omega
    have HS0 : Hid _ := hspec
    have HI0 : Hid _ := himpl
    clear hspec himpl
    have hok : (ok != ok) = false := by simp
    go_enter Tryd.func9, Tryd.ntmps9
    go_wp2_with fail
    refine (szBits_any a zs.length cap N 1048576 _ hm (by omega) (by omega)).mono ?_
    rintro e w1 ⟨rfl, hb1⟩
    rw [if_pos hsz]
    have hbb1 := hw.trans (hb1.mono (by simp))
    have p0 : w1.cell? ⟨w.heap.size, 0, none⟩ = some (.slice a zs.length cap) := keep hb1 (by simp) (by simp)
    have p1 : w1.cell? ⟨w.heap.size, 1, none⟩ = some (.int .i64 N) := keep hb1 (by simp) (by simp)
    have z1 : w.heap.size < w1.heap.size := by have := hb1.size; simp at this; omega
    clear hb1
    go_wp2_with fail
    refine (toBits_any a cap zs N _ (hb.below hbb1 (Nat.le_refl _)) hn).mono ?_
    rintro e w2 ⟨g2, rfl, ho2, hb2⟩
    have z2 := hb2.size
    go_wp2_with fail
    refine (HS0.out _ _ _ ho2.byt).mono ?_
    rintro e w3 ⟨aw, cw, rfl, hmw, hb3⟩
    have z3 := hb3.size
    have hbb3 := hbb1.trans ((hb2.trans (hb3.mono z2)).mono (Nat.le_of_lt z1))
    have q0 := keep (hb2.trans (hb3.mono z2)) z1 p0
    have q1 := keep (hb2.trans (hb3.mono z2)) z1 p1
    have y3 : w.heap.size < w3.heap.size := by omega
    have HMW : Hid (Mine w3 (w.heap.size + 1) w3.heap.size aw cw ys) := hmw.mono (by omega) (Nat.le_refl _)
    clear hb2 hb3 ho2 p0 p1 z1 z2 z3 hbb1 hw hmw
    go_wp2_with fail
    refine (toBits_any a cap zs N _ (hb.below hbb3 (Nat.le_refl _)) hn).mono ?_
    rintro e w4 ⟨gx, rfl, ho4, hb4⟩
    have r0 := keep hb4 y3 q0
    have r1 := keep hb4 y3 q1
    have z4 := hb4.size
    have hbb4 := hbb3.trans (hb4.mono (Nat.le_of_lt y3))
    have hmw4 := HMW.out.below hb4
    have hlt4 := ho4.lt
    clear q0 q1 hb4 hbb3
    go_wp2_with fail
    have hbb4' := hbb4.alloc (by omega) (Obj.cells #[Value.slice (some ⟨gx, 0, none⟩) zs.length zs.length, Value.int IntKind.i64 N] 24)
    refine (HI0.out _ _ _ (ho4.alloc _).byt).mono ?_
    rintro e w5 ⟨ag, cg, rfl, hmg, hb5⟩
    have z5 : w4.heap.size < w5.heap.size := by have := hb5.size; simp at this; omega
    simp at hmg
    have hbb5 := hbb4'.trans (hb5.mono (by simp; omega))
    have HS5 : Hid (SnapS w w5 a cap zs N w3.heap.size aw cw ys w4.heap.size gx zs w5.heap.size ag cg ys) := by
      refine ⟨hbb5, keep hb5 (by simp; omega) (keepA _ (by omega) r0), keep hb5 (by simp; omega) (keepA _ (by omega) r1), y3, hlt4, keep hb5 (by simp) (by simp), keep hb5 (by simp) (by simp), ⟨z5, Nat.le_refl _⟩, ?_, ?_, ?_⟩
      · exact (hmw4.below ((Below.refl w4.heap.size w4).alloc (Nat.le_refl _) _)).below hb5
      · exact .inr ⟨gx, rfl, hlt4.1, hlt4.2, (ho4.alloc _).below hb5 (Nat.le_refl _)⟩
      · exact hmg.mono (by omega) (Nat.le_refl _)
    clear r0 r1 hb5 hmg hbb5 hmw4 ho4 hbb4 hbb4' HMW
    go_wp2_with fail
    refine (eqByteS_yes ag aw cg cw ys _ HS5.out.mg.byt HS5.out.mw.byt (by omega)).mono ?_
    rintro e w6 ⟨rfl, n6, rfl⟩
    have HS6 : Hid (SnapS w (w5.drewN n6) a cap zs N w3.heap.size aw cw ys w4.heap.size gx zs w5.heap.size ag cg ys) := HS5.out.drewN n6
    clear HS5
    generalize w5.drewN n6 = w6 at *
    generalize w3.heap.size = U at *
    generalize w4.heap.size = X at *
    generalize w5.heap.size = V at *
    have p0 := HS6.out.p0
    have p1 := HS6.out.p1
    have x0 := HS6.out.x0
    have x1 := HS6.out.x1
    go_wp2_with fail
    go_region_with (first
      | (go_at_call 27; refine (toBits_any a cap zs N _ (hb.below HS6.out.bel.drew (Nat.le_refl _)) hn).mono ?_; rintro e w7 ⟨g7, rfl, ho7, hb7'⟩; have hb7 := Below.drewS hb7'; have HS7 : Hid (SnapS w w7 a cap zs N U aw cw ys X gx zs V ag cg ys) := HS6.out.step hb7; have t0 := HS7.out.x0; have t1 := HS7.out.x1)
      | (go_at_call 28; refine (eqBits_yes _ _ _ _ zs N _ (by exact HS7.out.mx.byt) (by exact ho7.byt) (by omega)).mono ?_; rintro e w8 ⟨rfl, hb8⟩; have HS8 : Hid (SnapS w w8 a cap zs N U aw cw ys X gx zs V ag cg ys) := HS7.out.step hb8; clear hb8 t0 t1 HS7 ho7 hb7 hb7'))
    all_goals
      clear HS6 p0 p1 x0 x1
      have x0 := HS8.out.x0
      have x1 := HS8.out.x1
      go_wp2_with fail
      refine (markBits_any (some ⟨gx, 0, none⟩) U X zs.length zs N 1 _ HS8.out.mx (by omega) (by omega) (by omega)).mono ?_
      rintro e w9 ⟨rfl, hm9, ho9⟩
      have HS9 : Hid (SnapS w w9 a cap zs N U aw cw ys X gx (marks 1 zs.length) V ag cg ys) := HS8.out.markX ho9 hm9
      clear hm9 ho9 HS8 x0 x1
      go_wp2_with fail
      refine (eqByteS_yes ag aw cg cw ys _ HS9.out.mg.byt HS9.out.mw.byt (by omega)).mono ?_
      rintro e w10' ⟨rfl, n10, rfl⟩
      have HS10' : Hid (SnapS w (w9.drewN n10) a cap zs N U aw cw ys X gx (marks 1 zs.length) V ag cg ys) := HS9.out.drewN n10
      clear HS9
      generalize w9.drewN n10 = w10 at *
      have HS10 : Hid (SnapS w w10 a cap zs N U aw cw ys X gx (marks 1 zs.length) V ag cg ys) := HS10'.out
      clear HS10'
      go_wp2_with fail
      refine (markByteS_any ag (X + 1) V cg ys 1 _ HS10.out.mg (by omega) (by omega) (by omega)).mono ?_
      rintro e w11 ⟨rfl, hm11, ho11⟩
      have HS11 : Hid (SnapS w w11 a cap zs N U aw cw ys X gx (marks 1 zs.length) V ag cg (marks 1 ys.length)) := HS10.out.markG ho11 hm11
      clear hm11 ho11 HS10
      go_wp2_with fail
      refine (heldByteS_any ag cg ys.length 1 _ HS11.out.mg.byt (by omega) (by omega) (by omega)).mono ?_
      rintro e w12 ⟨rfl, hw12⟩
      rw [hw12]
      clear hw12
      have p0 := HS11.out.p0
      have p1 := HS11.out.p1
      go_wp2_with fail
      refine (toBits_any a cap zs N _ (hb.below HS11.out.bel (Nat.le_refl _)) hn).mono ?_
      rintro e w13 ⟨g13, rfl, ho13, hb13⟩
      have HS13 : Hid (SnapS w w13 a cap zs N U aw cw ys X gx (marks 1 zs.length) V ag cg (marks 1 ys.length)) := HS11.out.step hb13
      clear hb13 HS11 p0 p1
      go_wp2_with fail
      refine (HI0.out _ _ _ ho13.byt).mono ?_
      rintro e w14 ⟨ah, ch, rfl, hmh, hb14⟩
      have HS14 : Hid (SnapS w w14 a cap zs N U aw cw ys X gx (marks 1 zs.length) V ag cg (marks 1 ys.length)) := HS13.out.step hb14
      have HMH : Hid (Byt w14 ah ys) := hmh.byt
      clear hb14 HS13 ho13 hmh
      go_wp2_with fail
      refine (eqByteS_yes ah aw ch cw ys _ HMH.out HS14.out.mw.byt (by omega)).mono ?_
      rintro e w16' ⟨rfl, n16, rfl⟩
      have HS16' : Hid (SnapS w (w14.drewN n16) a cap zs N U aw cw ys X gx (marks 1 zs.length) V ag cg (marks 1 ys.length)) := HS14.out.drewN n16
      clear HS14 HMH
      generalize w14.drewN n16 = w16 at *
      have HS16 : Hid (SnapS w w16 a cap zs N U aw cw ys X gx (marks 1 zs.length) V ag cg (marks 1 ys.length)) := HS16'.out
      clear HS16'
      go_wp2_with fail
      refine (heldByteS_any ag cg ys.length 1 _ HS16.out.mg.byt (by omega) (by omega) (by omega)).mono ?_
      rintro e w17 ⟨rfl, hw17⟩
      rw [hw17]
      clear hw17
      go_wp2
      go_ret
      exact ⟨rfl, HS16.out.bel⟩
  · have hsz : ¬ (zs.length : Int) ≤ 1048576 := by omega
    go_enter Tryd.func9, Tryd.ntmps9
    go_wp2_with fail
    refine (szBits_any a zs.length cap N 1048576 _ hm (by omega) (by omega)).mono ?_
    rintro e w1 ⟨rfl, hb1⟩
    rw [if_neg (by omega)]
    go_wp2
    go_ret
    exact ⟨rfl, hw.trans (hb1.mono (by simp))⟩
end Go.Proofs.YtkojinmnmmbidaaDoor
