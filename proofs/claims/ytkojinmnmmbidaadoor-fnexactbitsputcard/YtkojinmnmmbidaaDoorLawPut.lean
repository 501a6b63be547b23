/-
  The law on BitsPut returns true, whatever is handed in, where the sentinels hold some error, and writes nothing that was there.
-/
import Derived.Test.YtkojinmnmmbidaaDoorPut2
import Derived.Test.YtkojinmnmmbidaaDoorPut5
import Derived.Test.YtkojinmnmmbidaaDoorSnap
import Derived.Test.YtkojinmnmmbidaaDoorSz
import Derived.Test.YtkojinmnmmbidaaDoorToB
import Derived.Test.YtkojinmnmmbidaaDoorEqB
import Derived.Test.YtkojinmnmmbidaaDoorMarksB
import Derived.Deep.RegionWith
namespace Go.Proofs.YtkojinmnmmbidaaDoor
open Go.RowKit
set_option linter.unusedVariables false

/-- The model and the program put alike. -/
theorem put_both (N n width : Int) (zs : List Int) (hl : zs.length ≤ 1048576) : ∃ (ys : List Int) (M : Int) (ok : Bool), ys.length ≤ 1048576 ∧
    (∀ (a : Option Addr) (cap : Nat) (w : World), Byt w a zs → Calls Tryd.prog 26 #[.agg #[.slice a zs.length cap, .int .i64 N], .int .i64 n, .int .i64 width] w fun e w' =>
      ∃ a' cp, e = .returned (.tuple #[.agg #[.slice a' ys.length cp, .int .i64 M], .bool ok]) ∧ Mine w' w.heap.size w'.heap.size a' cp ys ∧ Below w.heap.size w w') ∧
    (∀ (a : Option Addr) (cap : Nat) (w : World), Byt w a zs → Sent w 1 → Sent w 2 → (1 < w.heap.size ∧ 2 < w.heap.size) → Calls Tryd.prog 11 #[.agg #[.slice a zs.length cap, .int .i64 N], .int .i64 n, .int .i64 width] w fun e w' =>
      ∃ a' cp, e = .returned (.tuple #[.agg #[.slice a' ys.length cp, .int .i64 M], .bool ok]) ∧ Mine w' w.heap.size w'.heap.size a' cp ys ∧ Below w.heap.size w w') := by
  by_cases h : putOk N n width zs
  · refine ⟨enc (N.toNat + width.toNat) (val zs + n.toNat * 2 ^ N.toNat), N + width, true, ?_, ?_, ?_⟩
    · have h5 := h.2.2.2.2.2
      have h6 := h.1
      have h7 : N ≤ 4096 := by
        rcases Int.lt_or_le 4096 N with hN | hN
        · rw [okB_big hN] at h6; cases h6
        · exact hN
      have h8 := h.2.2.1
      rw [enc_len]
      omega
    · intro a cap w hb; exact specPut_yes a cap zs N n width w hb h
    · intro a cap w hb _ _ _; exact implPut_yes a cap zs N n width w hb h
  · refine ⟨[], 0, false, by simp, ?_, ?_⟩
    · intro a cap w hb
      refine (specPut_no a cap zs N n width w hb (by omega) h).mono ?_
      rintro e w' ⟨rfl, hb'⟩
      exact ⟨none, 0, rfl, .inl ⟨rfl, rfl, rfl⟩, hb'⟩
    · intro a cap w hb s0 s1 hG
      refine (implPut_no a cap zs N n width w hb hl s0 s1 hG h).mono ?_
      rintro e w' ⟨rfl, hb'⟩
      exact ⟨none, 0, rfl, .inl ⟨rfl, rfl, rfl⟩, hb'⟩

set_option maxHeartbeats 4000000 in
theorem lawPut_any (a : Option Addr) (cap : Nat) (zs : List Int) (N p width : Int) (w : World) (hb : Byt w a zs) (hm : zs.length ≤ maxLen) (s0 : Sent w 1) (s1 : Sent w 2) (hG : 1 < w.heap.size ∧ 2 < w.heap.size) :
    Calls Tryd.prog 5 #[.agg #[.slice a zs.length cap, .int .i64 N], .int .i64 p, .int .i64 width] w fun e w' => e = .returned (.bool true) ∧ Below w.heap.size w w' := by
  have hw : Below w.heap.size w (w.alloc (Obj.cells #[Value.slice a zs.length cap, Value.int IntKind.i64 N] 44)) := (Below.refl _ _).alloc (Nat.le_refl _) _
  by_cases hn : zs.length ≤ 1048576
  · obtain ⟨ys, M, ok, hyl, hspec, himpl⟩ := put_both N p width zs hn
    have HSPEC := hspec
    have hsz : (zs.length : Int) ≤ 1048576 := by omega
    have HS0 : Hid _ := hspec
    have HI0 : Hid _ := himpl
    clear hspec himpl HSPEC
    go_enter Tryd.func5, Tryd.ntmps5
    go_wp2_with fail
    refine (szBits_any a zs.length cap N 1048576 _ hm (by omega) (by omega)).mono ?_
    rintro e w1 ⟨rfl, hb1⟩
    rw [if_pos hsz]
    have hbb1 := hw.trans (hb1.mono (by simp))
    have p0 : w1.cell? ⟨w.heap.size, 0, none⟩ = some (.slice a zs.length cap) := keep hb1 (by simp) (by simp)
    have p1 : w1.cell? ⟨w.heap.size, 1, none⟩ = some (.int .i64 N) := keep hb1 (by simp) (by simp)
    have z1 : w.heap.size < w1.heap.size := by have := hb1.size; simp at this; omega
    clear hb1
    go_wp2_with fail
    refine (toBits_any a cap zs N _ (hb.below hbb1 (Nat.le_refl _)) hn).mono ?_
    rintro e w2 ⟨g2, rfl, ho2, hb2⟩
    have z2 := hb2.size
    go_wp2_with fail
    refine (HS0.out _ _ _ ho2.byt).mono ?_
    rintro e w3 ⟨aw, cw, rfl, hmw, hb3⟩
    have z3 := hb3.size
    have hbb3 := hbb1.trans ((hb2.trans (hb3.mono z2)).mono (Nat.le_of_lt z1))
    have q0 := keep (hb2.trans (hb3.mono z2)) z1 p0
    have q1 := keep (hb2.trans (hb3.mono z2)) z1 p1
    have y3 : w.heap.size < w3.heap.size := by omega
    have hmw3 : Mine w3 (w.heap.size + 1) w3.heap.size aw cw ys := hmw.mono (by omega) (Nat.le_refl _)
    have HMW : Hid (Mine w3 (w.heap.size + 1) w3.heap.size aw cw ys) := hmw3
    clear hb2 hb3 ho2 p0 p1 z1 z2 z3 hbb1 hw hmw hmw3
    go_wp2_with fail
    have hbb3' := hbb3.alloc (Nat.le_of_lt y3) (Obj.cells #[Value.slice aw ys.length cw, Value.int IntKind.i64 M] 24)
    refine (toBits_any a cap zs N _ (hb.below hbb3' (Nat.le_refl _)) hn).mono ?_
    rintro e w4 ⟨gx, rfl, ho4, hb4⟩
    have r0 := keep hb4 (by simp; omega) (keepA (Obj.cells #[Value.slice aw ys.length cw, Value.int IntKind.i64 M] 24) y3 q0)
    have r1 := keep hb4 (by simp; omega) (keepA (Obj.cells #[Value.slice aw ys.length cw, Value.int IntKind.i64 M] 24) y3 q1)
    have b0 : w4.cell? ⟨w3.heap.size, 0, none⟩ = some (.slice aw ys.length cw) := keep hb4 (by simp) (by simp)
    have b1 : w4.cell? ⟨w3.heap.size, 1, none⟩ = some (.int .i64 M) := keep hb4 (by simp) (by simp)
    have z4 : w3.heap.size < w4.heap.size := by have := hb4.size; simp at this; omega
    have hbb4 := hbb3'.trans (hb4.mono (by simp; omega))
    have hmw4 := (HMW.out.below ((Below.refl w3.heap.size w3).alloc (Nat.le_refl _) _)).below hb4
    clear q0 q1 hb4 hbb3 hbb3'
    go_wp2_with fail
    have hbb4' := hbb4.alloc (by omega) (Obj.cells #[Value.slice (some ⟨gx, 0, none⟩) zs.length zs.length, Value.int IntKind.i64 N] 24)
    refine (HI0.out _ _ _ (ho4.alloc _).byt (s0.below hbb4' (by omega)) (s1.below hbb4' (by omega)) (by simp; omega)).mono ?_
    rintro e w5 ⟨ag, cg, rfl, hmg, hb5⟩
    have z5 : w4.heap.size < w5.heap.size := by have := hb5.size; simp at this; omega
    have hlt4 := ho4.lt
    simp at hlt4 hmg
    have hbb5 := hbb4'.trans (hb5.mono (by simp; omega))
    have sn5 : Snap w (w5.alloc (Obj.cells #[Value.slice ag ys.length cg, Value.int IntKind.i64 M] 24)) a cap zs N w3.heap.size aw cw ys M w4.heap.size gx zs w5.heap.size ag cg ys := by
      have k1 : ∀ {b o : Nat} {v : Value}, b < w4.heap.size → w4.cell? ⟨b, o, none⟩ = some v → (w5.alloc (Obj.cells #[Value.slice ag ys.length cg, Value.int IntKind.i64 M] 24)).cell? ⟨b, o, none⟩ = some v :=
        fun hlt hc => keepA _ (by omega) (keep hb5 (by simp; omega) (keepA _ hlt hc))
      have k2 : ∀ {o : Nat} {v : Value}, (w4.alloc (Obj.cells #[Value.slice (some ⟨gx, 0, none⟩) zs.length zs.length, Value.int IntKind.i64 N] 24)).cell? ⟨w4.heap.size, o, none⟩ = some v → (w5.alloc (Obj.cells #[Value.slice ag ys.length cg, Value.int IntKind.i64 M] 24)).cell? ⟨w4.heap.size, o, none⟩ = some v :=
        fun hc => keepA _ (by omega) (keep hb5 (by simp) hc)
      refine ⟨hbb5.alloc (by omega) _, k1 (by omega) r0, k1 (by omega) r1, y3, k1 z4 b0, k1 z4 b1, ⟨by omega, hlt4.2⟩, k2 (by simp), k2 (by simp), ⟨z5, by simp⟩, by simp, by simp, ?_, ?_, ?_⟩
      · exact ((hmw4.below ((Below.refl w4.heap.size w4).alloc (Nat.le_refl _) _)).below hb5).below ((Below.refl w5.heap.size w5).alloc (Nat.le_refl _) _)
      · refine .inr ⟨gx, rfl, hlt4.1, hlt4.2, ?_⟩
        have := (((ho4.alloc _).below hb5 (Nat.le_refl _)).alloc (Obj.cells #[Value.slice ag ys.length cg, Value.int IntKind.i64 M] 24))
        exact this.mono (by simp)
      · exact (hmg.below ((Below.refl w5.heap.size w5).alloc (Nat.le_refl _) _))
    have HS5 : Hid (Snap w (w5.alloc (Obj.cells #[Value.slice ag ys.length cg, Value.int IntKind.i64 M] 24)) a cap zs N w3.heap.size aw cw ys M w4.heap.size gx zs w5.heap.size ag cg ys) := sn5
    have hx0 : w5.cell? ⟨w3.heap.size, 0, none⟩ = some (.slice aw ys.length cw) := keep hb5 (by simp; omega) (keepA _ z4 b0)
    have hx1 : w5.cell? ⟨w3.heap.size, 1, none⟩ = some (.int .i64 M) := keep hb5 (by simp; omega) (keepA _ z4 b1)
    have y35 : w3.heap.size < w5.heap.size := by omega
    clear r0 r1 b0 b1 hb5 hmg hbb5 sn5 hmw4 ho4 hbb4 hbb4' HMW
    go_wp2_with fail
    refine (eqBits_yes ag aw cg cw ys M _ HS5.out.mg.byt HS5.out.mw.byt (by omega)).mono ?_
    rintro e w6 ⟨rfl, hb6⟩
    have HS6 : Hid (Snap w w6 a cap zs N w3.heap.size aw cw ys M w4.heap.size gx zs w5.heap.size ag cg ys) := HS5.out.step hb6
    clear hb6 hx0 hx1 HS5
    generalize w3.heap.size = A at *
    generalize w4.heap.size = X at *
    generalize w5.heap.size = G at *
    have hok : (ok != ok) = false := by simp
    have hO := HS6.out.hA
    have p0 := HS6.out.p0
    have p1 := HS6.out.p1
    have x0 := HS6.out.x0
    have x1 := HS6.out.x1
    go_wp2_with fail
    clear p0 p1 hO
    have p0 := HS6.out.p0
    have p1 := HS6.out.p1
    go_region_with (first
      | (go_at_call 27; refine (toBits_any a cap zs N _ (hb.below HS6.out.bel.drew (Nat.le_refl _)) hn).mono ?_; rintro e w7 ⟨g7, rfl, ho7, hb7'⟩; have hb7 := Below.drewS hb7'; have HS7 : Hid (Snap w w7 a cap zs N A aw cw ys M X gx zs G ag cg ys) := HS6.out.step hb7; have t0 := HS7.out.x0; have t1 := HS7.out.x1)
      | (go_at_call 28; refine (eqBits_yes _ _ _ _ zs N _ (by exact HS7.out.mx.byt) (by exact ho7.byt) (by omega)).mono ?_; rintro e w8 ⟨rfl, hb8⟩; have HS8 : Hid (Snap w w8 a cap zs N A aw cw ys M X gx zs G ag cg ys) := HS7.out.step hb8; clear hb8 t0 t1 HS7 ho7 hb7 hb7'))
    all_goals
      clear HS6 p0 p1 x0 x1
      have x0 := HS8.out.x0
      have x1 := HS8.out.x1
      go_wp2_with fail
      refine (markBits_any (some ⟨gx, 0, none⟩) (A + 1) X zs.length zs N 1 _ HS8.out.mx (by omega) (by omega) (by omega)).mono ?_
      rintro e w9 ⟨rfl, hm9, ho9⟩
      have HS9 : Hid (Snap w w9 a cap zs N A aw cw ys M X gx (marks 1 zs.length) G ag cg ys) := HS8.out.markX ho9 hm9
      clear hm9 ho9 HS8 x0 x1
      have a0 := HS9.out.a0
      have a1 := HS9.out.a1
      have g0 := HS9.out.g0
      have g1 := HS9.out.g1
      go_wp2_with fail
      refine (eqBits_yes ag aw cg cw ys M _ HS9.out.mg.byt HS9.out.mw.byt (by omega)).mono ?_
      rintro e w10 ⟨rfl, hb10⟩
      have HS10 : Hid (Snap w w10 a cap zs N A aw cw ys M X gx (marks 1 zs.length) G ag cg ys) := HS9.out.step hb10
      clear hb10 HS9 a0 a1 g0 g1
      have g0 := HS10.out.g0
      have g1 := HS10.out.g1
      go_wp2_with fail
      refine (markBits_any ag (X + 1) G cg ys M 1 _ HS10.out.mg (by omega) (by omega) (by omega)).mono ?_
      rintro e w11 ⟨rfl, hm11, ho11⟩
      have HS11 : Hid (Snap w w11 a cap zs N A aw cw ys M X gx (marks 1 zs.length) G ag cg (marks 1 ys.length)) := HS10.out.markG ho11 hm11
      clear hm11 ho11 HS10 g0 g1
      have g0 := HS11.out.g0
      have g1 := HS11.out.g1
      go_wp2_with fail
      refine (heldBits_any ag cg ys.length M 1 _ HS11.out.mg.byt (by omega) (by omega) (by omega)).mono ?_
      rintro e w12 ⟨rfl, hb12⟩
      have HS12 : Hid (Snap w w12 a cap zs N A aw cw ys M X gx (marks 1 zs.length) G ag cg (marks 1 ys.length)) := HS11.out.step hb12
      clear hb12 HS11 g0 g1
      have p0 := HS12.out.p0
      have p1 := HS12.out.p1
      go_wp2_with fail
      refine (toBits_any a cap zs N _ (hb.below HS12.out.bel (Nat.le_refl _)) hn).mono ?_
      rintro e w13 ⟨g13, rfl, ho13, hb13⟩
      have HS13 : Hid (Snap w w13 a cap zs N A aw cw ys M X gx (marks 1 zs.length) G ag cg (marks 1 ys.length)) := HS12.out.step hb13
      clear hb13 HS12 p0 p1
      go_wp2_with fail
      refine (HI0.out _ _ _ ho13.byt (s0.below HS13.out.bel (by omega)) (s1.below HS13.out.bel (by omega)) (by have := HS13.out.bel.size; omega)).mono ?_
      rintro e w14 ⟨ah, ch, rfl, hmh, hb14⟩
      have HS14 : Hid (Snap w w14 a cap zs N A aw cw ys M X gx (marks 1 zs.length) G ag cg (marks 1 ys.length)) := HS13.out.step hb14
      have HMH : Hid (Mine w14 w13.heap.size w14.heap.size ah ch ys) := hmh
      clear hb14 HS13 ho13 hmh
      have a0 := HS14.out.a0
      have a1 := HS14.out.a1
      have hAl : A < w14.heap.size := by have h1 := HS14.out.hX; have h2 := HS14.out.hG; omega
      go_wp2_with fail
      refine (eqBits_yes ah aw ch cw ys M _ (HMH.out.byt.alloc _) (HS14.out.mw.byt.alloc _) (by omega)).mono ?_
      rintro e w16 ⟨rfl, hb16⟩
      have HS16 : Hid (Snap w w16 a cap zs N A aw cw ys M X gx (marks 1 zs.length) G ag cg (marks 1 ys.length)) := (HS14.out.step ((Below.refl _ _).alloc (Nat.le_refl _) _)).step hb16
      clear hb16 HS14 HMH a0 a1
      have g0 := HS16.out.g0
      have g1 := HS16.out.g1
      go_wp2_with fail
      refine (heldBits_any ag cg ys.length M 1 _ HS16.out.mg.byt (by omega) (by omega) (by omega)).mono ?_
      rintro e w17 ⟨rfl, hb17⟩
      have HS17 : Hid (Snap w w17 a cap zs N A aw cw ys M X gx (marks 1 zs.length) G ag cg (marks 1 ys.length)) := HS16.out.step hb17
      clear hb17 HS16 g0 g1
      go_wp2
      go_ret
      exact ⟨rfl, HS17.out.bel⟩
  · have hsz : ¬ (zs.length : Int) ≤ 1048576 := by omega
    go_enter Tryd.func5, Tryd.ntmps5
    go_wp2_with fail
    refine (szBits_any a zs.length cap N 1048576 _ hm (by omega) (by omega)).mono ?_
    rintro e w1 ⟨rfl, hb1⟩
    rw [if_neg (by omega)]
    go_wp2
    go_ret
    exact ⟨rfl, hw.trans (hb1.mono (by simp))⟩
end Go.Proofs.YtkojinmnmmbidaaDoor
