/-
  FnExactUnsymbols, for every input: the call returns true and leaves its arguments as they were, where the named variables hold what the program's own text lays there (the card ties them to it).
-/
import Derived.Test.YtecmnbdnnlifhaaDoorSnapU
import Derived.Test.YtecmnbdnnlifhaaDoorSz
import Derived.Test.YtecmnbdnnlifhaaDoorToB
import Derived.Test.YtecmnbdnnlifhaaDoorEqB
import Derived.Test.YtecmnbdnnlifhaaDoorICopy
import Derived.Test.YtecmnbdnnlifhaaDoorIEq
import Derived.Test.YtecmnbdnnlifhaaDoorMarksB
import Derived.Test.YtecmnbdnnlifhaaDoorSqEq
import Derived.Deep.RegionWith
import Derived.Deep.RegionHeld3
import Derived.Test.YtecmnbdnnlifhaaDoorOpenB
import Derived.Test.YtecmnbdnnlifhaaDoorOpenS
import Derived.Test.YtecmnbdnnlifhaaDoorVars3
import Derived.Test.YtecmnbdnnlifhaaDoorOpenI
import Derived.Test.YtecmnbdnnlifhaaDoorVarsC
namespace Go.Proofs.YtecmnbdnnlifhaaDoor
open Go.RowKit
set_option linter.unusedVariables false

/-- The named variables hold some error. -/
structure SentU (w : World) : Prop where
  s0 : Sent w 2
  s1 : Sent w 5
  s2 : Sent w 4
  s3 : Sent w 0
  s4 : Sent w 1
  lt : 2 < w.heap.size ∧ 5 < w.heap.size ∧ 4 < w.heap.size ∧ 0 < w.heap.size ∧ 1 < w.heap.size
theorem SentU.below {w w' : World} (h : SentU w) (hb : Below w.heap.size w w') : SentU w' := by
  have := hb.size
  have hl := h.lt
  exact ⟨h.s0.below hb hl.1, h.s1.below hb hl.2.1, h.s2.below hb hl.2.2.1, h.s3.below hb hl.2.2.2.1, h.s4.below hb hl.2.2.2.2, by omega⟩
theorem below_dK (w : World) (n : Nat) : Below w.heap.size w (w.drewN n) := ⟨rfl, rfl, rfl, Nat.le_refl _, fun _ _ => rfl⟩

set_option maxRecDepth 20000 in
set_option maxHeartbeats 16000000 in
theorem lawUnsymbols_any (b : Option Addr) (cb : Nat) (ls : List Int) (a : Option Addr) (cap : Nat) (zs : List Int) (N : Int) (w : World) (hu : Ins w b ls) (hb : Byt w a zs) (hm2 : ls.length ≤ maxLen) (hm : zs.length ≤ maxLen) (hS : SentU w) :
    Calls Tryd.prog 4 #[.slice b ls.length cb, .agg #[.slice a zs.length cap, .int .i64 N]] w fun e w' => e = .returned (.bool true) ∧ Below w.heap.size w w' := by
  have hw : Below w.heap.size w (w.alloc (Obj.cells #[Value.slice a zs.length cap, Value.int IntKind.i64 N] 39)) := (Below.refl _ _).alloc (Nat.le_refl _) _
  by_cases hn2 : ls.length ≤ 1048576
  · by_cases hn : zs.length ≤ 1048576
    · obtain ⟨cs, ok, hspec, himpl⟩ := unsymbols_both N ls zs hn2 hn hb.1
      have hsz : (zs.length : Int) ≤ 1048576 := by omega
      have HS0 : Hid _ := hspec
      have HI0 : Hid _ := himpl
      clear hspec himpl
      have hok : (ok != ok) = false := by simp
      go_enter Tryd.func4, Tryd.ntmps4
      go_wp2_with fail
      refine (szBits_any a zs.length cap N 1048576 _ hm (by omega) (by omega)).mono ?_
      rintro e w1 ⟨rfl, hb1⟩
      rw [if_pos hsz]
      have hbb1 := hw.trans (hb1.mono (by simp))
      have p0 : w1.cell? ⟨w.heap.size, 0, none⟩ = some (.slice a zs.length cap) := keep hb1 (by simp) (by simp)
      have p1 : w1.cell? ⟨w.heap.size, 1, none⟩ = some (.int .i64 N) := keep hb1 (by simp) (by simp)
      have z1 : w.heap.size < w1.heap.size := by have := hb1.size; simp at this; omega
      have P0 : Hid (w1.cell? ⟨w.heap.size, 0, none⟩ = some (.slice a zs.length cap) ∧ w1.cell? ⟨w.heap.size, 1, none⟩ = some (.int .i64 N)) := ⟨p0, p1⟩
      clear hb1
      go_wp2_with fail
      clear p0 p1
      go_region_held3 (fun W => W.cell? ⟨w.heap.size, 0, none⟩ = some (.slice a zs.length cap) ∧ W.cell? ⟨w.heap.size, 1, none⟩ = some (.int .i64 N))
        (first | exact P0.out | exact P2.out | exact P3.out | exact P4.out)
        (first
          | (go_at_call 19; refine (toIntS_any b cb ls _ (hu.below hbb1.drew (Nat.le_refl _)) hn2).mono ?_; rintro e w2 ⟨rfl, ho2, hb2'⟩; have hb2 : Below w1.heap.size w1 w2 := Below.drewS hb2'; have P2 : Hid (w2.cell? ⟨w.heap.size, 0, none⟩ = some (.slice a zs.length cap) ∧ w2.cell? ⟨w.heap.size, 1, none⟩ = some (.int .i64 N)) := ⟨keep hb2 z1 P0.out.1, keep hb2 z1 P0.out.2⟩; have hbb2 : Below w.heap.size w w2 := hbb1.trans (hb2.mono (Nat.le_of_lt z1)); have z2 : w1.heap.size ≤ w2.heap.size := hb2.size)
          | (go_at_call 20; refine (toBits_any a cap zs N _ (hb.below hbb2 (Nat.le_refl _)) hn).mono ?_; rintro e w3 ⟨g3, rfl, ho3, hb3⟩; have P3 : Hid (w3.cell? ⟨w.heap.size, 0, none⟩ = some (.slice a zs.length cap) ∧ w3.cell? ⟨w.heap.size, 1, none⟩ = some (.int .i64 N)) := ⟨keep hb3 (by omega) P2.out.1, keep hb3 (by omega) P2.out.2⟩; have hbb3 : Below w.heap.size w w3 := hbb2.trans (hb3.mono (by omega)); have ho23 := ho2.below hb3 (Nat.le_refl _); have z3 : w2.heap.size ≤ w3.heap.size := hb3.size)
          | (go_at_call 18; refine (HS0.out _ _ _ _ _ ho23.byt ho3.byt).mono ?_; rintro e w4 ⟨v4, ws, rfl, hwc, hwa, hb4⟩; obtain ⟨aw, cw, rfl, hmw⟩ := hwa.row; have HWC : Hid (ws.map Sq.ct = cs ∧ Sml ws ∧ ws.length ≤ 301) := ⟨hwc, hwa.sml, hwa.len⟩; have P4 : Hid (w4.cell? ⟨w.heap.size, 0, none⟩ = some (.slice a zs.length cap) ∧ w4.cell? ⟨w.heap.size, 1, none⟩ = some (.int .i64 N)) := ⟨keep hb4 (by omega) P3.out.1, keep hb4 (by omega) P3.out.2⟩; have hbb4 : Below w.heap.size w w4 := hbb3.trans (hb4.mono (by omega)); have z4 : w3.heap.size ≤ w4.heap.size := hb4.size; have HMW : Hid (RowS w4 (w.heap.size + 1) w4.heap.size aw cw ws) := hmw.mono (by omega) (Nat.le_refl _); clear hwc hwa))
      have y4 : w.heap.size < w4.heap.size := by omega
      clear hbb1 hbb2 hbb3 ho2 ho3 ho23 hb2 hb2' hb3 hb4 hmw P0 P2 P3 z1 z2 z3 z4 hw
      go_wp2_with fail
      refine (toIntS_any b cb ls _ (hu.below hbb4 (Nat.le_refl _)) hn2).mono ?_
      rintro e w5 ⟨rfl, ho5, hb5⟩
      have hbb5 : Below w.heap.size w w5 := hbb4.trans (hb5.mono (by omega))
      have q0 := keep hb5 y4 P4.out.1
      have q1 := keep hb5 y4 P4.out.2
      have HML5 : Hid (MinI w5 w4.heap.size w5.heap.size (some ⟨w4.heap.size, 0, none⟩) ls.length ls) := ho5.mine
      have HMW5 : Hid (RowS w5 (w.heap.size + 1) w4.heap.size aw cw ws) := HMW.out.below hb5
      have z5 := hb5.size
      have y5 : w.heap.size < w5.heap.size := by omega
      clear ho5 hb5 hbb4 HMW P4
      go_wp2_with fail
      refine (toBits_any a cap zs N _ (hb.below hbb5 (Nat.le_refl _)) hn).mono ?_
      rintro e w6 ⟨gx, rfl, ho6, hb6⟩
      have r0 := keep hb6 y5 q0
      have r1 := keep hb6 y5 q1
      have z6 := hb6.size
      have hbb6 := hbb5.trans (hb6.mono (by omega))
      have HML6 : Hid (MinI w6 w4.heap.size w5.heap.size (some ⟨w4.heap.size, 0, none⟩) ls.length ls) := HML5.out.below hb6
      have HMW6 : Hid (RowS w6 (w.heap.size + 1) w4.heap.size aw cw ws) := HMW5.out.below hb6
      have hlt6 := ho6.lt
      clear q0 q1 hb6 hbb5 HML5 HMW5
      go_wp2_with fail
      have hbb6' := hbb6.alloc (by omega) (Obj.cells #[Value.slice (some ⟨gx, 0, none⟩) zs.length zs.length, Value.int IntKind.i64 N] 27)
      have ha : Below w6.heap.size w6 (w6.alloc (Obj.cells #[Value.slice (some ⟨gx, 0, none⟩) zs.length zs.length, Value.int IntKind.i64 N] 27)) := (Below.refl _ _).alloc (Nat.le_refl _) _
      refine (HI0.out _ _ _ _ _ (HML6.out.below ha).byt (ho6.alloc _).byt (Nat.le_refl _) (hS.below hbb6').s0 (hS.below hbb6').s1 (hS.below hbb6').s2 (hS.below hbb6').s3 (hS.below hbb6').s4 (hS.below hbb6').lt).mono ?_
      rintro e w7 ⟨v7, gs, rfl, hgc, hga, hb7⟩
      obtain ⟨ag, cg, rfl, hmg⟩ := hga.row
      have HGC : Hid (gs.map Sq.ct = cs ∧ Sml gs ∧ gs.length ≤ 301) := ⟨hgc, hga.sml, hga.len⟩
      have hlw : ws.length = gs.length := len_ct (HWC.out.1.trans hgc.symm)
      clear hgc hga
      have z7 : w6.heap.size < w7.heap.size := by have := hb7.size; simp at this; omega
      simp at hmg
      have hbb7 := hbb6'.trans (hb7.mono (by simp; omega))
      have sn7 : SnapU w w7 a cap zs N w4.heap.size aw cw ws w5.heap.size (some ⟨w4.heap.size, 0, none⟩) ls.length ls w6.heap.size gx zs ag cg gs := by
        refine ⟨hbb7, keep hb7 (by simp; omega) (keepA _ (by omega) r0), keep hb7 (by simp; omega) (keepA _ (by omega) r1), y4, z5, hlt6, keep hb7 (by simp) (by simp), keep hb7 (by simp) (by simp), z7, (HMW6.out.below ha).below hb7, (HML6.out.below ha).below hb7, .inr ⟨gx, rfl, hlt6.1, hlt6.2, ?_⟩, hmg⟩
        exact ((ho6.alloc _).below hb7 (Nat.le_refl _))
      have HS7 : Hid _ := sn7
      have HLL : Hid (gs.length + lets gs ≤ 1048576 ∧ gs.length ≤ 301) := by
        have h1 := lets_le gs (fun z hz => (HGC.out.2.1 z hz).2.2.2.2)
        have h2 := HGC.out.2.2
        unfold Hid
        omega
      have HCT : Hid (gs.map Sq.ct = ws.map Sq.ct ∧ ∀ z ∈ gs, z.ls.length ≤ 281474976710656) := ⟨HGC.out.1.trans HWC.out.1.symm, fun z hz => by have := HGC.out.2.1 z hz; omega⟩
      have hl7 : gs.length ≤ 301 := HLL.out.2
      rw [hlw]
      clear r0 r1 hb7 hmg hbb7 sn7 ho6 hbb6 hbb6' HMW6 HML6 z5 z6 z7 hlt6 y4 y5 ha
      generalize w4.heap.size = U at *
      generalize w5.heap.size = T at *
      generalize w6.heap.size = X at *
      go_wp2_with fail
      refine (eqSeqS_yes ag aw cg cw gs ws _ HS7.out.mg.sqs HS7.out.mw.sqs HCT.out.1 (by omega) HCT.out.2).mono ?_
      rintro e w8 ⟨rfl, hb8⟩
      have HS8 : Hid _ := HS7.out.step hb8
      clear HS7 hb8
      go_wp2_with fail
      refine (toIntS_any b cb ls _ (hu.below HS8.out.bel (Nat.le_refl _)) hn2).mono ?_
      rintro e w9 ⟨rfl, ho9, hb9⟩
      have HS9 : Hid _ := HS8.out.step hb9
      clear hb9 HS8
      go_wp2_with fail
      refine (eqIntS_yes _ _ _ _ ls _ HS9.out.ml.byt ho9.byt (by omega)).mono ?_
      rintro e w10 ⟨rfl, n10, rfl⟩
      have HS10 : Hid (SnapU w (w9.drewN n10) a cap zs N U aw cw ws T (some ⟨U, 0, none⟩) ls.length ls X gx zs ag cg gs) := HS9.out.step (below_dK w9 n10)
      clear HS9 ho9
      generalize w9.drewN n10 = w10 at *
      go_wp2_with fail
      go_region_held3 (fun W => W.cell? ⟨X, 0, none⟩ = some (.slice (some ⟨gx, 0, none⟩) zs.length zs.length) ∧ W.cell? ⟨X, 1, none⟩ = some (.int .i64 N) ∧ W.cell? ⟨w.heap.size, 0, none⟩ = some (.slice a zs.length cap) ∧ W.cell? ⟨w.heap.size, 1, none⟩ = some (.int .i64 N))
        (first | exact ⟨HS10.out.x0, HS10.out.x1, HS10.out.p0, HS10.out.p1⟩ | exact ⟨HS11.out.x0, HS11.out.x1, HS11.out.p0, HS11.out.p1⟩ | exact ⟨HS12.out.x0, HS12.out.x1, HS12.out.p0, HS12.out.p1⟩)
        (first
          | (go_at_call 20; refine (toBits_any a cap zs N _ (hb.below HS10.out.bel.drew (Nat.le_refl _)) hn).mono ?_; rintro e w11 ⟨g11, rfl, ho11', hb11'⟩; have ho11 : Hid (Byt w11 (some ⟨g11, 0, none⟩) zs) := ho11'.byt; have HS11 : Hid (SnapU w w11 a cap zs N U aw cw ws T (some ⟨U, 0, none⟩) ls.length ls X gx zs ag cg gs) := HS10.out.step (Below.drewS hb11'); clear ho11' hb11')
          | (go_at_call 10; refine (eqBits_yes _ _ _ _ zs N _ (by exact HS11.out.mx.byt) (by exact ho11.out) (by omega)).mono ?_; rintro e w12 ⟨rfl, hb12⟩; have HS12 : Hid (SnapU w w12 a cap zs N U aw cw ws T (some ⟨U, 0, none⟩) ls.length ls X gx zs ag cg gs) := HS11.out.step hb12; clear hb12))
      clear HS10 HS11 ho11
      go_wp2_with fail
      refine (markIntS_any _ U T ls.length ls 1 _ HS12.out.ml (by omega) (by omega) (by omega)).mono ?_
      rintro e w13 ⟨rfl, hm13, ho13⟩
      have HS13 : Hid _ := HS12.out.markL ho13 hm13
      clear hm13 ho13 HS12
      have x0 := HS13.out.x0
      have x1 := HS13.out.x1
      go_wp2_with fail
      refine (markBits_any (some ⟨gx, 0, none⟩) T X zs.length zs N _ _ HS13.out.mx (by omega) (by omega) (by omega)).mono ?_
      rintro e w14 ⟨rfl, hm14, ho14⟩
      have HS14 : Hid _ := HS13.out.markX ho14 hm14
      clear hm14 ho14 HS13 x0 x1
      go_wp2_with fail
      refine (eqSeqS_yes ag aw cg cw gs ws _ HS14.out.mg.sqs HS14.out.mw.sqs HCT.out.1 (by omega) HCT.out.2).mono ?_
      rintro e w15 ⟨rfl, hb15⟩
      have HS15 : Hid _ := HS14.out.step hb15
      clear HS14 hb15
      go_wp2_with fail
      refine (HS15.out.mg.mark HLL.out.1).mono ?_
      rintro e w16 ⟨rfl, hm16, ho16⟩
      have HS16 : Hid _ := HS15.out.markG ho16 hm16
      clear hm16 ho16 HS15
      go_wp2_with fail
      refine (heldSeqS_any ag cg gs 1 _ HS16.out.mg.sqs HLL.out.1 (by omega) (by omega)).mono ?_
      rintro e w17 ⟨rfl, rfl⟩
      go_wp2_with fail
      go_region_held3 (fun W => W.cell? ⟨w.heap.size, 0, none⟩ = some (.slice a zs.length cap) ∧ W.cell? ⟨w.heap.size, 1, none⟩ = some (.int .i64 N))
        (first | exact ⟨HS16.out.p0, HS16.out.p1⟩ | exact ⟨HS18.out.p0, HS18.out.p1⟩ | exact ⟨HS19.out.p0, HS19.out.p1⟩ | exact ⟨HS20.out.p0, HS20.out.p1⟩)
        (first
          | (go_at_call 19; refine (toIntS_any b cb ls _ (hu.below HS16.out.bel.drew (Nat.le_refl _)) hn2).mono ?_; rintro e w18 ⟨rfl, ho18, hb18'⟩; have HS18 : Hid _ := HS16.out.step (Below.drewS hb18'))
          | (go_at_call 20; refine (toBits_any a cap zs N _ (hb.below HS18.out.bel (Nat.le_refl _)) hn).mono ?_; rintro e w19 ⟨g19, rfl, ho19, hb19⟩; have HS19 : Hid _ := HS18.out.step hb19; have ho1819 := ho18.below hb19 (Nat.le_refl _))
          | (go_at_call 21; refine (HI0.out _ _ _ _ _ ho1819.byt ho19.byt (Nat.le_refl _) (hS.below HS19.out.bel).s0 (hS.below HS19.out.bel).s1 (hS.below HS19.out.bel).s2 (hS.below HS19.out.bel).s3 (hS.below HS19.out.bel).s4 (hS.below HS19.out.bel).lt).mono ?_; rintro e w20 ⟨v20, fs, rfl, hfc, hfa, hb20⟩; obtain ⟨ah, ch, rfl, hmh⟩ := hfa.row; have HS20 : Hid _ := HS19.out.step hb20; have HMH : Hid (Sqs w20 ah fs ∧ fs.map Sq.ct = ws.map Sq.ct ∧ fs.length = gs.length ∧ ∀ z ∈ fs, z.ls.length ≤ 281474976710656) := ⟨hmh.sqs, hfc.trans HWC.out.1.symm, len_ct (hfc.trans HGC.out.1.symm), fun z hz => by have := hfa.sml z hz; omega⟩; have hfl : fs.length = gs.length := HMH.out.2.2.1; clear hfc hfa))
      clear HS16 HS18 HS19 ho18 ho19 ho1819 hb18' hb19 hb20 hmh
      have HEQ := eqSeqS_yes ah aw ch cw fs ws _ HMH.out.1 HS20.out.mw.sqs HMH.out.2.1 (by omega) HMH.out.2.2.2
      rw [HMH.out.2.2.1] at HEQ
      try clear hfl
      go_wp2_with fail
      refine HEQ.mono ?_
      clear HEQ
      rintro e w21 ⟨rfl, hb21⟩
      have HS21 : Hid _ := HS20.out.step hb21
      clear HS20 HMH hb21
      go_wp2_with fail
      refine (heldSeqS_any ag cg gs 1 _ HS21.out.mg.sqs HLL.out.1 (by omega) (by omega)).mono ?_
      rintro e w22 ⟨rfl, rfl⟩
      go_wp2
      go_ret
      exact ⟨rfl, HS21.out.bel⟩
    · have hsz : ¬ (zs.length : Int) ≤ 1048576 := by omega
      go_enter Tryd.func4, Tryd.ntmps4
      go_wp2_with fail
      refine (szBits_any a zs.length cap N 1048576 _ hm (by omega) (by omega)).mono ?_
      rintro e w1 ⟨rfl, hb1⟩
      rw [if_neg (by omega)]
      go_wp2
      go_ret
      exact ⟨rfl, hw.trans (hb1.mono (by simp))⟩
  · go_enter Tryd.func4, Tryd.ntmps4
    unfold maxLen at hm2
    go_wp2
    go_ret
    exact ⟨rfl, hw⟩
end Go.Proofs.YtecmnbdnnlifhaaDoor
namespace Go.Proofs.YtecmnbdnnlifhaaDoor.cardUnsymbols
open Go.ChangeShapes Go.WideShapes Go.ChangeAt Go.RowKit Go.Joins
set_option linter.unusedVariables false

theorem g_errOver : Tryd.prog.globalNamed "loop.example/g00528/impl.errOver" = some 5 := by kernel_rfl
theorem t_errOver : (Tryd.prog.globals[5]?).map (·.type) = some 60 := by kernel_rfl
theorem g_errRange : Tryd.prog.globalNamed "loop.example/g00528/impl.errRange" = some 2 := by kernel_rfl
theorem t_errRange : (Tryd.prog.globals[2]?).map (·.type) = some 60 := by kernel_rfl
theorem g_errPiece : Tryd.prog.globalNamed "loop.example/g00528/impl.errPiece" = some 4 := by kernel_rfl
theorem t_errPiece : (Tryd.prog.globals[4]?).map (·.type) = some 60 := by kernel_rfl
theorem g_errLeft : Tryd.prog.globalNamed "loop.example/g00528/impl.errLeft" = some 0 := by kernel_rfl
theorem t_errLeft : (Tryd.prog.globals[0]?).map (·.type) = some 60 := by kernel_rfl
theorem g_errSeqs : Tryd.prog.globalNamed "loop.example/g00528/impl.errSeqs" = some 1 := by kernel_rfl
theorem t_errSeqs : (Tryd.prog.globals[1]?).map (·.type) = some 60 := by kernel_rfl
theorem door_met (os : Os) (args : Array Value) : laidMetH Tryd.prog Rows.fnExactUnsymbolsRow.laid ((World.doorLaid Tryd.prog 123 os).forCall (fun _ _ => 0) ⟨#[], args, []⟩).memory :=
  laidMetH_of_parts3 (fuel := 8) (laidMet_of_run' 8 (by kernel_rfl) (by kernel_rfl)) (by kernel_rfl) (by kernel_rfl)

set_option maxRecDepth 100000 in
theorem lifted (os : Os) (started : os.Started) (H : Type) (enc : TypeId × Value → H) :
    ReturnsInHanded {} Tryd.checked os 4 .any (fun w args => (Rows.fnExactUnsymbolsSpec.pre enc Tryd.prog Tryd.f4 [] false w args ∧ laidMetH Tryd.prog Rows.fnExactUnsymbolsRow.laid w) ∧ sizedMet enc Tryd.prog Tryd.f4 (OpenSpec.ofChange Rows.fnExactUnsymbolsSpec) false w args)
      (Rows.fnExactUnsymbolsSpec.post enc Tryd.prog Tryd.f4 false true false false) := by
  refine returnsInHanded_of_change_and (C := Tryd.checked) (X := fun w _ => laidMetH Tryd.prog Rows.fnExactUnsymbolsRow.laid w) (fun _ _ _ hh h => h.of_heap hh) Tryd.own started (by kernel_rfl) Tryd.func4
    (ChangeSpec.witness_shaped (enc := enc) (C := Tryd.checked) (os := os) (X := fun w _ => laidMetH Tryd.prog Rows.fnExactUnsymbolsRow.laid w) false (World.doorLaid Tryd.prog 123 os) #[.slice .none 0 0, .agg #[.slice .none 0 0, .int .i64 0]] 8 rfl (World.shaped_of_RefB (by kernel_rfl) (by kernel_rfl)) (by kernel_rfl) (by kernel_rfl) (by kernel_rfl) (door_met os _)) ?_
  intro W base args ds gs before hval0 hW _ _ hL _
  have hval : ∀ (j : Nat) t v, Tryd.f4.params[j]? = some t → args[j]? = some v → Value.okWide Tryd.prog W .any base t v := hval0
  have hW' := hW
  obtain ⟨p, q, hA0, hV0, rfl, hfz, hnd⟩ := hW
  have hA : DataW.TrodAll enc Tryd.prog W 0 (fun _ => true) true Tryd.f4.params.toList args.toList ds p := hA0
  have hV : DataW.TrodVars enc Tryd.prog W (fun _ => true) ["loop.example/g00528/impl.errLeft", "loop.example/g00528/impl.errSeqs", "loop.example/g00528/impl.errRange", "loop.example/g00528/impl.errOver", "loop.example/g00528/impl.errPiece"] gs q := hV0
  rw [Tryd.params4] at hA hval
  obtain ⟨v0, vs0, d0, ds0, p0, q0, hargs, rfl, rfl, h0, r0⟩ := trodAll_cons hA
  obtain ⟨v1, vs1, d1, ds1, p1, q1, rfl, rfl, rfl, h1, r1⟩ := trodAll_cons r0
  obtain ⟨rfl, rfl, rfl⟩ := trodAll_nil r1
  obtain rfl : args = #[v0, v1] := by cases args; simp_all
  have k0 := h0
  have lt0 : ∀ x ∈ p0, x.block < W.heap.size := by obtain ⟨m, hm⟩ := k0; exact DataW.trod_lt m _ _ _ hm
  have k1 := h1
  have lt1 : ∀ x ∈ p1, x.block < W.heap.size := by obtain ⟨m, hm⟩ := k1; exact DataW.trod_lt m _ _ _ hm
  obtain ⟨sa0, sl0, sc0, rfl⟩ := okWide_slice Tryd.underlying24 (hval 0 24 v0 rfl rfl)
  obtain ⟨fuel0, hf0⟩ := h0
  obtain ⟨a0, zs0, cap0, hv0, hb0, hm0⟩ := ins_of_trod (v := .slice sa0 sl0 sc0) (by simpa [Value.cells] using hf0)
  obtain ⟨c0_1, c1_1, y0_1, y1_1, m1, rfl, hd0_1, hp0_1, hy0_1, hy1_1⟩ := open_agg2 Tryd.underlying39 (by kernel_rfl) (by kernel_rfl) (hval 1 39 v1 rfl rfl) h1
  obtain ⟨N1, e1_1, hY1_1, wN1⟩ := DataW.trod_int Tryd.underlying3 hy1_1
  simp at e1_1
  subst e1_1
  obtain ⟨a1, zs1, cap1, rfl, hb1, hm1⟩ := byt_of_trod hy0_1
  rw [hv0] at hW' k0 ⊢
  rw [MakeChecks.laidMetH_plain _ _ _ (by kernel_rfl)] at hL
  obtain ⟨s_errOver, hv_errOver, hc_errOver⟩ := sentinel hL g_errOver t_errOver
  have hG_errOver : 5 < W.heap.size := World.block_lt_of_cell? _ _ hc_errOver
  obtain ⟨s_errRange, hv_errRange, hc_errRange⟩ := sentinel hL.tail g_errRange t_errRange
  have hG_errRange : 2 < W.heap.size := World.block_lt_of_cell? _ _ hc_errRange
  obtain ⟨s_errPiece, hv_errPiece, hc_errPiece⟩ := sentinel hL.tail.tail g_errPiece t_errPiece
  have hG_errPiece : 4 < W.heap.size := World.block_lt_of_cell? _ _ hc_errPiece
  obtain ⟨s_errLeft, hv_errLeft, hc_errLeft⟩ := sentinel hL.tail.tail.tail g_errLeft t_errLeft
  have hG_errLeft : 0 < W.heap.size := World.block_lt_of_cell? _ _ hc_errLeft
  obtain ⟨s_errSeqs, hv_errSeqs, hc_errSeqs⟩ := sentinel hL.tail.tail.tail.tail g_errSeqs t_errSeqs
  have hG_errSeqs : 1 < W.heap.size := World.block_lt_of_cell? _ _ hc_errSeqs
  have read : ∀ (W' : World) (sp : Nat → Bool), Below W.heap.size W W' → DataW.TrodVars enc Tryd.prog W' sp ["loop.example/g00528/impl.errLeft", "loop.example/g00528/impl.errSeqs", "loop.example/g00528/impl.errRange", "loop.example/g00528/impl.errOver", "loop.example/g00528/impl.errPiece"] _ _ := fun W' sp bel =>
    vars_consC enc g_errLeft t_errLeft Tryd.underlying60 (var?_below bel g_errLeft hG_errLeft hv_errLeft) trivial (vars_consC enc g_errSeqs t_errSeqs Tryd.underlying60 (var?_below bel g_errSeqs hG_errSeqs hv_errSeqs) trivial (vars_consC enc g_errRange t_errRange Tryd.underlying60 (var?_below bel g_errRange hG_errRange hv_errRange) trivial (vars_consC enc g_errOver t_errOver Tryd.underlying60 (var?_below bel g_errOver hG_errOver hv_errOver) trivial (vars_consC enc g_errPiece t_errPiece Tryd.underlying60 (var?_below bel g_errPiece hG_errPiece hv_errPiece) trivial (vars_nil enc _)))))
  obtain ⟨rfl, rfl⟩ := hV.unique (read W _ (Below.refl _ _))
  clear hA0 hV0 hval0
  refine (lawUnsymbols_any a0 cap0 zs0 a1 cap1 zs1 N1 W hb0 hb1 hm0 hm1 (SentU.mk ⟨_, _, hc_errRange⟩ ⟨_, _, hc_errOver⟩ ⟨_, _, hc_errPiece⟩ ⟨_, _, hc_errLeft⟩ ⟨_, _, hc_errSeqs⟩ ⟨hG_errRange, hG_errOver, hG_errPiece, hG_errLeft, hG_errSeqs⟩)).mono fun e W' ⟨he, bel⟩ => ?_
  subst he
  exact ⟨_, rfl, _, _, _, [], _, _, hW', trodAll_mk1 (shut_bool Tryd.underlying4 _),
    (trodAll_cons_mk (Below.trod Tryd.laidOut (by kernel_rfl) (of_decide_eq_true (by kernel_rfl)) k0 bel lt0) (trodAll_cons_mk (Below.trod Tryd.laidOut (by kernel_rfl) (of_decide_eq_true (by kernel_rfl)) k1 bel lt1) trodAll_mk0)),
    read W' _ bel, bel.frame _, fun h => by cases h⟩

theorem said : Rows.FnExactUnsymbolsSaid :=
  OpenClaim.holds_of_wide 4 Tryd.f4 rfl rfl rfl rfl rfl rfl rfl ⟨rfl, rfl, rfl, rfl, rfl⟩ rfl rfl rfl rfl rfl (by kernel_rfl) Tryd.func4 (by kernel_rfl)
    (of_decide_eq_true (by kernel_rfl)) (by unfold Func.isWrapper; first | (rw [if_pos (by decide +kernel)]; kernel_rfl) | (rw [if_neg (by decide +kernel)]; exact ⟨rfl, rfl⟩))
    (fun os started H enc _ => lifted os started H enc)

theorem plain (f : FuncId) (fn : Func) (hf : Tryd.pinned.checked.prog.funcNamed "loop.example/g00528/laws.FnExactUnsymbols" = some f) (hfn : Tryd.pinned.checked.prog.funcs[f]? = some fn) :
    false = Tryd.pinned.checked.prog.looks [] ∧ ∀ (j : Nat) t, fn.params[j]? = some t → Tryd.pinned.checked.prog.wantsStandIn t = false := by
  obtain rfl : f = 4 := Option.some.inj ((show Tryd.prog.funcNamed "loop.example/g00528/laws.FnExactUnsymbols" = some 4 by kernel_rfl).symm.trans hf) |>.symm
  obtain rfl : fn = Tryd.f4 := (Option.some.inj (Tryd.func4.symm.trans hfn)).symm
  refine ⟨by kernel_rfl, fun j t ht => ?_⟩
  rw [Tryd.params4] at ht
  have hmem := Array.mem_of_getElem? ht
  have h' : t = 24 ∨ t = 39 := by simpa using hmem
  rcases h' with rfl | rfl
  · exact (show Tryd.prog.wantsStandIn 24 = false by kernel_rfl)
  · exact (show Tryd.prog.wantsStandIn 39 = false by kernel_rfl)

end cardUnsymbols

theorem unsymbols_card : Rows.FnExactUnsymbolsCardSaid :=
  Claim7.holds_tied_plain_at .later [] _ _ _ _ cardUnsymbols.said (fun _ h => by cases h) (by kernel_rfl) (fun _ h => by cases h) fnExactUnsymbols_row_tie rfl ⟨rfl, rfl⟩ (by kernel_rfl) rfl cardUnsymbols.plain (by kernel_rfl)
#print axioms unsymbols_card
end Go.Proofs.YtecmnbdnnlifhaaDoor
