/-
  The law on HuffGet returns true, whatever is handed in, where the named variables hold some error, and writes nothing that was there.
-/
import Derived.Test.YtiiaffkhnahofaaDoorHGetB
import Derived.Test.YtiiaffkhnahofaaDoorSnapK
import Derived.Test.YtiiaffkhnahofaaDoorSz
import Derived.Test.YtiiaffkhnahofaaDoorToB
import Derived.Test.YtiiaffkhnahofaaDoorEqB
import Derived.Test.YtiiaffkhnahofaaDoorICopy
import Derived.Test.YtiiaffkhnahofaaDoorIEq
import Derived.Test.YtiiaffkhnahofaaDoorMarksB
import Derived.Deep.RegionWith
import Derived.Deep.RegionHeld3
namespace Go.Proofs.YtiiaffkhnahofaaDoor
open Go.RowKit
set_option linter.unusedVariables false

theorem below_dK (w : World) (n : Nat) : Below w.heap.size w (w.drewN n) := ⟨rfl, rfl, rfl, Nat.le_refl _, fun _ _ => rfl⟩

set_option maxRecDepth 20000 in
set_option maxHeartbeats 16000000 in
theorem lawHuffGet_any (b : Option Addr) (cb : Nat) (ls : List Int) (a : Option Addr) (cap : Nat) (zs : List Int) (N p s : Int) (w : World) (hu : Ins w b ls) (hb : Byt w a zs) (hm2 : ls.length ≤ maxLen) (hm : zs.length ≤ maxLen) (h4 : Four w) (hE : ErrT w) (hS : SentH w) :
    Calls Tryd.prog 7 #[.slice b ls.length cb, .agg #[.slice a zs.length cap, .int .i64 N], .int .i64 p, .int .i64 s] w fun e w' => e = .returned (.bool true) ∧ Below w.heap.size w w' := by
  have hw : Below w.heap.size w (w.alloc (Obj.cells #[Value.slice a zs.length cap, Value.int IntKind.i64 N] 38)) := (Below.refl _ _).alloc (Nat.le_refl _) _
  by_cases hn2 : ls.length ≤ 1048576
  · by_cases hn : zs.length ≤ 1048576
    · obtain ⟨ys, M, ok, hyl, hspec, himpl⟩ := huffGet_both N p s ls zs hn2 hn hb.1
      have hsz : (zs.length : Int) ≤ 1048576 := by omega
      have HS0 : Hid _ := hspec
      have HI0 : Hid _ := himpl
      clear hspec himpl
      have hok : (ok != ok) = false := by simp
      have hMM : (M != M) = false := by simp
      go_enter Tryd.func7, Tryd.ntmps7
      go_wp2_with fail
      refine (szBits_any a zs.length cap N 1048576 _ hm (by omega) (by omega)).mono ?_
      rintro e w1 ⟨rfl, hb1⟩
      rw [if_pos hsz]
      have hbb1 := hw.trans (hb1.mono (by simp))
      have p0 : w1.cell? ⟨w.heap.size, 0, none⟩ = some (.slice a zs.length cap) := keep hb1 (by simp) (by simp)
      have p1 : w1.cell? ⟨w.heap.size, 1, none⟩ = some (.int .i64 N) := keep hb1 (by simp) (by simp)
      have z1 : w.heap.size < w1.heap.size := by have := hb1.size; simp at this; omega
      have P0 : Hid (w1.cell? ⟨w.heap.size, 0, none⟩ = some (.slice a zs.length cap) ∧ w1.cell? ⟨w.heap.size, 1, none⟩ = some (.int .i64 N)) := ⟨p0, p1⟩
      clear hb1
      go_wp2_with fail
      clear p0 p1
      go_region_held3 (fun W => W.cell? ⟨w.heap.size, 0, none⟩ = some (.slice a zs.length cap) ∧ W.cell? ⟨w.heap.size, 1, none⟩ = some (.int .i64 N))
        (first | exact P0.out | exact P2.out | exact P3.out | exact P4.out)
        (first
          | (go_at_call 11; refine (toIntS_any b cb ls _ (hu.below hbb1.drew (Nat.le_refl _)) hn2).mono ?_; rintro e w2 ⟨rfl, ho2, hb2'⟩; have hb2 : Below w1.heap.size w1 w2 := Below.drewS hb2'; have P2 : Hid (w2.cell? ⟨w.heap.size, 0, none⟩ = some (.slice a zs.length cap) ∧ w2.cell? ⟨w.heap.size, 1, none⟩ = some (.int .i64 N)) := ⟨keep hb2 z1 P0.out.1, keep hb2 z1 P0.out.2⟩; have hbb2 : Below w.heap.size w w2 := hbb1.trans (hb2.mono (Nat.le_of_lt z1)); have z2 : w1.heap.size ≤ w2.heap.size := hb2.size)
          | (go_at_call 27; refine (toBits_any a cap zs N _ (hb.below hbb2 (Nat.le_refl _)) hn).mono ?_; rintro e w3 ⟨g3, rfl, ho3, hb3⟩; have P3 : Hid (w3.cell? ⟨w.heap.size, 0, none⟩ = some (.slice a zs.length cap) ∧ w3.cell? ⟨w.heap.size, 1, none⟩ = some (.int .i64 N)) := ⟨keep hb3 (by omega) P2.out.1, keep hb3 (by omega) P2.out.2⟩; have hbb3 : Below w.heap.size w w3 := hbb2.trans (hb3.mono (by omega)); have ho23 := ho2.below hb3 (Nat.le_refl _); have z3 : w2.heap.size ≤ w3.heap.size := hb3.size)
          | (go_at_call 26; refine (HS0.out _ _ _ _ _ ho23.byt ho3.byt).mono ?_; rintro e w4 ⟨aw, cw, rfl, hmw, hb4⟩; have P4 : Hid (w4.cell? ⟨w.heap.size, 0, none⟩ = some (.slice a zs.length cap) ∧ w4.cell? ⟨w.heap.size, 1, none⟩ = some (.int .i64 N)) := ⟨keep hb4 (by omega) P3.out.1, keep hb4 (by omega) P3.out.2⟩; have hbb4 : Below w.heap.size w w4 := hbb3.trans (hb4.mono (by omega)); have z4 : w3.heap.size ≤ w4.heap.size := hb4.size; have HMW : Hid (MinI w4 (w.heap.size + 1) w4.heap.size aw cw ys) := hmw.mono (by omega) (Nat.le_refl _)))
      have y4 : w.heap.size < w4.heap.size := by omega
      clear hbb1 hbb2 hbb3 ho2 ho3 ho23 hb2 hb2' hb3 hb4 hmw P0 P2 P3 z1 z2 z3 z4 hw
      go_wp2_with fail
      refine (toIntS_any b cb ls _ (hu.below hbb4 (Nat.le_refl _)) hn2).mono ?_
      rintro e w5 ⟨rfl, ho5, hb5⟩
      have hbb5 : Below w.heap.size w w5 := hbb4.trans (hb5.mono (by omega))
      have q0 := keep hb5 y4 P4.out.1
      have q1 := keep hb5 y4 P4.out.2
      have HML5 : Hid (MinI w5 w4.heap.size w5.heap.size (some ⟨w4.heap.size, 0, none⟩) ls.length ls) := ho5.mine
      have HMW5 : Hid (MinI w5 (w.heap.size + 1) w4.heap.size aw cw ys) := HMW.out.below hb5
      have z5 := hb5.size
      have y5 : w.heap.size < w5.heap.size := by omega
      clear ho5 hb5 hbb4 HMW P4
      go_wp2_with fail
      refine (toBits_any a cap zs N _ (hb.below hbb5 (Nat.le_refl _)) hn).mono ?_
      rintro e w6 ⟨gx, rfl, ho6, hb6⟩
      have r0 := keep hb6 y5 q0
      have r1 := keep hb6 y5 q1
      have z6 := hb6.size
      have hbb6 := hbb5.trans (hb6.mono (by omega))
      have HML6 : Hid (MinI w6 w4.heap.size w5.heap.size (some ⟨w4.heap.size, 0, none⟩) ls.length ls) := HML5.out.below hb6
      have HMW6 : Hid (MinI w6 (w.heap.size + 1) w4.heap.size aw cw ys) := HMW5.out.below hb6
      have hlt6 := ho6.lt
      clear q0 q1 hb6 hbb5 HML5 HMW5
      go_wp2_with fail
      have hbb6' := hbb6.alloc (by omega) (Obj.cells #[Value.slice (some ⟨gx, 0, none⟩) zs.length zs.length, Value.int IntKind.i64 N] 33)
      have ha : Below w6.heap.size w6 (w6.alloc (Obj.cells #[Value.slice (some ⟨gx, 0, none⟩) zs.length zs.length, Value.int IntKind.i64 N] 33)) := (Below.refl _ _).alloc (Nat.le_refl _) _
      refine (HI0.out _ _ _ _ _ (HML6.out.below ha).byt (ho6.alloc _).byt (h4.below hbb6') (hE.below hbb6') (hS.below hbb6')).mono ?_
      rintro e w7 ⟨ag, cg, rfl, hmg, hb7⟩
      have z7 : w6.heap.size < w7.heap.size := by have := hb7.size; simp at this; omega
      simp at hmg
      have hbb7 := hbb6'.trans (hb7.mono (by simp; omega))
      have sn7 : SnapK w w7 a cap zs N w4.heap.size aw cw ys w5.heap.size (some ⟨w4.heap.size, 0, none⟩) ls.length ls w6.heap.size gx zs ag cg ys := by
        refine ⟨hbb7, keep hb7 (by simp; omega) (keepA _ (by omega) r0), keep hb7 (by simp; omega) (keepA _ (by omega) r1), y4, z5, hlt6, keep hb7 (by simp) (by simp), keep hb7 (by simp) (by simp), z7, (HMW6.out.below ha).below hb7, (HML6.out.below ha).below hb7, .inr ⟨gx, rfl, hlt6.1, hlt6.2, ?_⟩, hmg⟩
        exact ((ho6.alloc _).below hb7 (Nat.le_refl _))
      have HS7 : Hid _ := sn7
      clear r0 r1 hb7 hmg hbb7 sn7 ho6 hbb6 hbb6' HMW6 HML6 z5 z6 z7 hlt6 y4 y5 ha
      generalize w4.heap.size = U at *
      generalize w5.heap.size = T at *
      generalize w6.heap.size = X at *
      go_wp2_with fail
      refine (eqIntS_yes ag aw cg cw ys _ HS7.out.mg.byt HS7.out.mw.byt (by omega)).mono ?_
      rintro e w8 ⟨rfl, n8, rfl⟩
      have HS8 : Hid _ := HS7.out.step (below_dK w7 n8)
      clear HS7
      generalize w7.drewN n8 = w8 at *
      go_wp2_with fail
      refine (toIntS_any b cb ls _ (hu.below HS8.out.bel (Nat.le_refl _)) hn2).mono ?_
      rintro e w9 ⟨rfl, ho9, hb9⟩
      have HS9 : Hid _ := HS8.out.step hb9
      clear hb9 HS8
      go_wp2_with fail
      refine (eqIntS_yes _ _ _ _ ls _ HS9.out.ml.byt ho9.byt (by omega)).mono ?_
      rintro e w10 ⟨rfl, n10, rfl⟩
      have HS10 : Hid (SnapK w (w9.drewN n10) a cap zs N U aw cw ys T (some ⟨U, 0, none⟩) ls.length ls X gx zs ag cg ys) := HS9.out.step (below_dK w9 n10)
      clear HS9 ho9
      generalize w9.drewN n10 = w10 at *
      go_wp2_with fail
      go_region_held3 (fun W => W.cell? ⟨X, 0, none⟩ = some (.slice (some ⟨gx, 0, none⟩) zs.length zs.length) ∧ W.cell? ⟨X, 1, none⟩ = some (.int .i64 N) ∧ W.cell? ⟨w.heap.size, 0, none⟩ = some (.slice a zs.length cap) ∧ W.cell? ⟨w.heap.size, 1, none⟩ = some (.int .i64 N))
        (first | exact ⟨HS10.out.x0, HS10.out.x1, HS10.out.p0, HS10.out.p1⟩ | exact ⟨HS11.out.x0, HS11.out.x1, HS11.out.p0, HS11.out.p1⟩ | exact ⟨HS12.out.x0, HS12.out.x1, HS12.out.p0, HS12.out.p1⟩)
        (first
          | (go_at_call 27; refine (toBits_any a cap zs N _ (hb.below HS10.out.bel.drew (Nat.le_refl _)) hn).mono ?_; rintro e w11 ⟨g11, rfl, ho11', hb11'⟩; have ho11 : Hid (Byt w11 (some ⟨g11, 0, none⟩) zs) := ho11'.byt; have HS11 : Hid (SnapK w w11 a cap zs N U aw cw ys T (some ⟨U, 0, none⟩) ls.length ls X gx zs ag cg ys) := HS10.out.step (Below.drewS hb11'); clear ho11' hb11')
          | (go_at_call 22; refine (eqBits_yes _ _ _ _ zs N _ (by exact HS11.out.mx.byt) (by exact ho11.out) (by omega)).mono ?_; rintro e w12 ⟨rfl, hb12⟩; have HS12 : Hid (SnapK w w12 a cap zs N U aw cw ys T (some ⟨U, 0, none⟩) ls.length ls X gx zs ag cg ys) := HS11.out.step hb12; clear hb12))
      clear HS10 HS11 ho11
      go_wp2_with fail
      refine (markIntS_any _ U T ls.length ls 1 _ HS12.out.ml (by omega) (by omega) (by omega)).mono ?_
      rintro e w13 ⟨rfl, hm13, ho13⟩
      have HS13 : Hid _ := HS12.out.markL ho13 hm13
      clear hm13 ho13 HS12
      have x0 := HS13.out.x0
      have x1 := HS13.out.x1
      go_wp2_with fail
      refine (markBits_any (some ⟨gx, 0, none⟩) T X zs.length zs N _ _ HS13.out.mx (by omega) (by omega) (by omega)).mono ?_
      rintro e w14 ⟨rfl, hm14, ho14⟩
      have HS14 : Hid _ := HS13.out.markX ho14 hm14
      clear hm14 ho14 HS13 x0 x1
      go_wp2_with fail
      refine (eqIntS_yes ag aw cg cw ys _ HS14.out.mg.byt HS14.out.mw.byt (by omega)).mono ?_
      rintro e w15 ⟨rfl, n15, rfl⟩
      have HS15 : Hid _ := HS14.out.step (below_dK w14 n15)
      clear HS14
      generalize w14.drewN n15 = w15 at *
      go_wp2_with fail
      refine (markIntS_any ag (X + 1) w15.heap.size cg ys 1 _ HS15.out.mg (by omega) (by omega) (by omega)).mono ?_
      rintro e w16 ⟨rfl, hm16, ho16⟩
      have HS16 : Hid _ := HS15.out.markG ho16 hm16
      clear hm16 ho16 HS15
      go_wp2_with fail
      refine (heldIntS_any ag cg ys.length 1 _ HS16.out.mg.byt (by omega) (by omega) (by omega)).mono ?_
      rintro e w17 ⟨rfl, rfl⟩
      go_wp2_with fail
      go_region_held3 (fun W => W.cell? ⟨w.heap.size, 0, none⟩ = some (.slice a zs.length cap) ∧ W.cell? ⟨w.heap.size, 1, none⟩ = some (.int .i64 N))
        (first | exact ⟨HS16.out.p0, HS16.out.p1⟩ | exact ⟨HS18.out.p0, HS18.out.p1⟩ | exact ⟨HS19.out.p0, HS19.out.p1⟩ | exact ⟨HS20.out.p0, HS20.out.p1⟩)
        (first
          | (go_at_call 11; refine (toIntS_any b cb ls _ (hu.below HS16.out.bel.drew (Nat.le_refl _)) hn2).mono ?_; rintro e w18 ⟨rfl, ho18, hb18'⟩; have HS18 : Hid _ := HS16.out.step (Below.drewS hb18'))
          | (go_at_call 27; refine (toBits_any a cap zs N _ (hb.below HS18.out.bel (Nat.le_refl _)) hn).mono ?_; rintro e w19 ⟨g19, rfl, ho19, hb19⟩; have HS19 : Hid _ := HS18.out.step hb19; have ho1819 := ho18.below hb19 (Nat.le_refl _))
          | (go_at_call 28; refine (HI0.out _ _ _ _ _ ho1819.byt ho19.byt (h4.below HS19.out.bel) (hE.below HS19.out.bel) (hS.below HS19.out.bel)).mono ?_; rintro e w20 ⟨ah, ch, rfl, hmh, hb20⟩; have HS20 : Hid _ := HS19.out.step hb20; have HMH : Hid (MinI w20 w19.heap.size w20.heap.size ah ch ys) := hmh))
      clear HS16 HS18 HS19 ho18 ho19 ho1819 hb18' hb19 hb20 hmh
      go_wp2_with fail
      refine (eqIntS_yes ah aw ch cw ys _ HMH.out.byt HS20.out.mw.byt (by omega)).mono ?_
      rintro e w21 ⟨rfl, n21, rfl⟩
      have HS21 : Hid _ := HS20.out.step (below_dK w20 n21)
      clear HS20 HMH
      generalize w20.drewN n21 = w21 at *
      go_wp2_with fail
      refine (heldIntS_any ag cg ys.length 1 _ HS21.out.mg.byt (by omega) (by omega) (by omega)).mono ?_
      rintro e w22 ⟨rfl, rfl⟩
      go_wp2
      go_ret
      exact ⟨rfl, HS21.out.bel⟩
    · have hsz : ¬ (zs.length : Int) ≤ 1048576 := by omega
      go_enter Tryd.func7, Tryd.ntmps7
      go_wp2_with fail
      refine (szBits_any a zs.length cap N 1048576 _ hm (by omega) (by omega)).mono ?_
      rintro e w1 ⟨rfl, hb1⟩
      rw [if_neg (by omega)]
      go_wp2
      go_ret
      exact ⟨rfl, hw.trans (hb1.mono (by simp))⟩
  · go_enter Tryd.func7, Tryd.ntmps7
    unfold maxLen at hm2
    go_wp2
    go_ret
    exact ⟨rfl, hw⟩
end Go.Proofs.YtiiaffkhnahofaaDoor
