/-
  The law on HuffPut returns true, whatever is handed in, where the sentinels hold some error, and writes nothing that was there.
-/
import Derived.Test.YtiiaffkhnahofaaDoorHPut5
import Derived.Test.YtiiaffkhnahofaaDoorSnapH
import Derived.Test.YtiiaffkhnahofaaDoorICopy
import Derived.Test.YtiiaffkhnahofaaDoorIEq
import Derived.Test.YtiiaffkhnahofaaDoorEqB
import Derived.Test.YtiiaffkhnahofaaDoorMarksB
namespace Go.Proofs.YtiiaffkhnahofaaDoor
open Go.RowKit
set_option linter.unusedVariables false

theorem below_dNH (w : World) (n : Nat) : Below w.heap.size w (w.drewN n) := ⟨rfl, rfl, rfl, Nat.le_refl _, fun _ _ => rfl⟩

set_option maxHeartbeats 8000000 in
theorem lawHuffPut_any (a : Option Addr) (cap : Nat) (zs : List Int) (b : Option Addr) (cb : Nat) (us : List Int) (w : World) (hb : Ins w a zs) (hu : Ins w b us) (hm : zs.length ≤ maxLen) (hm2 : us.length ≤ maxLen) (h4 : Four w) (hE : ErrT w) (hSC : SentC w) :
    Calls Tryd.prog 6 #[.slice a zs.length cap, .slice b us.length cb] w fun e w' => e = .returned (.bool true) ∧ Below w.heap.size w w' := by
  by_cases hn : zs.length ≤ 1048576
  · by_cases hn2 : us.length ≤ 1048576
    · obtain ⟨ys, M, ok, hyl, hspec, himpl⟩ := huffPut_both zs us hn hn2
      have HS0 : Hid _ := hspec
      have HI0 : Hid _ := himpl
      clear hspec himpl
      have hok : (ok != ok) = false := by simp
      go_enter Tryd.func6, Tryd.ntmps6
      go_wp2_with fail
      refine (toIntS_any a cap zs _ hb hn).mono ?_
      rintro e w1 ⟨rfl, ho1, hb1⟩
      go_wp2_with fail
      refine (toIntS_any b cb us _ (hu.below hb1 (Nat.le_refl _)) hn2).mono ?_
      rintro e w2 ⟨rfl, ho2, hb2⟩
      have hbb2 : Below w.heap.size w w2 := hb1.trans (hb2.mono hb1.size)
      have ho12 := ho1.below hb2 (Nat.le_refl _)
      clear ho1 hb2 hb1
      go_wp2_with fail
      refine (HS0.out _ _ _ _ _ ho12.byt ho2.byt).mono ?_
      rintro e w3 ⟨aw, cw, rfl, hmw, hb3⟩
      have hbb3 : Below w.heap.size w w3 := hbb2.trans (hb3.mono hbb2.size)
      have HMW : Hid (Mine w3 w.heap.size w3.heap.size aw cw ys) := hmw.mono hbb2.size (Nat.le_refl _)
      have hs3 := hbb3.size
      clear hbb2 hb3 ho2 ho12 hmw
      go_wp2_with fail
      have hbb3' := hbb3.alloc hs3 (Obj.cells #[Value.slice aw ys.length cw, Value.int IntKind.i64 M] 33)
      refine (toIntS_any a cap zs _ (hb.below hbb3' (Nat.le_refl _)) hn).mono ?_
      rintro e w4 ⟨rfl, ho4, hb4⟩
      have z4 : w3.heap.size < w4.heap.size := by have := hb4.size; simp at this; omega
      have b0 : w4.cell? ⟨w3.heap.size, 0, none⟩ = some (.slice aw ys.length cw) := keep hb4 (by simp) (by simp)
      have b1 : w4.cell? ⟨w3.heap.size, 1, none⟩ = some (.int .i64 M) := keep hb4 (by simp) (by simp)
      have hbb4 := hbb3'.trans (hb4.mono (by simp; omega))
      have hmw4 := (HMW.out.below ((Below.refl w3.heap.size w3).alloc (Nat.le_refl _) _)).below hb4
      have hmx4 : MinI w4 (w3.heap.size + 1) w4.heap.size (some ⟨w3.heap.size + 1, 0, none⟩) zs.length zs := by
        have hl4 := ho4.lt
        simp at hl4 ho4
        exact .inr ⟨w3.heap.size + 1, rfl, Nat.le_refl _, hl4, ho4⟩
      clear hb4 hbb3 hbb3' ho4 HMW
      go_wp2_with fail
      refine (toIntS_any b cb us _ (hu.below hbb4 (Nat.le_refl _)) hn2).mono ?_
      rintro e wb ⟨rfl, hob, hbb⟩
      have zb : w4.heap.size ≤ wb.heap.size := hbb.size
      have c0 := keep hbb z4 b0
      have c1 := keep hbb z4 b1
      have hbbb := hbb4.trans (hbb.mono hbb4.size)
      have HMWB : Hid (Mine wb w.heap.size w3.heap.size aw cw ys) := hmw4.below hbb
      have HMX : Hid (MinI wb (w3.heap.size + 1) w4.heap.size (some ⟨w3.heap.size + 1, 0, none⟩) zs.length zs) := hmx4.below hbb
      have HMY : Hid (MinI wb w4.heap.size wb.heap.size (some ⟨w4.heap.size, 0, none⟩) us.length us) := .inr ⟨w4.heap.size, rfl, Nat.le_refl _, hob.lt.2, hob⟩
      clear hbb hob hmx4 hmw4 b0 b1 hbb4
      go_wp2_with fail
      refine (HI0.out _ _ _ _ _ HMX.out.byt HMY.out.byt (h4.below hbbb) (hE.below hbbb) (hSC.below hbbb)).mono ?_
      rintro e w5 ⟨ag, cg, rfl, hmg, hb5⟩
      have z5 := hb5.size
      have sn5 : SnapH w (w5.alloc (Obj.cells #[Value.slice ag ys.length cg, Value.int IntKind.i64 M] 33)) w3.heap.size aw cw ys M (some ⟨w3.heap.size + 1, 0, none⟩) zs.length zs w4.heap.size (some ⟨w4.heap.size, 0, none⟩) us.length us wb.heap.size w5.heap.size ag cg ys ys.length := by
        have ha : Below w5.heap.size w5 (w5.alloc (Obj.cells #[Value.slice ag ys.length cg, Value.int IntKind.i64 M] 33)) := (Below.refl _ _).alloc (Nat.le_refl _) _
        refine ⟨hbbb.trans ((hb5.mono hbbb.size).trans (ha.mono (by have := hbbb.size; omega))), hs3, keep ha (by omega) (keep hb5 (by omega) c0), keep ha (by omega) (keep hb5 (by omega) c1), ⟨z4, zb⟩, ⟨z5, by simp⟩, by simp, by simp, (HMWB.out.below hb5).below ha, (HMX.out.below hb5).below ha, (HMY.out.below hb5).below ha, hmg.below ha⟩
      have HS5 : Hid _ := sn5
      have y0 := keep hb5 (by omega) c0
      have y1 := keep hb5 (by omega) c1
      have z35 : w3.heap.size < w5.heap.size := by omega
      clear hb5 hmg sn5 HMWB hbbb HMX HMY c0 c1 z4 z5 zb hs3
      go_wp2_with fail
      refine (eqBits_yes ag aw cg cw ys M _ HS5.out.mg.byt HS5.out.mw.byt (by omega)).mono ?_
      rintro e w6 ⟨rfl, hb6⟩
      have HS6 : Hid _ := HS5.out.step hb6
      clear hb6 HS5 y0 y1 z35
      generalize w3.heap.size = A at *
      generalize w4.heap.size = X at *
      generalize wb.heap.size = Y at *
      generalize w5.heap.size = G at *
      go_wp2_with fail
      refine (toIntS_any a cap zs _ (hb.below HS6.out.bel (Nat.le_refl _)) hn).mono ?_
      rintro e w7 ⟨rfl, ho7, hb7⟩
      have HS7 : Hid _ := HS6.out.step hb7
      clear HS6 hb7
      go_wp2_with fail
      refine (eqIntS_yes _ _ _ _ zs _ HS7.out.mx.byt ho7.byt (by omega)).mono ?_
      rintro e w8 ⟨rfl, n8, rfl⟩
      have HS8 : Hid _ := HS7.out.step (below_dNH w7 n8)
      clear HS7 ho7
      generalize w7.drewN n8 = w8 at *
      go_wp2_with fail
      refine (toIntS_any b cb us _ (hu.below HS8.out.bel (Nat.le_refl _)) hn2).mono ?_
      rintro e w7b ⟨rfl, ho7b, hb7b⟩
      have HS7b : Hid _ := HS8.out.step hb7b
      clear HS8 hb7b
      go_wp2_with fail
      refine (eqIntS_yes _ _ _ _ us _ HS7b.out.my.byt ho7b.byt (by omega)).mono ?_
      rintro e w8b ⟨rfl, n8b, rfl⟩
      have HS8 : Hid _ := HS7b.out.step (below_dNH w7b n8b)
      clear HS7b ho7b
      generalize w7b.drewN n8b = w8b at *
      go_wp2_with fail
      refine (markIntS_any _ (A + 1) X zs.length zs 1 _ HS8.out.mx (by omega) (by omega) (by omega)).mono ?_
      rintro e w9 ⟨rfl, hm9, ho9⟩
      have HS9 : Hid _ := HS8.out.markX ho9 hm9
      clear hm9 ho9 HS8
      go_wp2_with fail
      refine (markIntS_any _ X Y us.length us _ _ HS9.out.my (by omega) (by omega) (by omega)).mono ?_
      rintro e w9b ⟨rfl, hm9b, ho9b⟩
      have HS9b : Hid _ := HS9.out.markY ho9b hm9b
      clear hm9b ho9b HS9
      have a0 := HS9b.out.a0
      have a1 := HS9b.out.a1
      have g0 := HS9b.out.g0
      have g1 := HS9b.out.g1
      go_wp2_with fail
      refine (eqBits_yes ag aw cg cw ys M _ HS9b.out.mg.byt HS9b.out.mw.byt (by omega)).mono ?_
      rintro e w10 ⟨rfl, hb10⟩
      have HS10 : Hid _ := HS9b.out.step hb10
      clear hb10 HS9b a0 a1 g0 g1
      have g0 := HS10.out.g0
      have g1 := HS10.out.g1
      go_wp2_with fail
      refine (markBits_any ag Y G cg ys M 1 _ HS10.out.mg (by omega) (by omega) (by omega)).mono ?_
      rintro e w11 ⟨rfl, hm11, ho11⟩
      have HS11 : Hid _ := HS10.out.markG ho11 hm11
      clear hm11 ho11 HS10 g0 g1
      have g0 := HS11.out.g0
      have g1 := HS11.out.g1
      go_wp2_with fail
      refine (heldBits_any ag cg ys.length M 1 _ HS11.out.mg.byt (by omega) (by omega) (by omega)).mono ?_
      rintro e w12 ⟨rfl, hb12⟩
      have HS12 : Hid _ := HS11.out.step hb12
      clear hb12 HS11 g0 g1
      go_wp2_with fail
      refine (toIntS_any a cap zs _ (hb.below HS12.out.bel (Nat.le_refl _)) hn).mono ?_
      rintro e w13 ⟨rfl, ho13, hb13⟩
      have HS13 : Hid _ := HS12.out.step hb13
      clear HS12
      go_wp2_with fail
      refine (toIntS_any b cb us _ (hu.below HS13.out.bel (Nat.le_refl _)) hn2).mono ?_
      rintro e w13b ⟨rfl, ho13b, hb13b⟩
      have HS13b : Hid _ := HS13.out.step hb13b
      have ho13c := ho13.below hb13b (Nat.le_refl _)
      clear hb13 hb13b HS13 ho13
      go_wp2_with fail
      refine (HI0.out _ _ _ _ _ ho13c.byt ho13b.byt (h4.below HS13b.out.bel) (hE.below HS13b.out.bel) (hSC.below HS13b.out.bel)).mono ?_
      rintro e w14 ⟨ah, ch, rfl, hmh, hb14⟩
      have HS14 : Hid _ := HS13b.out.step hb14
      have HMH : Hid (Mine w14 w13b.heap.size w14.heap.size ah ch ys) := hmh
      clear hb14 HS13b ho13b ho13c hmh
      have a0 := HS14.out.a0
      have a1 := HS14.out.a1
      have hAl : A < w14.heap.size := by have h1 := HS14.out.hX; have h2 := HS14.out.hG; omega
      go_wp2_with fail
      refine (eqBits_yes ah aw ch cw ys M _ (HMH.out.byt.alloc _) (HS14.out.mw.byt.alloc _) (by omega)).mono ?_
      rintro e w16 ⟨rfl, hb16⟩
      have HS16 : Hid _ := (HS14.out.step ((Below.refl _ _).alloc (Nat.le_refl _) _)).step hb16
      clear hb16 HS14 HMH a0 a1
      have g0 := HS16.out.g0
      have g1 := HS16.out.g1
      go_wp2_with fail
      refine (heldBits_any ag cg ys.length M 1 _ HS16.out.mg.byt (by omega) (by omega) (by omega)).mono ?_
      rintro e w17 ⟨rfl, hb17⟩
      have HS17 : Hid _ := HS16.out.step hb17
      clear hb17 HS16 g0 g1
      go_wp2
      go_ret
      exact ⟨rfl, HS17.out.bel⟩
    · go_enter Tryd.func6, Tryd.ntmps6
      go_wp2
      go_ret
      exact ⟨rfl, Below.refl _ _⟩
  · go_enter Tryd.func6, Tryd.ntmps6
    go_wp2
    go_ret
    exact ⟨rfl, Below.refl _ _⟩
end Go.Proofs.YtiiaffkhnahofaaDoor
