/-
  The law on Find returns true, whatever is handed in, and writes nothing that was there.
-/
import Derived.Test.YtbkmdgceobilkaaFnI
import Derived.Test.YtbkmdgceobilkaaSqR
import Derived.Test.YtbkmdgceobilkaaCopy
import Derived.Test.YtbkmdgceobilkaaEqS
import Derived.Test.YtbkmdgceobilkaaMkB
namespace Go.Proofs.Ytbkmdgceobilkaa
open Go.RowKit
set_option linter.unusedVariables false
set_option linter.unusedSimpArgs false

/-- What a call of Find leaves. -/
def FnR (W : World) (cs : List (List Int × Int × Int)) (ok : Bool) (e : Ending) (w' : World) : Prop := (∃ a c ss, e = .returned (.tuple #[.slice a ss.length c, .bool ok]) ∧ ss.map Sq.ct = cs ∧ RowS w' W.heap.size w'.heap.size a c ss ∧ Few4 ss) ∧ Below W.heap.size W w'
theorem FnA.row {W : World} {B : Nat} {v : Value} {cs : List (List Int × Int × Int)} (h : FnA W B v cs) : ∃ a c ss, v = .slice a ss.length c ∧ ss.map Sq.ct = cs ∧ RowS W B W.heap.size a c ss ∧ Few4 ss := by
  obtain ⟨ss, h1, h2, h3, h4⟩ := h
  obtain ⟨a, c, rfl⟩ := h2.form
  exact ⟨a, c, ss, rfl, h1, ⟨h2, fun k hk => (h2.blk hk).2, h3.mine, h3.apart, h4.rng⟩, h4⟩
theorem row_none (W : World) (B : Nat) : RowS W B W.heap.size none 0 [] := ⟨OVq.nil _ _, by simp [Value.ownBlock], by simp, by simp, by simp⟩
theorem few_none : Few4 [] := ⟨by simp, by simp⟩
theorem find_both (zs : List Int) (hn : zs.length ≤ 1048576) : ∃ (cs : List (List Int × Int × Int)) (ok : Bool),
    (∀ (g : Nat) (W : World), Own W g g zs.length zs → Calls Try.prog 9 #[.slice (some ⟨g, 0, none⟩) zs.length zs.length] W fun e w' => FnR W cs ok e w') ∧
    (∀ (g : Nat) (W : World), Own W g g zs.length zs → Calls Try.prog 10 #[.slice (some ⟨g, 0, none⟩) zs.length zs.length] W fun e w' => FnR W cs ok e w') := by
  by_cases h : zs.length ≤ 64
  · refine ⟨found zs, true, fun g W ho => ?_, fun g W ho => ?_⟩
    · refine (specFind_any _ _ zs W ho.byt hn).mono ?_
      rintro e w' ⟨h1, -, hb⟩
      obtain ⟨v, rfl, hf⟩ := h1 h
      obtain ⟨a, c, ss, rfl, h2, h3, h4⟩ := hf.row
      exact ⟨⟨a, c, ss, rfl, h2, h3, h4⟩, hb⟩
    · refine (implFind_yes _ _ zs W ho.byt h (Nat.le_refl _)).mono ?_
      rintro e w' ⟨⟨v, rfl, hf⟩, hb⟩
      obtain ⟨a, c, ss, rfl, h2, h3, h4⟩ := hf.row
      exact ⟨⟨a, c, ss, rfl, h2, h3, h4⟩, hb⟩
  · refine ⟨[], false, fun g W ho => ?_, fun g W ho => ?_⟩
    · refine (specFind_any _ _ zs W ho.byt hn).mono ?_
      rintro e w' ⟨-, h1, hb⟩
      obtain rfl := h1 h
      exact ⟨⟨none, 0, [], rfl, rfl, (row_none w' _), few_none⟩, hb⟩
    · refine (implFind_no _ _ zs W h hn).mono ?_
      rintro e w' ⟨rfl, hb⟩
      exact ⟨⟨none, 0, [], rfl, rfl, (row_none w' _), few_none⟩, hb⟩
/-- What the law carries along. -/
structure SnF (w W : World) (U V : Nat) (aw : Option Addr) (cw : Nat) (ws : List Sq) (gx n : Nat) (xs : List Int) (ag : Option Addr) (cg : Nat) (gs : List Sq) : Prop where
  bel : Below w.heap.size w W
  ord : w.heap.size ≤ U ∧ U ≤ V ∧ V ≤ W.heap.size
  mw : RowS W w.heap.size U aw cw ws
  mx : Mine W U V (some ⟨gx, 0, none⟩) n xs
  mg : RowS W V W.heap.size ag cg gs
section
variable {w W W' : World} {U V : Nat} {aw : Option Addr} {cw : Nat} {ws : List Sq} {gx n : Nat} {xs : List Int} {ag : Option Addr} {cg : Nat} {gs : List Sq}
theorem SnF.step (h : SnF w W U V aw cw ws gx n xs ag cg gs) (hb : Below W.heap.size W W') : SnF w W' U V aw cw ws gx n xs ag cg gs := by
  have o := h.ord
  have hs := hb.size
  exact ⟨h.bel.trans (hb.mono (by omega)), by omega, h.mw.below hb, h.mx.below hb, (h.mg.below hb).mono (Nat.le_refl _) hs⟩
theorem SnF.drew (h : SnF w W U V aw cw ws gx n xs ag cg gs) (m : Nat) : SnF w (W.drewN m) U V aw cw ws gx n xs ag cg gs := h.step ⟨rfl, rfl, rfl, Nat.le_refl _, fun _ _ => rfl⟩
theorem SnF.markX (h : SnF w W U V aw cw ws gx n xs ag cg gs) (ho : Only (rowOf (some ⟨gx, 0, none⟩)) W W') {xs' : List Int} (hm : Mine W' U V (some ⟨gx, 0, none⟩) n xs') : SnF w W' U V aw cw ws gx n xs' ag cg gs := by
  have o := h.ord
  have hs := ho.size
  have hr : ∀ k, rowOf (some (⟨gx, 0, none⟩ : Addr)) k → U ≤ k ∧ k < V := fun k hk => h.mx.rowB hk
  exact ⟨h.bel.trans (ho.below (by omega) (fun k hk => by have := hr k hk; omega)), by omega, h.mw.stay ho (fun k h1 h2 hk => by have := hr k hk; omega), hm, (h.mg.stay ho (fun k h1 h2 hk => by have := hr k hk; omega)).mono (Nat.le_refl _) hs⟩
theorem SnF.markG (h : SnF w W U V aw cw ws gx n xs ag cg gs) (ho : Only (fun b => V ≤ b ∧ b < W.heap.size) W W') {gs' : List Sq} (hm : RowS W' V W'.heap.size ag cg gs') : SnF w W' U V aw cw ws gx n xs ag cg gs' := by
  have o := h.ord
  have hs := ho.size
  exact ⟨h.bel.trans (ho.below (by omega) (fun k hk => by omega)), by omega, h.mw.stay ho (fun k h1 h2 hk => by omega), h.mx.only ho (fun k h1 h2 hk => by omega), hm⟩
end

set_option maxRecDepth 20000 in
set_option maxHeartbeats 8000000 in
theorem lawFind_any (a : Option Addr) (cap : Nat) (zs : List Int) (w : World) (hb : Byt w a zs) (hm : zs.length ≤ maxLen) :
    Calls Try.prog 4 #[.slice a zs.length cap] w fun e w' => e = .returned (.bool true) ∧ Below w.heap.size w w' := by
  by_cases hn : zs.length ≤ 1048576
  · obtain ⟨cs, ok, hsp, him⟩ := find_both zs hn
    have HTO : Hid (∀ W, Below w.heap.size w W → Calls Try.prog 6 #[.slice a zs.length cap] W fun e w' =>
        e = .returned (.slice (some ⟨W.heap.size, 0, none⟩) zs.length zs.length) ∧ Own w' W.heap.size W.heap.size zs.length zs ∧ Below W.heap.size W w') := fun W hW => toByteS_any a cap zs W (hb.below hW (Nat.le_refl _)) hn
    have HSP : Hid _ := hsp
    have HIM : Hid _ := him
    have d1 : ¬ (1048576 : Int) < (zs.length : Int) := by omega
    have H1 := HTO.out w (Below.refl _ _)
    have hok : (ok != ok) = false := by simp
    clear hb hsp him
    go_enter Try.func4, Try.ntmps4
    go_wp2_with fail
    refine H1.mono ?_
    clear H1
    rintro e w1 ⟨rfl, ho1, hb1⟩
    have H2 := HSP.out _ w1 ho1
    clear ho1
    go_wp2_with fail
    refine H2.mono ?_
    clear H2
    rintro e w2 ⟨⟨aw, cw, ws, rfl, hcw, hrw, hfw⟩, hb2⟩
    have HW2 : Hid (Below w.heap.size w w2 ∧ RowS w2 w.heap.size w2.heap.size aw cw ws ∧ Few4 ws ∧ ws.map Sq.ct = cs) := ⟨hb1.trans (hb2.mono hb1.size), hrw.mono hb1.size (Nat.le_refl _), hfw, hcw⟩
    clear hb1 hb2 hrw hfw hcw
    have H3 := HTO.out w2 HW2.out.1
    go_wp2_with fail
    refine H3.mono ?_
    clear H3
    rintro e w3 ⟨rfl, ho3, hb3⟩
    have HB3 : Hid (Below w.heap.size w w3 ∧ RowS w3 w.heap.size w2.heap.size aw cw ws ∧ Mine w3 w2.heap.size w3.heap.size (some ⟨w2.heap.size, 0, none⟩) zs.length zs ∧ w.heap.size ≤ w2.heap.size) := ⟨HW2.out.1.trans (hb3.mono HW2.out.1.size), HW2.out.2.1.below hb3, ho3.mine, HW2.out.1.size⟩
    have H4 := HIM.out _ w3 ho3
    have hz3 := hb3.size
    clear hb3 ho3
    go_wp2_with fail
    refine H4.mono ?_
    clear H4
    rintro e w4 ⟨⟨ag, cg, gs, rfl, hcg, hrg, hfg⟩, hb4⟩
    have HS4 : Hid (SnF w w4 w2.heap.size w3.heap.size aw cw ws w2.heap.size zs.length zs ag cg gs) := ⟨HB3.out.1.trans (hb4.mono HB3.out.1.size), ⟨HB3.out.2.2.2, hz3, hb4.size⟩, HB3.out.2.1.below hb4, HB3.out.2.2.1.below hb4, hrg⟩
    have HCT : Hid (gs.map Sq.ct = ws.map Sq.ct ∧ gs.length = ws.length ∧ (∀ z ∈ gs, z.ls.length ≤ 281474976710656) ∧ gs.length + lets gs ≤ 1048576) := by
      have e1 : gs.map Sq.ct = ws.map Sq.ct := hcg.trans HW2.out.2.2.2.symm
      have e2 := congrArg List.length e1
      simp only [List.length_map] at e2
      refine ⟨e1, e2, fun z hz => by have := (hfg.2 z hz).1; omega, ?_⟩
      have := lets_le gs (fun s hs => by have := (hfg.2 s hs).1; omega)
      have := hfg.1
      omega
    have hgl : gs.length ≤ 65 := hfg.1
    rw [← HCT.out.2.1]
    have HCS : Hid (ws.map Sq.ct = cs) := HW2.out.2.2.2
    clear hcg hrg hfg hb4 HB3 hz3 HW2
    generalize w2.heap.size = U at *
    generalize w3.heap.size = V at *
    have H5 := eqSeqS_yes ag aw cg cw gs ws w4 HS4.out.mg.sqs HS4.out.mw.sqs HCT.out.1 (by omega) HCT.out.2.2.1
    go_wp2_with fail
    refine H5.mono ?_
    clear H5
    rintro e w5 ⟨rfl, hb5⟩
    have HS5 : Hid _ := HS4.out.step hb5
    clear HS4 hb5
    have H6 := HTO.out w5 HS5.out.bel
    go_wp2_with fail
    refine H6.mono ?_
    clear H6
    rintro e w6 ⟨rfl, ho6, hb6⟩
    have HS6 : Hid _ := HS5.out.step hb6
    have H7 := eqByteS_yes (some ⟨U, 0, none⟩) (some ⟨w5.heap.size, 0, none⟩) zs.length zs.length zs w6 HS6.out.mx.byt ho6.byt (by omega)
    clear HS5 hb6 ho6
    go_wp2_with fail
    refine H7.mono ?_
    clear H7
    rintro e w7 ⟨rfl, n7, rfl⟩
    have HS7 : Hid _ := HS6.out.drew n7
    clear HS6
    generalize w6.drewN n7 = w7 at *
    go_wp2_with fail
    refine (markByteS_any (some ⟨U, 0, none⟩) U V zs.length zs 1 _ HS7.out.mx (by omega) (by omega) (by omega)).mono ?_
    rintro e w8 ⟨rfl, hm8, ho8⟩
    have HS8 : Hid _ := HS7.out.markX ho8 hm8
    clear hm8 ho8 HS7
    have H9 := eqSeqS_yes ag aw cg cw gs ws w8 HS8.out.mg.sqs HS8.out.mw.sqs HCT.out.1 (by omega) HCT.out.2.2.1
    go_wp2_with fail
    refine H9.mono ?_
    clear H9
    rintro e w9 ⟨rfl, hb9⟩
    have HS9 : Hid _ := HS8.out.step hb9
    clear HS8 hb9
    go_wp2_with fail
    refine (HS9.out.mg.mark HCT.out.2.2.2).mono ?_
    rintro e w10 ⟨rfl, hm10, ho10⟩
    have HS10 : Hid _ := HS9.out.markG ho10 hm10
    clear hm10 ho10 HS9
    go_wp2_with fail
    refine (heldSeqS_any ag cg gs 1 _ HS10.out.mg.sqs HCT.out.2.2.2 (by omega) (by omega)).mono ?_
    rintro e w11 ⟨rfl, hw11⟩
    subst hw11
    have H12 := HTO.out w11 HS10.out.bel
    go_wp2_with fail
    refine H12.mono ?_
    clear H12
    rintro e w12 ⟨rfl, ho12, hb12⟩
    have HS12 : Hid _ := HS10.out.step hb12
    have H13 := HIM.out _ w12 ho12
    clear HS10 hb12 ho12
    go_wp2_with fail
    refine H13.mono ?_
    clear H13
    rintro e w13 ⟨⟨ah, ch, hs, rfl, hch, hrh, hfh⟩, hb13⟩
    have HS13 : Hid _ := HS12.out.step hb13
    have hhl : hs.length = gs.length := by
      have e2 := congrArg List.length (hch.trans HCS.out.symm)
      rw [List.length_map, List.length_map] at e2
      rw [e2, HCT.out.2.1]
    have H14 := eqSeqS_yes ah aw ch cw hs ws w13 hrh.sqs HS13.out.mw.sqs (hch.trans HCS.out.symm) (by have := hfh.1; omega) (fun z hz => by have := (hfh.2 z hz).1; omega)
    rw [hhl] at H14 ⊢
    clear HS12 hb13 hch hrh hfh hhl
    go_wp2_with fail
    refine H14.mono ?_
    clear H14
    rintro e w14 ⟨rfl, hb14⟩
    have HS14 : Hid _ := HS13.out.step hb14
    clear HS13 hb14
    go_wp2_with fail
    refine (heldSeqS_any ag cg gs 1 _ HS14.out.mg.sqs HCT.out.2.2.2 (by omega) (by omega)).mono ?_
    rintro e w15 ⟨rfl, hw15⟩
    subst hw15
    go_wp2
    go_ret
    exact ⟨rfl, HS14.out.bel⟩
  · have d1 : (1048576 : Int) < (zs.length : Int) := by omega
    unfold maxLen at hm
    go_enter Try.func4, Try.ntmps4
    go_wp2
    go_ret
    exact ⟨rfl, Below.refl _ _⟩
end Go.Proofs.Ytbkmdgceobilkaa
