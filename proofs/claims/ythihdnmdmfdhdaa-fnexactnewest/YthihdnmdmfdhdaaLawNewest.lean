/-
  The law on Newest returns true, whatever is handed in, and writes nothing that was there.
-/
import Derived.Test.YthihdnmdmfdhdaaMpNs
import Derived.Test.YthihdnmdmfdhdaaSnp
import Derived.Test.YthihdnmdmfdhdaaPlEq
import Derived.Test.YthihdnmdmfdhdaaEqS
import Derived.Test.YthihdnmdmfdhdaaCopy
import Derived.Test.YthihdnmdmfdhdaaMarks
namespace Go.Proofs.Ythihdnmdmfdhdaa
open Go.RowKit
set_option linter.unusedVariables false

theorem srP_lenN (zs : List Int) : (srP zs).length ≤ 16 := by
  unfold srP
  split
  · rename_i h
    unfold srB at h
    simp only [Bool.and_eq_true] at h
    have hb := h.2.1
    unfold sbB at hb
    simp only [Bool.and_eq_true] at hb
    exact (mapB_len _ hb.2).2
  · simp
theorem nsP_len (zs ys : List Int) : (nsP zs ys).length ≤ 16 := by
  unfold nsP
  split
  · exact srP_lenN ys
  · exact srP_lenN zs

set_option maxRecDepth 20000 in
set_option maxHeartbeats 8000000 in
theorem lawNewest_any (a : Option Addr) (cap : Nat) (zs : List Int) (b : Option Addr) (cb : Nat) (ys : List Int) (w : World) (hb : Byt w a zs) (hb' : Byt w b ys) (hm : zs.length ≤ maxLen) (hm' : ys.length ≤ maxLen) :
    Calls Try.prog 9 #[.slice a zs.length cap, .slice b ys.length cb] w fun e w' => e = .returned (.bool true) ∧ Below w.heap.size w w' := by
  have HB : Hid (Byt w a zs) := hb
  have HC : Hid (Byt w b ys) := hb'
  clear hb hb'
  unfold maxLen at hm hm'
  by_cases hnn : zs.length ≤ 1048576 ∧ ys.length ≤ 1048576
  · obtain ⟨hn, hn2⟩ := hnn
    have HSPEC : Hid (∀ (a b : Option Addr) (c d : Nat) (w : World), Byt w a zs → Byt w b ys → Calls Try.prog 35 #[.slice a zs.length c, .slice b ys.length d] w fun r w' => (∃ a c, r = .returned (.tuple #[.int .i64 (nsE zs ys), .agg #[.slice a (nsP zs ys).length c], .bool (nsB zs ys)]) ∧ MinP w' w.heap.size w'.heap.size a c (nsP zs ys)) ∧ Below w.heap.size w w') := fun a b c d w h h' => specNewest_any a b c d zs ys w h h' hn hn2
    have HIMPL : Hid (∀ (a b : Option Addr) (w : World), Byt w a zs → Byt w b ys → Calls Try.prog 36 #[.slice a zs.length zs.length, .slice b ys.length ys.length] w fun r w' => (∃ a c, r = .returned (.tuple #[.int .i64 (nsE zs ys), .agg #[.slice a (nsP zs ys).length c], .bool (nsB zs ys)]) ∧ MinP w' w.heap.size w'.heap.size a c (nsP zs ys)) ∧ Below w.heap.size w w') := fun a b w h h' => implNewest_any a b zs.length ys.length zs ys w h h' hn hn2 ⟨Nat.le_refl _, by omega⟩ ⟨Nat.le_refl _, by omega⟩
    have hl : (nsP zs ys).length ≤ 16 := nsP_len zs ys
    generalize nsP zs ys = ps at *
    generalize nsB zs ys = R at *
    generalize nsE zs ys = E at *
    have hRR : (R != R) = false := by simp
    have hEE : (E != E) = false := by simp
    go_enter Try.func9, Try.ntmps9
    go_wp2_with fail
    refine (toByteS_any a cap zs w HB.out hn).mono ?_
    rintro e w0 ⟨rfl, ho0, hb0⟩
    have HB0 : Hid (Below w.heap.size w w0 ∧ Byt w0 (some ⟨w.heap.size, 0, none⟩) zs) := ⟨hb0, ho0.byt⟩
    clear ho0 hb0
    go_wp2_with fail
    refine (toByteS_any b cb ys w0 (HC.out.below HB0.out.1 (Nat.le_refl _)) hn2).mono ?_
    rintro e w1 ⟨rfl, ho1, hb1⟩
    have HSP := HSPEC.out _ _ zs.length ys.length w1 (HB0.out.2.below hb1 (Nat.le_refl _)) ho1.byt
    have HB1 : Hid (Below w.heap.size w w1) := HB0.out.1.trans (hb1.mono HB0.out.1.size)
    clear ho1 hb1 HSPEC HB0
    go_wp2_with fail
    refine HSP.mono ?_
    clear HSP
    rintro e w2 ⟨⟨aw, cw, rfl, hmw⟩, hb2⟩
    have hba : Below w2.heap.size w2 (w2.alloc (Obj.cells #[Value.slice aw ps.length cw] 29)) := (Below.refl _ _).alloc (Nat.le_refl _) _
    have HB3 : Hid (Below w.heap.size w (w2.alloc (Obj.cells #[Value.slice aw ps.length cw] 29)) ∧ MinP (w2.alloc (Obj.cells #[Value.slice aw ps.length cw] 29)) w.heap.size w2.heap.size aw cw ps ∧ (w2.alloc (Obj.cells #[Value.slice aw ps.length cw] 29)).cell? ⟨w2.heap.size, 0, none⟩ = some (.slice aw ps.length cw) ∧ (w2.alloc (Obj.cells #[Value.slice aw ps.length cw] 29)).heap.size = w2.heap.size + 1 ∧ w.heap.size ≤ w2.heap.size) :=
      ⟨(HB1.out.trans (hb2.mono HB1.out.size)).trans (hba.mono (Nat.le_trans HB1.out.size hb2.size)), (hmw.mono HB1.out.size (Nat.le_refl _)).below hba, by simp, by simp, Nat.le_trans HB1.out.size hb2.size⟩
    clear hba hmw hb2 HB1
    go_wp2_with fail
    generalize w2.alloc (Obj.cells #[Value.slice aw ps.length cw] 29) = w3 at *
    generalize w2.heap.size = U at *
    refine (toByteS_any a cap zs w3 (HB.out.below HB3.out.1 (Nat.le_refl _)) hn).mono ?_
    rintro e wa ⟨rfl, hoa, hba⟩
    have HBA : Hid (Own wa w3.heap.size w3.heap.size zs.length zs ∧ Below w3.heap.size w3 wa ∧ Below w.heap.size w wa) := ⟨hoa, hba, HB3.out.1.trans (hba.mono (by have := HB3.out.2.2.2.1; have := HB3.out.2.2.2.2; omega))⟩
    clear hoa hba
    go_wp2_with fail
    refine (toByteS_any b cb ys wa (HC.out.below HBA.out.2.2 (Nat.le_refl _)) hn2).mono ?_
    rintro e w4 ⟨rfl, ho4, hb4⟩
    have HIM := HIMPL.out _ _ w4 (HBA.out.1.below hb4 (Nat.le_refl _)).byt ho4.byt
    have HB4 : Hid (Own w4 w3.heap.size w3.heap.size zs.length zs ∧ Below w3.heap.size w3 w4 ∧ Own w4 wa.heap.size wa.heap.size ys.length ys ∧ w3.heap.size ≤ wa.heap.size ∧ w3.heap.size < wa.heap.size ∧ wa.heap.size < w4.heap.size) := ⟨HBA.out.1.below hb4 (Nat.le_refl _), HBA.out.2.1.trans (hb4.mono HBA.out.2.1.size), ho4, HBA.out.2.1.size, HBA.out.1.lt.2, ho4.lt.2⟩
    clear ho4 hb4 HBA
    go_wp2_with fail
    refine HIM.mono ?_
    clear HIM
    rintro e w5 ⟨⟨ag, cg, rfl, hmg⟩, hb5⟩
    have hba : Below w5.heap.size w5 (w5.alloc (Obj.cells #[Value.slice ag ps.length cg] 29)) := (Below.refl _ _).alloc (Nat.le_refl _) _
    have hb56 := hb5.trans (hba.mono hb5.size)
    have hb36 := HB4.out.2.1.trans (hb56.mono HB4.out.2.1.size)
    have HS6 : Hid (Snp w (w5.alloc (Obj.cells #[Value.slice ag ps.length cg] 29)) w.heap.size (U + 1) w4.heap.size (w5.heap.size + 1) (fun _ => True) (fun W => MinP W w.heap.size U aw cw ps ∧ W.cell? ⟨U, 0, none⟩ = some (.slice aw ps.length cw)) (fun W => Mine W (U + 1) wa.heap.size (some ⟨U + 1, 0, none⟩) zs.length zs ∧ Mine W wa.heap.size w4.heap.size (some ⟨wa.heap.size, 0, none⟩) ys.length ys) (fun W => MinP W w4.heap.size w5.heap.size ag cg ps ∧ W.cell? ⟨w5.heap.size, 0, none⟩ = some (.slice ag ps.length cg))) := by
      have h3 := HB3.out
      have h4 := HB4.out.1.lt
      have h5 := hb5.size
      have h43 := HB4.out.2.1.size
      have hv := HB4.out.2.2.2.2
      have hown := HB4.out.1
      rw [h3.2.2.2.1] at hown h4 h43 hv
      refine ⟨h3.1.trans (hb36.mono (by omega)), by simp; omega, Stab.true _ _, trivial, (Stab.minP (Nat.le_refl _) (by omega)).and (Stab.cell h3.2.2.2.2 (by omega)), ⟨h3.2.1.below hb36, keep hb36 (by omega) h3.2.2.1⟩, (Stab.mine (Nat.le_refl _) (by omega)).and (Stab.mine (by omega) (Nat.le_refl _)), ⟨?_, ?_⟩, (Stab.minP (Nat.le_refl _) (by omega)).and (Stab.cell (by omega) (by omega)), ⟨hmg.below hba, by simp⟩⟩
      · exact Mine.below (.inr ⟨U + 1, rfl, Nat.le_refl _, hv.1, hown⟩) hb56
      · exact Mine.below (HB4.out.2.2.1.mine) hb56
    have HUY : Hid (w4.heap.size ≤ w5.heap.size ∧ U + 1 < wa.heap.size ∧ wa.heap.size < w4.heap.size) := ⟨hb5.size, by have := HB4.out.2.2.2.2.1; have := HB3.out.2.2.2.1; omega, HB4.out.2.2.2.2.2⟩
    have hXe : w3.heap.size = U + 1 := HB3.out.2.2.2.1
    have y6 := HS6.out.hw.2
    rw [hXe]
    clear hba hmg hb5 hb56 hb36 HB3 HB4 hXe
    go_wp2_with fail
    generalize w5.alloc (Obj.cells #[Value.slice ag ps.length cg] 29) = w6 at *
    generalize w5.heap.size = Y at *
    generalize w4.heap.size = V at *
    generalize wa.heap.size = V1 at *
    refine (eqMap_yes ag aw cg cw ps w6 HS6.out.hg.1.pls HS6.out.hw.1.pls (by omega)).mono ?_
    rintro e w7 ⟨rfl, hb7⟩
    have HS7 : Hid _ := HS6.out.step hb7
    clear HS6 hb7 y6
    go_wp2_with fail
    refine (toByteS_any a cap zs w7 (HB.out.below HS7.out.bel (Nat.le_refl _)) hn).mono ?_
    rintro e w8 ⟨rfl, ho8, hb8⟩
    have HS8 : Hid _ := HS7.out.step hb8
    have HO8 : Hid (Byt w8 (some ⟨w7.heap.size, 0, none⟩) zs) := ho8.byt
    clear HS7 hb8 ho8
    go_wp2_with fail
    refine (eqByteS_yes _ _ _ _ zs w8 HS8.out.hx.1.byt HO8.out (by omega)).mono ?_
    rintro e w9 ⟨rfl, n9, rfl⟩
    have HS9 : Hid _ := HS8.out.drew n9
    clear HS8 HO8
    generalize w8.drewN n9 = w9 at *
    go_wp2_with fail
    refine (toByteS_any b cb ys w9 (HC.out.below HS9.out.bel (Nat.le_refl _)) hn2).mono ?_
    rintro e wb ⟨rfl, hob, hbb⟩
    have HSB : Hid _ := HS9.out.step hbb
    have HOB : Hid (Byt wb (some ⟨w9.heap.size, 0, none⟩) ys) := hob.byt
    clear HS9 hbb hob
    go_wp2_with fail
    refine (eqByteS_yes _ _ _ _ ys wb HSB.out.hx.2.byt HOB.out (by omega)).mono ?_
    rintro e wc ⟨rfl, nc, rfl⟩
    have HSC : Hid _ := HSB.out.drew nc
    clear HSB HOB
    generalize wb.drewN nc = wc at *
    go_wp2_with fail
    refine (markByteS_any (some ⟨U + 1, 0, none⟩) (U + 1) V1 zs.length zs 1 _ HSC.out.hx.1 (by omega) (by omega) (by omega)).mono ?_
    rintro e wd ⟨rfl, hmd, hod⟩
    have HSD : Hid _ := HSC.out.markX hod (fun k hk => by have := hmd.rowT hk; have := HUY.out; omega) ((Stab.mine (B := U + 1) (U := V1) (a := some ⟨U + 1, 0, none⟩) (c := zs.length) (zs := marks 1 zs.length) (Nat.le_refl _) (by have := HUY.out; omega)).and (Stab.mine (B := V1) (U := V) (a := some ⟨V1, 0, none⟩) (c := ys.length) (zs := ys) (by have := HUY.out; omega) (Nat.le_refl _))) ⟨hmd, HSC.out.hx.2.only hod (fun k h1 h2 hk => by have := hmd.rowT hk; omega)⟩
    clear hmd hod HSC
    go_wp2_with fail
    refine (markByteS_any (some ⟨V1, 0, none⟩) V1 V ys.length ys _ _ HSD.out.hx.2 (by omega) (by omega) (by omega)).mono ?_
    rintro e w10 ⟨rfl, hm10, ho10⟩
    have HS10 : Hid _ := HSD.out.markX ho10 (fun k hk => by have := hm10.rowT hk; have := HUY.out; omega) (Stab.true _ _) trivial
    clear hm10 ho10 HSD
    have x10 := HS10.out.hg.2
    have y10 := HS10.out.hw.2
    go_wp2_with fail
    refine (eqMap_yes ag aw cg cw ps w10 HS10.out.hg.1.pls HS10.out.hw.1.pls (by omega)).mono ?_
    rintro e w11 ⟨rfl, hb11⟩
    have HS11 : Hid _ := HS10.out.step hb11
    clear HS10 hb11 x10 y10
    have x11 := HS11.out.hg.2
    go_wp2_with fail
    refine (markMap_any ag V Y cg ps 1 _ HS11.out.hg.1 (by have := HS11.out.ord; omega) (by omega) (by omega) (by omega)).mono ?_
    rintro e w12 ⟨rfl, hm12, ho12⟩
    have HS12 : Hid (Snp w w12 w.heap.size (U + 1) V (Y + 1) (fun _ => True) (fun W => MinP W w.heap.size U aw cw ps ∧ W.cell? ⟨U, 0, none⟩ = some (.slice aw ps.length cw)) (fun _ => True) (fun W => MinP W V Y ag cg (mkP 1 ps.length) ∧ W.cell? ⟨Y, 0, none⟩ = some (.slice ag ps.length cg))) :=
      HS11.out.markG ho12 (fun k hk => by have := hm12.row hk; omega) ((Stab.minP (Nat.le_refl _) (by omega)).and (Stab.cell HUY.out.1 (by omega))) ⟨hm12, ho12.cell (by have := HS11.out.ord; omega) (fun hk => by have := hm12.row hk; omega) x11⟩
    clear hm12 ho12 HS11 x11
    have x12 := HS12.out.hg.2
    go_wp2_with fail
    refine (heldMap_any ag cg ps.length 1 _ HS12.out.hg.1.pls (by omega) (by omega) (by omega)).mono ?_
    rintro e w13 ⟨rfl, hb13⟩
    have HS13 : Hid _ := HS12.out.step hb13
    clear HS12 hb13 x12
    go_wp2_with fail
    refine (toByteS_any a cap zs w13 (HB.out.below HS13.out.bel (Nat.le_refl _)) hn).mono ?_
    rintro e wf ⟨rfl, hof, hbf⟩
    have HSF : Hid _ := HS13.out.step hbf
    have HOF : Hid (Byt wf (some ⟨w13.heap.size, 0, none⟩) zs) := hof.byt
    clear HS13 hbf hof
    go_wp2_with fail
    refine (toByteS_any b cb ys wf (HC.out.below HSF.out.bel (Nat.le_refl _)) hn2).mono ?_
    rintro e w14 ⟨rfl, ho14, hb14⟩
    have HS14 : Hid _ := HSF.out.step hb14
    have HIM := HIMPL.out _ _ w14 (HOF.out.below hb14 (Nat.le_refl _)) ho14.byt
    clear HSF HOF hb14 ho14 HIMPL
    go_wp2_with fail
    refine HIM.mono ?_
    clear HIM
    rintro e w15 ⟨⟨ah, ch, rfl, hmh⟩, hb15⟩
    have hba : Below w15.heap.size w15 (w15.alloc (Obj.cells #[Value.slice ah ps.length ch] 29)) := (Below.refl _ _).alloc (Nat.le_refl _) _
    have HS16 : Hid _ := (HS14.out.step hb15).step hba
    have HM16 : Hid (Pls (w15.alloc (Obj.cells #[Value.slice ah ps.length ch] 29)) ah ps) := (hmh.below hba).pls
    have y16 := HS16.out.hw.2
    clear hba hmh hb15 HS14
    go_wp2_with fail
    generalize w15.alloc (Obj.cells #[Value.slice ah ps.length ch] 29) = w16 at *
    generalize w15.heap.size = T at *
    refine (eqMap_yes ah aw ch cw ps w16 HM16.out HS16.out.hw.1.pls (by omega)).mono ?_
    rintro e w17 ⟨rfl, hb17⟩
    have HS17 : Hid _ := HS16.out.step hb17
    clear HS16 hb17 y16 HM16
    have x17 := HS17.out.hg.2
    go_wp2_with fail
    refine (heldMap_any ag cg ps.length 1 _ HS17.out.hg.1.pls (by omega) (by omega) (by omega)).mono ?_
    rintro e w18 ⟨rfl, hb18⟩
    have HS18 : Hid _ := HS17.out.step hb18
    clear HS17 hb18 x17
    go_wp2
    go_ret
    exact ⟨rfl, HS18.out.bel⟩
  · have key : 1048576 < (zs.length : Int) ∨ ((zs.length : Int) ≤ 1048576 ∧ 1048576 < (ys.length : Int)) := by omega
    clear hnn
    rcases key with h | ⟨h, h2⟩
    all_goals
      go_enter Try.func9, Try.ntmps9
      go_wp2
      go_ret
      exact ⟨rfl, Below.refl _ _⟩
end Go.Proofs.Ythihdnmdmfdhdaa
