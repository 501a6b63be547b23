/-
  FnExactSymbols, for every input: the call returns true and leaves its arguments as they were, where the named variables hold what the program's own text lays there (the card ties them to it).
-/
import Derived.Test.YtecmnbdnnlifhaaDoorSnapY
import Derived.Test.YtecmnbdnnlifhaaDoorEqB
import Derived.Test.YtecmnbdnnlifhaaDoorIEq
import Derived.Test.YtecmnbdnnlifhaaDoorMarksB
import Derived.Test.YtecmnbdnnlifhaaDoorSqEq
import Derived.Test.YtecmnbdnnlifhaaDoorOpenB
import Derived.Test.YtecmnbdnnlifhaaDoorOpenS
import Derived.Test.YtecmnbdnnlifhaaDoorVars3
import Derived.Test.YtecmnbdnnlifhaaDoorOpenSq
import Derived.Test.YtecmnbdnnlifhaaDoorVarsC
namespace Go.Proofs.YtecmnbdnnlifhaaDoor
open Go.RowKit
set_option linter.unusedVariables false

set_option maxRecDepth 20000 in
set_option maxHeartbeats 8000000 in
theorem lawSymbols_any (a : Option Addr) (cap : Nat) (ss : List Sq) (w : World) (hb : Sqs w a ss) (hm : ss.length ≤ maxLen) :
    Calls Tryd.prog 3 #[.slice a ss.length cap] w fun e w' => e = .returned (.bool true) ∧ Below w.heap.size w w' := by
  go_enter Tryd.func3, Tryd.ntmps3
  go_wp2_with fail
  refine (szSeqS_any a cap ss w hb hm).mono ?_
  rintro e w1 ⟨⟨z, rfl, hz⟩, hb1⟩
  by_cases hz0 : 0 ≤ z
  · have HSZ : Hid (ss.length + lets ss ≤ 1048576) := hz hz0
    have HLT : Hid (∀ s ∈ ss, s.ls.length ≤ 1048576) := fun s hs => by have h1 := lets_mem hs; have h2 := HSZ.out; omega
    have hn : ss.length ≤ 1048576 := by have := HSZ.out; omega
    obtain ⟨T, zs, N, ok, hTz, hspec, himpl⟩ := symbols_both ss hn HLT.out
    have HS0 : Hid _ := hspec
    have HI0 : Hid _ := himpl
    have hT := hTz.1
    have hZ := hTz.2
    have hok : (ok != ok) = false := by simp
    clear hz hspec himpl hTz
    go_wp2_with fail
    refine (toSeqS_any a cap ss w1 (hb.below hb1 (Nat.le_refl _)) hn HLT.out).mono ?_
    rintro e w2 ⟨rfl, ⟨ts, htl, hct, ho2⟩, hb2⟩
    have hbb2 : Below w.heap.size w w2 := hb1.trans (hb2.mono hb1.size)
    have HSP := HS0.out (some ⟨w1.heap.size, 0, none⟩) ss.length ts w2 ho2.sqs hct
    clear ho2 hb2 hb1 hct htl
    clear ts
    go_wp2_with fail
    refine HSP.mono ?_
    clear HSP
    rintro e w3 ⟨aw, cw, bw, dw, rfl, hA⟩
    have hz3 : w.heap.size ≤ w3.heap.size := Nat.le_trans hbb2.size hA.bel.size
    have HW3 : Hid (MinI (w3.alloc (Obj.cells #[.slice bw zs.length dw, .int .i64 N] 27)) w.heap.size w3.heap.size aw cw T ∧ Mine (w3.alloc (Obj.cells #[.slice bw zs.length dw, .int .i64 N] 27)) w.heap.size w3.heap.size bw dw zs ∧ (w3.alloc (Obj.cells #[.slice bw zs.length dw, .int .i64 N] 27)).heap[w3.heap.size]? = some (.cells #[.slice bw zs.length dw, .int .i64 N] 27 (0, 0)) ∧ Below w.heap.size w (w3.alloc (Obj.cells #[.slice bw zs.length dw, .int .i64 N] 27)) ∧ w3.heap.size < (w3.alloc (Obj.cells #[.slice bw zs.length dw, .int .i64 N] 27)).heap.size) := by
      have hB : Below w3.heap.size w3 (w3.alloc (Obj.cells #[.slice bw zs.length dw, .int .i64 N] 27)) := (Below.refl _ _).alloc (Nat.le_refl _) _
      exact ⟨(hA.mi.below hB).mono hbb2.size (Nat.le_refl _), (hA.mb.below hB).mono hbb2.size (Nat.le_refl _), heap_alloc_new w3 _, (hbb2.trans (hA.bel.mono hbb2.size)).trans (hB.mono hz3), by simp⟩
    have htw := toSeqS_any a cap ss (w3.alloc (Obj.cells #[.slice bw zs.length dw, .int .i64 N] 27)) (hb.below HW3.out.2.2.2.1 (Nat.le_refl _)) hn HLT.out
    clear hA hbb2
    go_wp2_with fail
    generalize w3.alloc (Obj.cells #[.slice bw zs.length dw, .int .i64 N] 27) = W3 at *
    generalize w3.heap.size = Y at *
    refine htw.mono ?_
    clear htw
    rintro e w4 ⟨rfl, ⟨ts, htl, hct, ho4⟩, hb4⟩
    have HIM := HI0.out (some ⟨W3.heap.size, 0, none⟩) ss.length ts w4 ho4.sqs hct
    have HCT : Hid (ts.map Sq.ct = ss.map Sq.ct) := hct
    have HO4 : Hid (OwS w4 W3.heap.size W3.heap.size ss.length ts ∧ ∀ b, (b = W3.heap.size ∨ ∃ s ∈ ts, rowOf s.a b) → W3.heap.size ≤ b ∧ b < w4.heap.size) := ⟨ho4, ho4.insideY⟩
    have HW4 : Hid (MinI w4 w.heap.size Y aw cw T ∧ Mine w4 w.heap.size Y bw dw zs ∧ w4.heap[Y]? = some (.cells #[.slice bw zs.length dw, .int .i64 N] 27 (0, 0)) ∧ Below w.heap.size w w4 ∧ Y < W3.heap.size ∧ W3.heap.size ≤ w4.heap.size) := ⟨HW3.out.1.below hb4, HW3.out.2.1.below hb4, (hb4.block Y HW3.out.2.2.2.2).trans HW3.out.2.2.1, HW3.out.2.2.2.1.trans (hb4.mono HW3.out.2.2.2.1.size), HW3.out.2.2.2.2, hb4.size⟩
    clear hb4 hct htl ho4 HW3
    go_wp2_with fail
    refine HIM.mono ?_
    clear HIM
    rintro e w5 ⟨ag, cg, bg, dg, rfl, hA⟩
    have hA6 : Below w5.heap.size w5 (w5.alloc (Obj.cells #[.slice bg zs.length dg, .int .i64 N] 27)) := (Below.refl _ _).alloc (Nat.le_refl _) _
    have h46 : Below w4.heap.size w4 (w5.alloc (Obj.cells #[.slice bg zs.length dg, .int .i64 N] 27)) := hA.bel.trans (hA6.mono hA.bel.size)
    have hY6 : (w5.alloc (Obj.cells #[.slice bg zs.length dg, .int .i64 N] 27)).heap[Y]? = some (.cells #[.slice bw zs.length dw, .int .i64 N] 27 (0, 0)) := (h46.block Y (by have := HW4.out.2.2.2.2; omega)).trans HW4.out.2.2.1
    have hZ6 : (w5.alloc (Obj.cells #[.slice bg zs.length dg, .int .i64 N] 27)).heap[w5.heap.size]? = some (.cells #[.slice bg zs.length dg, .int .i64 N] 27 (0, 0)) := heap_alloc_new w5 _
    have HS6 : Hid (SnapY w (w5.alloc (Obj.cells #[.slice bg zs.length dg, .int .i64 N] 27)) Y Y w4.heap.size w5.heap.size aw bw cw dw T zs N ag bg cg dg T zs) :=
      ⟨HW4.out.2.2.2.1.trans (h46.mono HW4.out.2.2.2.1.size), hz3, Nat.le_refl _, by have := HW4.out.2.2.2.2; omega, hA.bel.size, by simp, HW4.out.1.below h46, HW4.out.2.1.below h46, cellRR (j := 0) hY6 rfl, cellRR (j := 1) hY6 rfl, hA.mi.below hA6, hA.mb.below hA6, cellRR (j := 0) hZ6 rfl, cellRR (j := 1) hZ6 rfl⟩
    have HO6 : Hid (OwS (w5.alloc (Obj.cells #[.slice bg zs.length dg, .int .i64 N] 27)) W3.heap.size W3.heap.size ss.length ts ∧ (∀ b, (b = W3.heap.size ∨ ∃ s ∈ ts, rowOf s.a b) → W3.heap.size ≤ b ∧ b < w4.heap.size) ∧ Y < W3.heap.size) := ⟨HO4.out.1.below h46, HO4.out.2, HW4.out.2.2.2.2.1⟩
    clear hA hA6 h46 hY6 hZ6 HW4 HO4
    have y0 := HS6.out.y0
    have y1 := HS6.out.y1
    have z0 := HS6.out.z0
    have z1 := HS6.out.z1
    have hEQ := eqIntS_yes ag aw cg cw T _ HS6.out.gi.byt HS6.out.wi.byt (by omega)
    go_wp2_with fail
    generalize w5.alloc (Obj.cells #[.slice bg zs.length dg, .int .i64 N] 27) = W6 at *
    generalize w5.heap.size = Z at *
    generalize w4.heap.size = X at *
    generalize W3.heap.size = Q at *
    refine hEQ.mono ?_
    clear hEQ y0 y1 z0 z1
    rintro e w7 ⟨rfl, n7, hw7⟩
    have HS7 : Hid (SnapY w w7 Y Y X Z aw bw cw dw T zs N ag bg cg dg T zs) := by rw [hw7]; exact HS6.out.step (below_dY W6 n7)
    have HO7 : Hid (OwS w7 Q Q ss.length ts) := by rw [hw7]; exact HO6.out.1.below (below_dY W6 n7)
    clear hw7 HS6
    have y0 := HS7.out.y0
    have y1 := HS7.out.y1
    have z0 := HS7.out.z0
    have z1 := HS7.out.z1
    go_wp2_with fail
    refine (eqBits_yes bg bw dg dw zs N _ HS7.out.gb.byt HS7.out.wb.byt (by omega)).mono ?_
    clear y0 y1 z0 z1
    rintro e w8 ⟨rfl, hb8⟩
    have HS8 : Hid (SnapY w w8 Y Y X Z aw bw cw dw T zs N ag bg cg dg T zs) := HS7.out.step hb8
    have HO8 : Hid (OwS w8 Q Q ss.length ts) := HO7.out.below hb8
    clear hb8 HS7 HO7
    go_wp2_with fail
    refine (toSeqS_any a cap ss w8 (hb.below HS8.out.bel (Nat.le_refl _)) hn HLT.out).mono ?_
    rintro e w9 ⟨rfl, ⟨us, hul, hcu, ho9⟩, hb9⟩
    have HS9 : Hid (SnapY w w9 Y Y X Z aw bw cw dw T zs N ag bg cg dg T zs) := HS8.out.step hb9
    have HO9 : Hid (OwS w9 Q Q ss.length ts) := HO8.out.below hb9
    have HEQ := eqSeqS_yes (some ⟨Q, 0, none⟩) (some ⟨w8.heap.size, 0, none⟩) ss.length ss.length ts us w9 HO9.out.sqs ho9.sqs (HCT.out.trans hcu.symm) (by rw [lenY HCT.out]; omega) (fun s hs => by have := lits_allY HCT.out HLT.out s hs; omega)
    rw [lenY HCT.out] at HEQ
    clear hb9 ho9 hcu hul HO8 HS8
    go_wp2_with fail
    refine HEQ.mono ?_
    clear HEQ
    rintro e w10 ⟨rfl, hb10⟩
    have HS10 : Hid (SnapY w w10 Y Y X Z aw bw cw dw T zs N ag bg cg dg T zs) := HS9.out.step hb10
    have HO10 : Hid (OwS w10 Q Q ss.length ts) := HO9.out.below hb10
    have HMK := markSeqS_own Q Q ss.length ts 1 w10 HO10.out (by rw [lenY HCT.out, lets_ct ts ss HCT.out]; exact HSZ.out) (by omega) (by omega)
    rw [lenY HCT.out, lets_ct ts ss HCT.out] at HMK
    have hkb : 0 ≤ (1 : Int) + lets ss + 2 * ss.length := by omega
    clear hb10 HS9 HO9
    go_wp2_with fail
    refine HMK.mono ?_
    clear HMK
    rintro e w11 ⟨rfl, -, ho11⟩
    have HS11 : Hid (SnapY w w11 Y Y X Z aw bw cw dw T zs N ag bg cg dg T zs) := HS10.out.only ho11 (fun k hk => .inl (by have := HO6.out.2.1 k hk; have := HO6.out.2.2; omega))
    clear ho11 HS10 HO10 HO6
    generalize (1 : Int) + lets ss + 2 * ss.length = kk at *
    go_wp2_with fail
    refine (eqIntS_yes ag aw cg cw T _ HS11.out.gi.byt HS11.out.wi.byt (by omega)).mono ?_
    rintro e w12 ⟨rfl, n12, hw12⟩
    have HS12 : Hid (SnapY w w12 Y Y X Z aw bw cw dw T zs N ag bg cg dg T zs) := by rw [hw12]; exact HS11.out.step (below_dY w11 n12)
    clear hw12 HS11
    have y0 := HS12.out.y0
    have y1 := HS12.out.y1
    have z0 := HS12.out.z0
    have z1 := HS12.out.z1
    go_wp2_with fail
    refine (eqBits_yes bg bw dg dw zs N _ HS12.out.gb.byt HS12.out.wb.byt (by omega)).mono ?_
    clear y0 y1 z0 z1
    rintro e w13 ⟨rfl, hb13⟩
    have HS13 : Hid (SnapY w w13 Y Y X Z aw bw cw dw T zs N ag bg cg dg T zs) := HS12.out.step hb13
    clear hb13 HS12
    go_wp2_with fail
    refine (markIntS_any ag X Z cg T 1 _ HS13.out.gi (by omega) (by omega) (by omega)).mono ?_
    rintro e w14 ⟨rfl, hm14, ho14⟩
    have HS14 : Hid (SnapY w w14 Y Y X Z aw bw cw dw T zs N ag bg cg dg (marksI 1 T.length) zs) := HS13.out.markI ho14 hm14
    clear hm14 ho14 HS13
    have z0 := HS14.out.z0
    have z1 := HS14.out.z1
    go_wp2_with fail
    refine (markBits_any bg X Z dg zs N _ _ HS14.out.gb (by omega) (by omega) (by omega)).mono ?_
    rintro e w15 ⟨rfl, hm15, ho15⟩
    have HS15 : Hid (SnapY w w15 Y Y X Z aw bw cw dw T zs N ag bg cg dg (marksI 1 T.length) (marks (1 + T.length) zs.length)) := HS14.out.markB ho15 (marks_len _ _) hm15
    clear hm15 ho15 HS14 z0 z1
    have HZL : Hid ((marks (1 + (T.length : Int)) zs.length).length = zs.length ∧ True) := ⟨marks_len _ _, trivial⟩
    have z0 := HS15.out.z0
    have z1 := HS15.out.z1
    rw [HZL.out.1] at z0
    go_wp2_with fail
    refine (heldIntS_any ag cg T.length 1 _ HS15.out.gi.byt (by omega) (by omega) (by omega)).mono ?_
    rintro e w16 ⟨rfl, hw16⟩
    rw [hw16]
    clear hw16
    go_wp2_with fail
    refine (heldBits_any bg dg zs.length N (1 + T.length) _ HS15.out.gb.byt (by omega) (by omega) (by omega)).mono ?_
    clear z0 z1
    rintro e w17 ⟨rfl, hb17⟩
    have HS17 : Hid (SnapY w w17 Y Y X Z aw bw cw dw T zs N ag bg cg dg (marksI 1 T.length) (marks (1 + T.length) zs.length)) := HS15.out.step hb17
    clear hb17 HS15
    go_wp2_with fail
    refine (toSeqS_any a cap ss w17 (hb.below HS17.out.bel (Nat.le_refl _)) hn HLT.out).mono ?_
    rintro e w18 ⟨rfl, ⟨vs, hvl, hcv, ho18⟩, hb18⟩
    have HS18 : Hid (SnapY w w18 Y Y X Z aw bw cw dw T zs N ag bg cg dg (marksI 1 T.length) (marks (1 + T.length) zs.length)) := HS17.out.step hb18
    have HIM := HI0.out (some ⟨w17.heap.size, 0, none⟩) ss.length vs w18 ho18.sqs hcv
    clear hb18 HS17 ho18 hvl hcv
    go_wp2_with fail
    refine HIM.mono ?_
    clear HIM
    rintro e w19 ⟨ah, ch, bh, dh, rfl, hA⟩
    have hA20 : Below w19.heap.size w19 (w19.alloc (Obj.cells #[.slice bh zs.length dh, .int .i64 N] 27)) := (Below.refl _ _).alloc (Nat.le_refl _) _
    have HS20 : Hid (SnapY w (w19.alloc (Obj.cells #[.slice bh zs.length dh, .int .i64 N] 27)) Y Y X Z aw bw cw dw T zs N ag bg cg dg (marksI 1 T.length) (marks (1 + T.length) zs.length)) := (HS18.out.step hA.bel).step hA20
    have HH20 : Hid (Ins (w19.alloc (Obj.cells #[.slice bh zs.length dh, .int .i64 N] 27)) ah T ∧ Byt (w19.alloc (Obj.cells #[.slice bh zs.length dh, .int .i64 N] 27)) bh zs ∧ (w19.alloc (Obj.cells #[.slice bh zs.length dh, .int .i64 N] 27)).heap[w19.heap.size]? = some (.cells #[.slice bh zs.length dh, .int .i64 N] 27 (0, 0))) := ⟨(hA.mi.below hA20).byt, (hA.mb.below hA20).byt, heap_alloc_new w19 _⟩
    clear hA hA20 HS18
    go_wp2_with fail
    generalize w19.alloc (Obj.cells #[.slice bh zs.length dh, .int .i64 N] 27) = W20 at *
    generalize w19.heap.size = V at *
    refine (eqIntS_yes ah aw ch cw T _ HH20.out.1 HS20.out.wi.byt (by omega)).mono ?_
    rintro e w21 ⟨rfl, n21, hw21⟩
    have HS21 : Hid (SnapY w w21 Y Y X Z aw bw cw dw T zs N ag bg cg dg (marksI 1 T.length) (marks (1 + T.length) zs.length) ∧ Byt w21 bh zs ∧ w21.heap[V]? = some (.cells #[.slice bh zs.length dh, .int .i64 N] 27 (0, 0))) := by
      rw [hw21]
      exact ⟨HS20.out.step (below_dY W20 n21), HH20.out.2.1.below (below_dY W20 n21) (Nat.le_refl _), HH20.out.2.2⟩
    clear hw21 HS20 HH20
    have y0 := HS21.out.1.y0
    have y1 := HS21.out.1.y1
    have v0 : w21.cell? ⟨V, 0, none⟩ = some (.slice bh zs.length dh) := cellRR (j := 0) HS21.out.2.2 rfl
    have v1 : w21.cell? ⟨V, 1, none⟩ = some (.int .i64 N) := cellRR (j := 1) HS21.out.2.2 rfl
    go_wp2_with fail
    refine (eqBits_yes bh bw dh dw zs N _ HS21.out.2.1 HS21.out.1.wb.byt (by omega)).mono ?_
    clear y0 y1 v0 v1
    rintro e w22 ⟨rfl, hb22⟩
    have HS22 : Hid (SnapY w w22 Y Y X Z aw bw cw dw T zs N ag bg cg dg (marksI 1 T.length) (marks (1 + T.length) zs.length)) := HS21.out.1.step hb22
    clear hb22 HS21
    have z0 := HS22.out.z0
    have z1 := HS22.out.z1
    rw [HZL.out.1] at z0
    go_wp2_with fail
    refine (heldIntS_any ag cg T.length 1 _ HS22.out.gi.byt (by omega) (by omega) (by omega)).mono ?_
    rintro e w23 ⟨rfl, hw23⟩
    rw [hw23]
    clear hw23
    go_wp2_with fail
    refine (heldBits_any bg dg zs.length N (1 + T.length) _ HS22.out.gb.byt (by omega) (by omega) (by omega)).mono ?_
    clear z0 z1
    rintro e w24 ⟨rfl, hb24⟩
    have HBF : Hid (Below w.heap.size w w24) := (HS22.out.step hb24).bel
    clear hb24 HS22
    go_wp2
    go_ret
    exact ⟨rfl, HBF.out⟩
  · clear hz
    go_wp2
    go_ret
    exact ⟨rfl, hb1⟩
end Go.Proofs.YtecmnbdnnlifhaaDoor
namespace Go.Proofs.YtecmnbdnnlifhaaDoor.cardSymbols
open Go.ChangeShapes Go.WideShapes Go.ChangeAt Go.RowKit Go.Joins
set_option linter.unusedVariables false

theorem g_errFull : Tryd.prog.globalNamed "loop.example/g00528/impl.errFull" = some 3 := by kernel_rfl
theorem t_errFull : (Tryd.prog.globals[3]?).map (·.type) = some 60 := by kernel_rfl
theorem g_errRange : Tryd.prog.globalNamed "loop.example/g00528/impl.errRange" = some 2 := by kernel_rfl
theorem t_errRange : (Tryd.prog.globals[2]?).map (·.type) = some 60 := by kernel_rfl
theorem door_met (os : Os) (args : Array Value) : laidMetH Tryd.prog Rows.fnExactSymbolsRow.laid ((World.doorLaid Tryd.prog 123 os).forCall (fun _ _ => 0) ⟨#[], args, []⟩).memory :=
  laidMetH_of_parts3 (fuel := 8) (laidMet_of_run' 8 (by kernel_rfl) (by kernel_rfl)) (by kernel_rfl) (by kernel_rfl)

set_option maxRecDepth 100000 in
theorem lifted (os : Os) (started : os.Started) (H : Type) (enc : TypeId × Value → H) :
    ReturnsInHanded {} Tryd.checked os 3 .any (fun w args => (Rows.fnExactSymbolsSpec.pre enc Tryd.prog Tryd.f3 [] false w args ∧ laidMetH Tryd.prog Rows.fnExactSymbolsRow.laid w) ∧ sizedMet enc Tryd.prog Tryd.f3 (OpenSpec.ofChange Rows.fnExactSymbolsSpec) false w args)
      (Rows.fnExactSymbolsSpec.post enc Tryd.prog Tryd.f3 false true false false) := by
  refine returnsInHanded_of_change_and (C := Tryd.checked) (X := fun w _ => laidMetH Tryd.prog Rows.fnExactSymbolsRow.laid w) (fun _ _ _ hh h => h.of_heap hh) Tryd.own started (by kernel_rfl) Tryd.func3
    (ChangeSpec.witness_shaped (enc := enc) (C := Tryd.checked) (os := os) (X := fun w _ => laidMetH Tryd.prog Rows.fnExactSymbolsRow.laid w) false (World.doorLaid Tryd.prog 123 os) #[.slice .none 0 0] 8 rfl (World.shaped_of_RefB (by kernel_rfl) (by kernel_rfl)) (by kernel_rfl) (by kernel_rfl) (by kernel_rfl) (door_met os _)) ?_
  intro W base args ds gs before hval0 hW _ _ hL _
  have hval : ∀ (j : Nat) t v, Tryd.f3.params[j]? = some t → args[j]? = some v → Value.okWide Tryd.prog W .any base t v := hval0
  have hW' := hW
  obtain ⟨p, q, hA0, hV0, rfl, hfz, hnd⟩ := hW
  have hA : DataW.TrodAll enc Tryd.prog W 0 (fun _ => true) true Tryd.f3.params.toList args.toList ds p := hA0
  have hV : DataW.TrodVars enc Tryd.prog W (fun _ => true) ["loop.example/g00528/impl.errRange", "loop.example/g00528/impl.errFull"] gs q := hV0
  rw [Tryd.params3] at hA hval
  obtain ⟨v0, vs0, d0, ds0, p0, q0, hargs, rfl, rfl, h0, r0⟩ := trodAll_cons hA
  obtain ⟨rfl, rfl, rfl⟩ := trodAll_nil r0
  obtain rfl : args = #[v0] := by cases args; simp_all
  have k0 := h0
  have lt0 : ∀ x ∈ p0, x.block < W.heap.size := by obtain ⟨m, hm⟩ := k0; exact DataW.trod_lt m _ _ _ hm
  obtain ⟨sa0, sl0, sc0, rfl⟩ := okWide_slice Tryd.underlying22 (hval 0 22 v0 rfl rfl)
  obtain ⟨fuel0, hf0⟩ := h0
  obtain ⟨a0, zs0, cap0, hv0, hb0, hm0⟩ := sqs_of_trod (v := .slice sa0 sl0 sc0) (by simpa [Value.cells] using hf0)
  rw [hv0] at hW' k0 ⊢
  rw [MakeChecks.laidMetH_plain _ _ _ (by kernel_rfl)] at hL
  obtain ⟨s_errFull, hv_errFull, hc_errFull⟩ := sentinel hL g_errFull t_errFull
  have hG_errFull : 3 < W.heap.size := World.block_lt_of_cell? _ _ hc_errFull
  obtain ⟨s_errRange, hv_errRange, hc_errRange⟩ := sentinel hL.tail g_errRange t_errRange
  have hG_errRange : 2 < W.heap.size := World.block_lt_of_cell? _ _ hc_errRange
  have read : ∀ (W' : World) (sp : Nat → Bool), Below W.heap.size W W' → DataW.TrodVars enc Tryd.prog W' sp ["loop.example/g00528/impl.errRange", "loop.example/g00528/impl.errFull"] _ _ := fun W' sp bel =>
    vars_consC enc g_errRange t_errRange Tryd.underlying60 (var?_below bel g_errRange hG_errRange hv_errRange) trivial (vars_consC enc g_errFull t_errFull Tryd.underlying60 (var?_below bel g_errFull hG_errFull hv_errFull) trivial (vars_nil enc _))
  obtain ⟨rfl, rfl⟩ := hV.unique (read W _ (Below.refl _ _))
  clear hA0 hV0 hval0
  refine (lawSymbols_any a0 cap0 zs0 W hb0 hm0 ).mono fun e W' ⟨he, bel⟩ => ?_
  subst he
  exact ⟨_, rfl, _, _, _, [], _, _, hW', trodAll_mk1 (shut_bool Tryd.underlying4 _),
    (trodAll_cons_mk (Below.trod Tryd.laidOut (by kernel_rfl) (of_decide_eq_true (by kernel_rfl)) k0 bel lt0) trodAll_mk0),
    read W' _ bel, bel.frame _, fun h => by cases h⟩

theorem said : Rows.FnExactSymbolsSaid :=
  OpenClaim.holds_of_wide 3 Tryd.f3 rfl rfl rfl rfl rfl rfl rfl ⟨rfl, rfl, rfl, rfl, rfl⟩ rfl rfl rfl rfl rfl (by kernel_rfl) Tryd.func3 (by kernel_rfl)
    (of_decide_eq_true (by kernel_rfl)) (by unfold Func.isWrapper; first | (rw [if_pos (by decide +kernel)]; kernel_rfl) | (rw [if_neg (by decide +kernel)]; exact ⟨rfl, rfl⟩))
    (fun os started H enc _ => lifted os started H enc)

theorem plain (f : FuncId) (fn : Func) (hf : Tryd.pinned.checked.prog.funcNamed "loop.example/g00528/laws.FnExactSymbols" = some f) (hfn : Tryd.pinned.checked.prog.funcs[f]? = some fn) :
    false = Tryd.pinned.checked.prog.looks [] ∧ ∀ (j : Nat) t, fn.params[j]? = some t → Tryd.pinned.checked.prog.wantsStandIn t = false := by
  obtain rfl : f = 3 := Option.some.inj ((show Tryd.prog.funcNamed "loop.example/g00528/laws.FnExactSymbols" = some 3 by kernel_rfl).symm.trans hf) |>.symm
  obtain rfl : fn = Tryd.f3 := (Option.some.inj (Tryd.func3.symm.trans hfn)).symm
  refine ⟨by kernel_rfl, fun j t ht => ?_⟩
  rw [Tryd.params3] at ht
  have hmem := Array.mem_of_getElem? ht
  have h' : t = 22 := by simpa using hmem
  rcases h' with rfl
  · exact (show Tryd.prog.wantsStandIn 22 = false by kernel_rfl)

end cardSymbols

theorem symbols_card : Rows.FnExactSymbolsCardSaid :=
  Claim7.holds_tied_plain_at .later [] _ _ _ _ cardSymbols.said (fun _ h => by cases h) (by kernel_rfl) (fun _ h => by cases h) fnExactSymbols_row_tie rfl ⟨rfl, rfl⟩ (by kernel_rfl) rfl cardSymbols.plain (by kernel_rfl)
#print axioms symbols_card
end Go.Proofs.YtecmnbdnnlifhaaDoor
