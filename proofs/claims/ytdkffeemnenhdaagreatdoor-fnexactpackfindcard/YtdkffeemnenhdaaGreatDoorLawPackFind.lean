/-
  The law on PackFind returns true, whatever is handed in, and writes nothing that was there.
-/
import Derived.Test.YtdkffeemnenhdaaGreatDoorVarsC
import Derived.Test.YtdkffeemnenhdaaGreatDoorPkF
namespace Go.Proofs.YtdkffeemnenhdaaGreatDoor
open Go.RowKit
set_option linter.unusedVariables false
set_option linter.unusedSimpArgs false


set_option maxRecDepth 20000 in
set_option maxHeartbeats 8000000 in
theorem lawPackFind_any (E O : Int) (a : Option Addr) (cap : Nat) (es : List El) (x : Int) (w : World) (hb : Els true w a es) (hm : es.length ≤ maxLen) (hS : SentB w) :
    Calls Tryz.prog 6 #[.agg #[.int .i64 E, .int .i64 O, .slice a es.length cap], .int .i64 x] w fun e w' => e = .returned (.bool true) ∧ Below w.heap.size w w' := by
  obtain ⟨f, hf⟩ := decF_ex
  have hw : Below w.heap.size w (w.alloc (Obj.cells #[Value.int IntKind.i64 E, Value.int IntKind.i64 O, Value.slice a es.length cap] 24)) := (Below.refl _ _).alloc (Nat.le_refl _) _
  have hbx := Box3.new w (.int .i64 E) (.int .i64 O) (.slice a es.length cap) 24
  have HSZ := szPack_any E O a cap es _ (hb.below hw (Nat.le_refl _)) hm 1048576 (by omega) (by omega)
  have HB : Hid (Els true w a es ∧ SentB w) := ⟨hb, hS⟩
  clear hb hS
  go_enter Tryz.func6, Tryz.ntmps6
  go_wp2_with fail
  generalize hW0 : (w.alloc (Obj.cells #[Value.int IntKind.i64 E, Value.int IntKind.i64 O, Value.slice a es.length cap] 24)) = W0 at *
  clear hW0
  refine HSZ.mono ?_
  clear HSZ
  rintro e w1 ⟨⟨z, rfl, hz⟩, hb1⟩
  have hx1 := hbx.step hb1
  have HB1 : Hid (Below w.heap.size w w1) := hw.trans (hb1.mono (by have := hw.size; omega))
  clear hb1 hw hbx
  rcases hz with rfl | ⟨hz0, hz1, hz2⟩
  · clear hx1
    go_wp2
    go_ret
    exact ⟨rfl, HB1.out⟩
  · have HF : Hid (FewI es) := FewI.mk' (by omega)
    have hzn : ¬ z < 0 := by omega
    clear hz2
    obtain ⟨p0, p1, p2, -, -, -, pl⟩ := id hx1
    have HX1 : Hid _ := hx1
    clear hx1
    go_wp2_with fail
    refine (toPack_any E O a cap es w1 (HB.out.1.below HB1.out (Nat.le_refl _)) HF.out.n HF.out.l).mono ?_
    rintro e w2 ⟨⟨g2, ts, rfl, hcop⟩, hb2⟩
    have hx2 := HX1.out.step hb2
    have HB2 : Hid (Below w.heap.size w w2) := HB1.out.trans (hb2.mono HB1.out.size)
    have hcp : ts.map El.ct = es.map El.ct := hcop.ct
    have htl : ts.length = es.length := len_ctE hcp
    have HSP := specPackFind_any f hf E O x (some ⟨g2, 0, none⟩) es.length ts w2 hcop.its (HF.out.ct hcp).j
    rw [htl] at HSP
    clear HB1 p0 p1 p2 pl hb2 hcop HX1
    go_wp2_with fail
    refine HSP.mono ?_
    clear HSP
    rintro e w3 ⟨⟨t3, rfl, hv3⟩, hb3⟩
    have hx3 := hx2.step hb3
    have HB3 : Hid (Below w.heap.size w w3) := HB2.out.trans (hb3.mono HB2.out.size)
    have HV3 : Hid (PfP f E O es x t3) := hv3.ct hcp
    clear hv3 hb3 HB2 hx2 hcp htl
    obtain ⟨p0, p1, p2, -, -, -, pl⟩ := id hx3
    have HX3 : Hid _ := hx3
    clear hx3
    go_wp2_with fail
    refine (toPack_any E O a cap es w3 (HB.out.1.below HB3.out (Nat.le_refl _)) HF.out.n HF.out.l).mono ?_
    rintro e w4 ⟨⟨g4, us, rfl, hcop⟩, hb4⟩
    have hx4 := HX3.out.step hb4
    have HB4 : Hid (Below w.heap.size w w4) := HB3.out.trans (hb4.mono HB3.out.size)
    have hba : Below w4.heap.size w4 (w4.alloc (Obj.cells #[Value.int IntKind.i64 E, Value.int IntKind.i64 O, Value.slice (some ⟨g4, 0, none⟩) es.length es.length] 29)) := (Below.refl _ _).alloc (Nat.le_refl _) _
    have hy5 := Box3.new w4 (.int .i64 E) (.int .i64 O) (.slice (some ⟨g4, 0, none⟩) es.length es.length) 29
    have hx5 := hx4.step hba
    have HC5 : Hid (CopT (w4.alloc (Obj.cells #[Value.int IntKind.i64 E, Value.int IntKind.i64 O, Value.slice (some ⟨g4, 0, none⟩) es.length es.length] 29)) w3.heap.size (.slice (some ⟨g4, 0, none⟩) es.length es.length) us es ∧ us.length = es.length ∧ Below w.heap.size w (w4.alloc (Obj.cells #[Value.int IntKind.i64 E, Value.int IntKind.i64 O, Value.slice (some ⟨g4, 0, none⟩) es.length es.length] 29))) := ⟨hcop.below hba, len_ctE hcop.ct, HB4.out.trans (hba.mono HB4.out.size)⟩
    clear hcop hb4 hx4 hba p0 p1 p2 pl HX3
    obtain ⟨q0, q1, q2, -, -, -, ql⟩ := id hy5
    have HXY : Hid _ := (⟨hx5, hy5⟩ : _ ∧ _)
    clear hx5 hy5
    go_wp2_with fail
    generalize w4.alloc (Obj.cells #[Value.int IntKind.i64 E, Value.int IntKind.i64 O, Value.slice (some ⟨g4, 0, none⟩) es.length es.length] 29) = w5 at *
    have HIM := implPackFind_any f hf E O x (some ⟨g4, 0, none⟩) es.length us w5 HC5.out.1.its (HF.out.ct HC5.out.1.ct).j (HB.out.2.below HC5.out.2.2)
    rw [HC5.out.2.1] at HIM
    refine HIM.mono ?_
    clear HIM
    rintro e w6 ⟨⟨t6, rfl, hv6⟩, hb6⟩
    have hxy6 := And.intro (HXY.out.1.step hb6) (HXY.out.2.step hb6)
    have HB6 : Hid (Below w.heap.size w w6 ∧ CopT w6 w3.heap.size (.slice (some ⟨g4, 0, none⟩) es.length es.length) us es) := ⟨HC5.out.2.2.trans (hb6.mono HC5.out.2.2.size), HC5.out.1.below hb6⟩
    have HV6 : Hid (PfP f E O es x t6) := hv6.ct HC5.out.1.ct
    clear hv6 hb6 HXY q0 q1 q2 ql
    obtain rfl : t6 = t3 := HV6.out.unique HV3.out
    have htt : (t6 != t6) = false := by simp
    have HXY6 : Hid _ := hxy6
    clear hxy6
    go_wp2_with fail
    go_region_held3 (fun W => W.cell? ⟨w.heap.size, 0, none⟩ = some (.int .i64 E) ∧ W.cell? ⟨w.heap.size, 1, none⟩ = some (.int .i64 O) ∧ W.cell? ⟨w.heap.size, 2, none⟩ = some (.slice a es.length cap) ∧ W.cell? ⟨w4.heap.size, 0, none⟩ = some (.int .i64 E) ∧ W.cell? ⟨w4.heap.size, 1, none⟩ = some (.int .i64 O) ∧ W.cell? ⟨w4.heap.size, 2, none⟩ = some (.slice (some ⟨g4, 0, none⟩) es.length es.length))
      (first | exact ⟨HXY6.out.1.c0, HXY6.out.1.c1, HXY6.out.1.c2, HXY6.out.2.c0, HXY6.out.2.c1, HXY6.out.2.c2⟩ | exact ⟨HXY8.out.1.c0, HXY8.out.1.c1, HXY8.out.1.c2, HXY8.out.2.c0, HXY8.out.2.c1, HXY8.out.2.c2⟩ | exact ⟨HXY9.out.1.c0, HXY9.out.1.c1, HXY9.out.1.c2, HXY9.out.2.c0, HXY9.out.2.c1, HXY9.out.2.c2⟩)
      (first
        | (go_at_call 11; refine (toPack_any E O a cap es _ (HB.out.1.below HB6.out.1.drew (Nat.le_refl _)) HF.out.n HF.out.l).mono ?_; rintro e w8 ⟨⟨g8, vs, rfl, hcop8⟩, hb8'⟩; have hb8 : Below w6.heap.size w6 w8 := Below.drewS hb8'; have HXY8 : Hid _ := And.intro (HXY6.out.1.step hb8) (HXY6.out.2.step hb8); have HB8 : Hid (Below w.heap.size w w8 ∧ CopT w8 w3.heap.size (.slice (some ⟨g4, 0, none⟩) es.length es.length) us es) := ⟨HB6.out.1.trans (hb8.mono HB6.out.1.size), HB6.out.2.below hb8⟩; have HC8 : Hid _ := hcop8; clear hcop8 hb8 hb8')
        | (go_at_call 13; refine (eqPack_two E O (some ⟨g4, 0, none⟩) (some ⟨g8, 0, none⟩) es us vs w8 HB8.out.2 HC8.out HF.out).mono ?_; rintro e w9 ⟨rfl, hb9⟩; have HXY9 : Hid _ := And.intro (HXY8.out.1.step hb9) (HXY8.out.2.step hb9); have HB9 : Hid (Below w.heap.size w w9) := HB8.out.1.trans (hb9.mono HB8.out.1.size); clear hb9))
    clear HXY8 HXY9 HXY6
    go_wp2
    go_ret
    exact ⟨rfl, HB9.out⟩
end Go.Proofs.YtdkffeemnenhdaaGreatDoor
