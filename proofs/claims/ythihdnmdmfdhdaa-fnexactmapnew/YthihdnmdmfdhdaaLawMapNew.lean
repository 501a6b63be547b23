/-
  The law on MapNew returns true, whatever is handed in, and writes nothing that was there.
-/
import Derived.Test.YthihdnmdmfdhdaaMpNew
import Derived.Test.YthihdnmdmfdhdaaSnp
import Derived.Test.YthihdnmdmfdhdaaPlEq
namespace Go.Proofs.Ythihdnmdmfdhdaa
open Go.RowKit
set_option linter.unusedVariables false

set_option maxRecDepth 20000 in
set_option maxHeartbeats 8000000 in
theorem lawMapNew_any (n : Int) (w : World) :
    Calls Try.prog 4 #[.int .i64 n] w fun e w' => e = .returned (.bool true) ∧ Below w.heap.size w w' := by
  have HSP := specMapNew_any n w
  have HIMPL : Hid (∀ w, Calls Try.prog 16 #[.int .i64 n] w fun e w' => (∃ a c, e = .returned (.tuple #[.agg #[.slice a (nwN n) c], .bool (nwB n)]) ∧ MinP w' w.heap.size w'.heap.size a c (List.replicate (nwN n) dp)) ∧ Below w.heap.size w w') := fun w => implMapNew_any n w
  have hl : nwN n ≤ 16 := nwN_le n
  generalize nwN n = m at *
  generalize nwB n = R at *
  generalize hps : List.replicate m dp = ps at *
  have hln : ps.length = m := by rw [← hps]; simp
  clear hps
  subst hln
  have hRR : (R != R) = false := by simp
  go_enter Try.func4, Try.ntmps4
  go_wp2_with fail
  refine HSP.mono ?_
  clear HSP
  rintro e w1 ⟨⟨aw, cw, rfl, hmw⟩, hb1⟩
  have hba : Below w1.heap.size w1 (w1.alloc (Obj.cells #[Value.slice aw ps.length cw] 29)) := (Below.refl _ _).alloc (Nat.le_refl _) _
  have HB2 : Hid (Below w.heap.size w (w1.alloc (Obj.cells #[Value.slice aw ps.length cw] 29)) ∧ MinP (w1.alloc (Obj.cells #[Value.slice aw ps.length cw] 29)) w.heap.size w1.heap.size aw cw ps ∧ (w1.alloc (Obj.cells #[Value.slice aw ps.length cw] 29)).cell? ⟨w1.heap.size, 0, none⟩ = some (.slice aw ps.length cw) ∧ (w1.alloc (Obj.cells #[Value.slice aw ps.length cw] 29)).heap.size = w1.heap.size + 1 ∧ w.heap.size ≤ w1.heap.size) := ⟨hb1.trans (hba.mono hb1.size), hmw.below hba, by simp, by simp, hb1.size⟩
  clear hba hmw hb1
  go_wp2_with fail
  generalize w1.alloc (Obj.cells #[Value.slice aw ps.length cw] 29) = w2 at *
  generalize w1.heap.size = U at *
  refine (HIMPL.out w2).mono ?_
  rintro e w3 ⟨⟨ag, cg, rfl, hmg⟩, hb3⟩
  have hba : Below w3.heap.size w3 (w3.alloc (Obj.cells #[Value.slice ag ps.length cg] 29)) := (Below.refl _ _).alloc (Nat.le_refl _) _
  have hb4 := hb3.trans (hba.mono hb3.size)
  have HS4 : Hid (Snp w (w3.alloc (Obj.cells #[Value.slice ag ps.length cg] 29)) w.heap.size (U + 1) (U + 1) (w3.heap.size + 1) (fun _ => True) (fun W => MinP W w.heap.size U aw cw ps ∧ W.cell? ⟨U, 0, none⟩ = some (.slice aw ps.length cw)) (fun _ => True) (fun W => MinP W (U + 1) w3.heap.size ag cg ps ∧ W.cell? ⟨w3.heap.size, 0, none⟩ = some (.slice ag ps.length cg))) := by
    have h2 := HB2.out
    have h3 := hb3.size
    refine ⟨h2.1.trans (hb4.mono (by omega)), by simp; omega, Stab.true _ _, trivial, (Stab.minP (Nat.le_refl _) (by omega)).and (Stab.cell h2.2.2.2.2 (by omega)), ⟨h2.2.1.below hb4, keep hb4 (by omega) h2.2.2.1⟩, Stab.true _ _, trivial, (Stab.minP (Nat.le_refl _) (by omega)).and (Stab.cell (by omega) (by omega)), ⟨(hmg.mono (by omega) (Nat.le_refl _)).below hba, by simp⟩⟩
  have y4 := HS4.out.hw.2
  have HUY : Hid (U + 1 ≤ w3.heap.size) := by have := hb3.size; have := HB2.out.2.2.2.1; unfold Hid; omega
  clear hba hmg hb3 hb4 HB2
  go_wp2_with fail
  generalize w3.alloc (Obj.cells #[Value.slice ag ps.length cg] 29) = w4 at *
  generalize w3.heap.size = Y at *
  refine (eqMap_yes ag aw cg cw ps w4 HS4.out.hg.1.pls HS4.out.hw.1.pls (by omega)).mono ?_
  rintro e w5 ⟨rfl, hb5⟩
  have HS5 : Hid _ := HS4.out.step hb5
  clear HS4 hb5 y4
  have x5 := HS5.out.hg.2
  go_wp2_with fail
  refine (markMap_any ag (U + 1) Y cg ps 1 _ HS5.out.hg.1 (by have := HS5.out.ord; omega) (by omega) (by omega) (by omega)).mono ?_
  rintro e w6 ⟨rfl, hm6, ho6⟩
  have HS6 : Hid (Snp w w6 w.heap.size (U + 1) (U + 1) (Y + 1) (fun _ => True) (fun W => MinP W w.heap.size U aw cw ps ∧ W.cell? ⟨U, 0, none⟩ = some (.slice aw ps.length cw)) (fun _ => True) (fun W => MinP W (U + 1) Y ag cg (mkP 1 ps.length) ∧ W.cell? ⟨Y, 0, none⟩ = some (.slice ag ps.length cg))) :=
    HS5.out.markG ho6 (fun k hk => by have := hm6.row hk; omega) ((Stab.minP (Nat.le_refl _) (by omega)).and (Stab.cell HUY.out (by omega))) ⟨hm6, ho6.cell (by have := HS5.out.ord; omega) (fun hk => by have := hm6.row hk; omega) x5⟩
  clear hm6 ho6 HS5 x5
  have x6 := HS6.out.hg.2
  go_wp2_with fail
  refine (heldMap_any ag cg ps.length 1 _ HS6.out.hg.1.pls (by omega) (by omega) (by omega)).mono ?_
  rintro e w7 ⟨rfl, hb7⟩
  have HS7 : Hid _ := HS6.out.step hb7
  clear HS6 hb7 x6
  go_wp2_with fail
  refine (HIMPL.out w7).mono ?_
  rintro e w8 ⟨⟨ah, ch, rfl, hmh⟩, hb8⟩
  have hba : Below w8.heap.size w8 (w8.alloc (Obj.cells #[Value.slice ah ps.length ch] 29)) := (Below.refl _ _).alloc (Nat.le_refl _) _
  have HS9 : Hid _ := (HS7.out.step hb8).step hba
  have HM9 : Hid (Pls (w8.alloc (Obj.cells #[Value.slice ah ps.length ch] 29)) ah ps) := (hmh.below hba).pls
  have x9 : (w8.alloc (Obj.cells #[Value.slice ah ps.length ch] 29)).cell? ⟨w8.heap.size, 0, none⟩ = some (.slice ah ps.length ch) := by simp
  have y9 := HS9.out.hw.2
  clear hba hmh hb8 HS7
  go_wp2_with fail
  generalize w8.alloc (Obj.cells #[Value.slice ah ps.length ch] 29) = w9 at *
  generalize w8.heap.size = T at *
  refine (eqMap_yes ah aw ch cw ps w9 HM9.out HS9.out.hw.1.pls (by omega)).mono ?_
  rintro e w10 ⟨rfl, hb10⟩
  have HS10 : Hid _ := HS9.out.step hb10
  clear HS9 hb10 x9 y9 HM9
  have x10 := HS10.out.hg.2
  go_wp2_with fail
  refine (heldMap_any ag cg ps.length 1 _ HS10.out.hg.1.pls (by omega) (by omega) (by omega)).mono ?_
  rintro e w11 ⟨rfl, hb11⟩
  have HS11 : Hid _ := HS10.out.step hb11
  clear HS10 hb11 x10
  go_wp2
  go_ret
  exact ⟨rfl, HS11.out.bel⟩
end Go.Proofs.Ythihdnmdmfdhdaa
