/-
  LensPut: the model and the program answer alike.
-/
import Derived.Test.YtkolfmjlkfkleaaDoorLPut2
import Derived.Test.YtkolfmjlkfkleaaDoorWCells
import Derived.Test.YtkolfmjlkfkleaaDoorILens2
import Derived.Test.YtkolfmjlkfkleaaDoorILens3
namespace Go.Proofs.YtkolfmjlkfkleaaDoor
open Go.RowKit
set_option linter.unusedVariables false

theorem lensB_ok {zs : List Int} (h : lensB zs = true) : 1 ≤ zs.length ∧ zs.length ≤ 80 ∧ ∀ z ∈ zs, 0 ≤ z ∧ z ≤ 12 := by
  simp only [lensB, decide_eq_true_eq] at h
  exact ⟨h.1, h.2.1, h.2.2.1⟩

set_option maxHeartbeats 1600000 in
theorem implLensPut_no (a : Option Addr) (cap : Nat) (zs : List Int) (w : World) (hb : Ins w a zs) (hl : zs.length ≤ 281474976710656) (h : lensB zs = false) (h4 : Four w) (hE : ErrT w) :
    Calls Tryd.prog 30 #[.slice a zs.length cap] w fun e w' => e = .returned (.tuple #[.agg #[.slice none 0 0, .int .i64 0], .bool false]) ∧ Below w.heap.size w w' := by
  have hw : Below w.heap.size w (w.alloc (Obj.cells #[Value.slice none 0 0, Value.int IntKind.i64 0] 33)) := (Below.refl _ _).alloc (Nat.le_refl _) _
  have HT := implLens_any a cap zs _ (hb.below hw (Nat.le_refl _)) hl (h4.below hw) (hE.below hw)
  rw [h] at HT
  have r0 : (w.alloc (Obj.cells #[Value.slice none 0 0, Value.int IntKind.i64 0] 33)).cell? ⟨w.heap.size, 0, none⟩ = some (.slice none 0 0) := by simp
  have r1 : (w.alloc (Obj.cells #[Value.slice none 0 0, Value.int IntKind.i64 0] 33)).cell? ⟨w.heap.size, 1, none⟩ = some (.int .i64 0) := by simp
  have t0 : (w.alloc (Obj.cells #[Value.slice none 0 0, Value.int IntKind.i64 0] 33)).frozen? ⟨w.heap.size, 0, none⟩ = false := by simp
  have t1 : (w.alloc (Obj.cells #[Value.slice none 0 0, Value.int IntKind.i64 0] 33)).frozen? ⟨w.heap.size, 1, none⟩ = false := by simp
  have HSZ : Hid (w.heap.size < (w.alloc (Obj.cells #[Value.slice none 0 0, Value.int IntKind.i64 0] 33)).heap.size) := by simp [Hid]
  go_enter Tryd.func30, Tryd.ntmps30
  go_wp2_with fail
  generalize w.alloc (Obj.cells #[Value.slice none 0 0, Value.int IntKind.i64 0] 33) = W at *
  refine HT.mono ?_
  rintro e w1 ⟨rfl, hb1'⟩
  clear HT
  have hb1 : Below W.heap.size W w1 := by first | exact hb1' | (subst hb1'; exact Below.refl _ _)
  have u0 := keep hb1 HSZ.out r0
  have u1 := keep hb1 HSZ.out r1
  have v0 : w1.frozen? ⟨w.heap.size, 0, none⟩ = false := (hb1.frozen (p := ⟨w.heap.size, 0, none⟩) HSZ.out).trans t0
  have v1 : w1.frozen? ⟨w.heap.size, 1, none⟩ = false := (hb1.frozen (p := ⟨w.heap.size, 1, none⟩) HSZ.out).trans t1
  have HBB : Hid (Below w.heap.size w w1) := hw.trans (hb1.mono (Nat.le_of_lt HSZ.out))
  clear hb1 hb1' r0 r1 t0 t1 hw
  go_wp2
  exact bodyPost_ret (v := .tuple #[.agg #[.slice none 0 0, .int .i64 0], .bool false]) (by simp [results, Tryd.results30, go_sem, u0, u1]) rfl ⟨rfl, by repeat (first | exact HBB.out | refine Below.setCell ?_ (by simp) _)⟩

set_option maxHeartbeats 1600000 in
theorem implLensPut_yes (a : Option Addr) (cap : Nat) (zs : List Int) (w : World) (hb : Ins w a zs) (hcap : zs.length ≤ cap) (h : lensB zs = true) (h4 : Four w) (hE : ErrT w) :
    Calls Tryd.prog 30 #[.slice a zs.length cap] w fun e w' =>
      ∃ a' cp, e = .returned (.tuple #[.agg #[.slice a' (enc (lpF zs).1 (lpF zs).2).length cp, .int .i64 ((lpF zs).1 : Nat)], .bool true]) ∧
        Mine w' w.heap.size w'.heap.size a' cp (enc (lpF zs).1 (lpF zs).2) ∧ Below w.heap.size w w' := by
  have hw : Below w.heap.size w (w.alloc (Obj.cells #[Value.slice none 0 0, Value.int IntKind.i64 0] 33)) := (Below.refl _ _).alloc (Nat.le_refl _) _
  obtain ⟨hn1, hn2, hok⟩ := lensB_ok h
  have hb' : Ins (w.alloc (Obj.cells #[Value.slice none 0 0, Value.int IntKind.i64 0] 33)) a zs := hb.below hw (Nat.le_refl _)
  have HT := implLens_any a cap zs _ hb' (by omega) (h4.below hw) (hE.below hw)
  rw [h] at HT
  have r0 : (w.alloc (Obj.cells #[Value.slice none 0 0, Value.int IntKind.i64 0] 33)).cell? ⟨w.heap.size, 0, none⟩ = some (.slice none 0 0) := by simp
  have r1 : (w.alloc (Obj.cells #[Value.slice none 0 0, Value.int IntKind.i64 0] 33)).cell? ⟨w.heap.size, 1, none⟩ = some (.int .i64 0) := by simp
  have t0 : (w.alloc (Obj.cells #[Value.slice none 0 0, Value.int IntKind.i64 0] 33)).frozen? ⟨w.heap.size, 0, none⟩ = false := by simp
  have t1 : (w.alloc (Obj.cells #[Value.slice none 0 0, Value.int IntKind.i64 0] 33)).frozen? ⟨w.heap.size, 1, none⟩ = false := by simp
  have HSZ : Hid (w.heap.size < (w.alloc (Obj.cells #[Value.slice none 0 0, Value.int IntKind.i64 0] 33)).heap.size) := by simp [Hid]
  go_enter Tryd.func30, Tryd.ntmps30
  go_wp2_with fail
  generalize w.alloc (Obj.cells #[Value.slice none 0 0, Value.int IntKind.i64 0] 33) = W at *
  refine HT.mono ?_
  rintro e w1 ⟨rfl, hb1'⟩
  clear HT
  have hb1 : Below W.heap.size W w1 := by first | exact hb1' | (subst hb1'; exact Below.refl _ _)
  have HZ1 : Hid (w.heap.size < w1.heap.size) := Nat.lt_of_lt_of_le HSZ.out hb1.size
  have hin1 : Ins w1 a zs := hb'.below hb1 (Nat.le_refl _)
  have hbb1 : Below w.heap.size w w1 := hw.trans (hb1.mono (Nat.le_of_lt HSZ.out))
  have p0 := keep hb1 HSZ.out r0
  have p1 := keep hb1 HSZ.out r1
  have s0 : w1.frozen? ⟨w.heap.size, 0, none⟩ = false := (hb1.frozen (p := ⟨w.heap.size, 0, none⟩) HSZ.out).trans t0
  have s1 : w1.frozen? ⟨w.heap.size, 1, none⟩ = false := (hb1.frozen (p := ⟨w.heap.size, 1, none⟩) HSZ.out).trans t1
  have HP : Hid _ := (⟨p0, p1, s0, s1⟩ : _ ∧ _ ∧ _ ∧ _)
  clear hb1 hb1' r0 r1 t0 t1 hw p0 p1 s0 s1
  go_wp2_with fail
  refine (newWriter_any none 0 [] 0 4096 w1 ⟨by simp, by simp⟩ (by simp)).mono ?_
  rintro e w2 ⟨R, g, rfl, hR, hown, hRge, hb2⟩
  have hWI : WI w2 w1.heap.size R 0 0 := WI.new hR hown hRge hb2.size
  have HWI : Hid (WI w2 w1.heap.size R 0 0) := hWI
  clear hR hown hWI
  go_wp2_with fail
  refine (putLens_yes a cap zs R w1.heap.size w1 w2 hin1 rfl hb2 HWI.out hn2 hcap hok).mono ?_
  rintro e w3 ⟨rfl, hW3, hb3⟩
  obtain ⟨a', cp, d0, d1, hmine⟩ := hW3.cells
  have u0 := keep hb3 HZ1.out HP.out.1
  have u1 := keep hb3 HZ1.out HP.out.2.1
  have v0 : w3.frozen? ⟨w.heap.size, 0, none⟩ = false := (hb3.frozen (p := ⟨w.heap.size, 0, none⟩) HZ1.out).trans HP.out.2.2.1
  have v1 : w3.frozen? ⟨w.heap.size, 1, none⟩ = false := (hb3.frozen (p := ⟨w.heap.size, 1, none⟩) HZ1.out).trans HP.out.2.2.2
  have hbb3 : Below w.heap.size w w3 := hbb1.trans (hb3.mono (Nat.le_of_lt HZ1.out))
  generalize hMM : (lpF zs).1 = M at *
  generalize hYS : enc M (lpF zs).2 = ys at *
  have HMM : Hid ((lpF zs).1 = M) := hMM
  have HYS : Hid (enc M (lpF zs).2 = ys) := hYS
  have HM : Hid (Mine w3 w1.heap.size w3.heap.size a' cp ys) := hmine
  have HBB : Hid (Below w.heap.size w w3) := hbb3
  clear hMM hYS hW3 hb3 hmine hbb3 hb' hb hin1 hbb1 h hok
  go_wp2
  refine bodyPost_ret (v := .tuple #[.agg #[.slice a' ys.length cp, .int .i64 (M : Nat)], .bool true]) (by simp [results, Tryd.results30, go_sem, u0, u1]) rfl ⟨a', cp, by rw [HMM.out, HYS.out], ?_, ?_⟩
  · rw [HMM.out, HYS.out]; exact mine_out _ _ HM.out HZ1.out (Nat.le_refl _)
  · exact ((HBB.out.setCell (by simp) _).setCell (by simp) _)

set_option maxHeartbeats 1600000 in
theorem specLensPut_no (a : Option Addr) (cap : Nat) (zs : List Int) (w : World) (hb : Ins w a zs) (hl : zs.length ≤ 281474976710656) (h : lensB zs = false) :
    Calls Tryd.prog 29 #[.slice a zs.length cap] w fun e w' => e = .returned (.tuple #[.agg #[.slice none 0 0, .int .i64 0], .bool false]) ∧ Below w.heap.size w w' := by
  have hw : Below w.heap.size w (w.alloc (Obj.cells #[Value.slice none 0 0, Value.int IntKind.i64 0] 33)) := (Below.refl _ _).alloc (Nat.le_refl _) _
  have HT := specLens_any a cap zs _ (hb.below hw (Nat.le_refl _)) hl
  rw [h] at HT
  have r0 : (w.alloc (Obj.cells #[Value.slice none 0 0, Value.int IntKind.i64 0] 33)).cell? ⟨w.heap.size, 0, none⟩ = some (.slice none 0 0) := by simp
  have r1 : (w.alloc (Obj.cells #[Value.slice none 0 0, Value.int IntKind.i64 0] 33)).cell? ⟨w.heap.size, 1, none⟩ = some (.int .i64 0) := by simp
  have t0 : (w.alloc (Obj.cells #[Value.slice none 0 0, Value.int IntKind.i64 0] 33)).frozen? ⟨w.heap.size, 0, none⟩ = false := by simp
  have t1 : (w.alloc (Obj.cells #[Value.slice none 0 0, Value.int IntKind.i64 0] 33)).frozen? ⟨w.heap.size, 1, none⟩ = false := by simp
  have HSZ : Hid (w.heap.size < (w.alloc (Obj.cells #[Value.slice none 0 0, Value.int IntKind.i64 0] 33)).heap.size) := by simp [Hid]
  go_enter Tryd.func29, Tryd.ntmps29
  go_wp2_with fail
  generalize w.alloc (Obj.cells #[Value.slice none 0 0, Value.int IntKind.i64 0] 33) = W at *
  refine HT.mono ?_
  rintro e w1 ⟨rfl, hb1'⟩
  clear HT
  have hb1 : Below W.heap.size W w1 := by first | exact hb1' | (subst hb1'; exact Below.refl _ _)
  have u0 := keep hb1 HSZ.out r0
  have u1 := keep hb1 HSZ.out r1
  have v0 : w1.frozen? ⟨w.heap.size, 0, none⟩ = false := (hb1.frozen (p := ⟨w.heap.size, 0, none⟩) HSZ.out).trans t0
  have v1 : w1.frozen? ⟨w.heap.size, 1, none⟩ = false := (hb1.frozen (p := ⟨w.heap.size, 1, none⟩) HSZ.out).trans t1
  have HBB : Hid (Below w.heap.size w w1) := hw.trans (hb1.mono (Nat.le_of_lt HSZ.out))
  clear hb1 hb1' r0 r1 t0 t1 hw
  go_wp2
  exact bodyPost_ret (v := .tuple #[.agg #[.slice none 0 0, .int .i64 0], .bool false]) (by simp [results, Tryd.results29, go_sem, u0, u1]) rfl ⟨rfl, by repeat (first | exact HBB.out | refine Below.setCell ?_ (by simp) _)⟩

set_option maxHeartbeats 1600000 in
theorem specLensPut_yes (a : Option Addr) (cap : Nat) (zs : List Int) (w : World) (hb : Ins w a zs) (hcap : zs.length ≤ cap) (h : lensB zs = true) :
    Calls Tryd.prog 29 #[.slice a zs.length cap] w fun e w' =>
      ∃ a' cp, e = .returned (.tuple #[.agg #[.slice a' (enc (lpF zs).1 (lpF zs).2).length cp, .int .i64 ((lpF zs).1 : Nat)], .bool true]) ∧
        Mine w' w.heap.size w'.heap.size a' cp (enc (lpF zs).1 (lpF zs).2) ∧ Below w.heap.size w w' := by
  have hw : Below w.heap.size w (w.alloc (Obj.cells #[Value.slice none 0 0, Value.int IntKind.i64 0] 33)) := (Below.refl _ _).alloc (Nat.le_refl _) _
  obtain ⟨hn1, hn2, hok⟩ := lensB_ok h
  have hb' : Ins (w.alloc (Obj.cells #[Value.slice none 0 0, Value.int IntKind.i64 0] 33)) a zs := hb.below hw (Nat.le_refl _)
  have HT := specLens_any a cap zs _ hb' (by omega)
  rw [h] at HT
  have r0 : (w.alloc (Obj.cells #[Value.slice none 0 0, Value.int IntKind.i64 0] 33)).cell? ⟨w.heap.size, 0, none⟩ = some (.slice none 0 0) := by simp
  have r1 : (w.alloc (Obj.cells #[Value.slice none 0 0, Value.int IntKind.i64 0] 33)).cell? ⟨w.heap.size, 1, none⟩ = some (.int .i64 0) := by simp
  have t0 : (w.alloc (Obj.cells #[Value.slice none 0 0, Value.int IntKind.i64 0] 33)).frozen? ⟨w.heap.size, 0, none⟩ = false := by simp
  have t1 : (w.alloc (Obj.cells #[Value.slice none 0 0, Value.int IntKind.i64 0] 33)).frozen? ⟨w.heap.size, 1, none⟩ = false := by simp
  have HSZ : Hid (w.heap.size < (w.alloc (Obj.cells #[Value.slice none 0 0, Value.int IntKind.i64 0] 33)).heap.size) := by simp [Hid]
  go_enter Tryd.func29, Tryd.ntmps29
  go_wp2_with fail
  generalize w.alloc (Obj.cells #[Value.slice none 0 0, Value.int IntKind.i64 0] 33) = W at *
  refine HT.mono ?_
  rintro e w1 ⟨rfl, hb1'⟩
  clear HT
  have hb1 : Below W.heap.size W w1 := by first | exact hb1' | (subst hb1'; exact Below.refl _ _)
  have HZ1 : Hid (w.heap.size < w1.heap.size) := Nat.lt_of_lt_of_le HSZ.out hb1.size
  have hin1 : Ins w1 a zs := hb'.below hb1 (Nat.le_refl _)
  have hbb1 : Below w.heap.size w w1 := hw.trans (hb1.mono (Nat.le_of_lt HSZ.out))
  have p0 := keep hb1 HSZ.out r0
  have p1 := keep hb1 HSZ.out r1
  have s0 : w1.frozen? ⟨w.heap.size, 0, none⟩ = false := (hb1.frozen (p := ⟨w.heap.size, 0, none⟩) HSZ.out).trans t0
  have s1 : w1.frozen? ⟨w.heap.size, 1, none⟩ = false := (hb1.frozen (p := ⟨w.heap.size, 1, none⟩) HSZ.out).trans t1
  have HP : Hid _ := (⟨p0, p1, s0, s1⟩ : _ ∧ _ ∧ _ ∧ _)
  clear hb1 hb1' r0 r1 t0 t1 hw p0 p1 s0 s1
  go_wp2_with fail
  refine (l2putLens_any a cap zs w1.heap.size w1.heap.size w1 _ hin1 rfl ((Below.refl _ _).alloc (Nat.le_refl _) _) (SI.new w1 w1.heap.size (Nat.le_refl _)) hn2 hok).mono ?_
  rintro e w3 ⟨rfl, hW3, hb3⟩
  obtain ⟨a', cp, d0, d1, hmine⟩ := hW3.cells
  have u0 := keep hb3 HZ1.out HP.out.1
  have u1 := keep hb3 HZ1.out HP.out.2.1
  have v0 : w3.frozen? ⟨w.heap.size, 0, none⟩ = false := (hb3.frozen (p := ⟨w.heap.size, 0, none⟩) HZ1.out).trans HP.out.2.2.1
  have v1 : w3.frozen? ⟨w.heap.size, 1, none⟩ = false := (hb3.frozen (p := ⟨w.heap.size, 1, none⟩) HZ1.out).trans HP.out.2.2.2
  have hbb3 : Below w.heap.size w w3 := hbb1.trans (hb3.mono (Nat.le_of_lt HZ1.out))
  generalize hMM : (lpF zs).1 = M at *
  generalize hYS : enc M (lpF zs).2 = ys at *
  have HMM : Hid ((lpF zs).1 = M) := hMM
  have HYS : Hid (enc M (lpF zs).2 = ys) := hYS
  have HM : Hid (Mine w3 w1.heap.size w3.heap.size a' cp ys) := hmine
  have HBB : Hid (Below w.heap.size w w3) := hbb3
  clear hMM hYS hW3 hb3 hmine hbb3 hb' hb hin1 hbb1 h hok
  go_wp2
  refine bodyPost_ret (v := .tuple #[.agg #[.slice a' ys.length cp, .int .i64 (M : Nat)], .bool true]) (by simp [results, Tryd.results29, go_sem, u0, u1]) rfl ⟨a', cp, by rw [HMM.out, HYS.out], ?_, ?_⟩
  · rw [HMM.out, HYS.out]; exact mine_out _ _ HM.out HZ1.out (Nat.le_refl _)
  · exact ((HBB.out.setCell (by simp) _).setCell (by simp) _)

/-- The model and the program put lengths alike. -/
theorem lensPut_both (zs : List Int) (hl : zs.length ≤ 1048576) : ∃ (ys : List Int) (M : Int) (ok : Bool), ys.length ≤ 1048576 ∧
    (∀ (a : Option Addr) (cap : Nat) (w : World), Ins w a zs → zs.length ≤ cap → Calls Tryd.prog 29 #[.slice a zs.length cap] w fun e w' =>
      ∃ a' cp, e = .returned (.tuple #[.agg #[.slice a' ys.length cp, .int .i64 M], .bool ok]) ∧ Mine w' w.heap.size w'.heap.size a' cp ys ∧ Below w.heap.size w w') ∧
    (∀ (a : Option Addr) (cap : Nat) (w : World), Ins w a zs → zs.length ≤ cap → Four w → ErrT w → Calls Tryd.prog 30 #[.slice a zs.length cap] w fun e w' =>
      ∃ a' cp, e = .returned (.tuple #[.agg #[.slice a' ys.length cp, .int .i64 M], .bool ok]) ∧ Mine w' w.heap.size w'.heap.size a' cp ys ∧ Below w.heap.size w w') := by
  cases h : lensB zs with
  | true =>
    refine ⟨enc (lpF zs).1 (lpF zs).2, ((lpF zs).1 : Nat), true, ?_, fun a cap w hb hc => specLensPut_yes a cap zs w hb hc h, fun a cap w hb hc h4 hE => implLensPut_yes a cap zs w hb hc h h4 hE⟩
    have h1 := lp_le zs zs.length 0 0 0
    have h2 := lensB_ok h
    rw [enc_len]
    unfold lpF
    omega
  | false =>
    refine ⟨[], 0, false, by simp, fun a cap w hb hc => ?_, fun a cap w hb hc h4 hE => ?_⟩
    · refine (specLensPut_no a cap zs w hb (by omega) h).mono ?_
      rintro e w' ⟨rfl, hb'⟩
      exact ⟨none, 0, rfl, .inl ⟨rfl, rfl, rfl⟩, hb'⟩
    · refine (implLensPut_no a cap zs w hb (by omega) h h4 hE).mono ?_
      rintro e w' ⟨rfl, hb'⟩
      exact ⟨none, 0, rfl, .inl ⟨rfl, rfl, rfl⟩, hb'⟩
end Go.Proofs.YtkolfmjlkfkleaaDoor
