/-
  LensOk of the model.
-/
import Derived.Test.YtkjebacpmmfflaaDoorLPut1
import Derived.Test.YtkjebacpmmfflaaDoorWCells
import Derived.Test.YtkjebacpmmfflaaDoorILensC
import Derived.Test.YtkjebacpmmfflaaDoorILens3
namespace Go.Proofs.YtkjebacpmmfflaaDoor
open Go.RowKit
set_option linter.unusedVariables false

set_option maxHeartbeats 1600000 in
theorem implLensPut_no (a : Option Addr) (cap : Nat) (zs : List Int) (w : World) (hb : Ins w a zs) (hl : zs.length ≤ 281474976710656) (h : lensB zs = false) (h4 : Four w) (hE : ErrT w) :
    Calls Tryd.prog 22 #[.slice a zs.length cap] w fun e w' => e = .returned (.tuple #[.agg #[.slice none 0 0, .int .i64 0], .bool false]) ∧ Below w.heap.size w w' := by
  have hw : Below w.heap.size w (w.alloc (Obj.cells #[Value.slice none 0 0, Value.int IntKind.i64 0] 36)) := (Below.refl _ _).alloc (Nat.le_refl _) _
  have HT := implLens_any a cap zs _ (hb.below hw (Nat.le_refl _)) hl (h4.below hw) (hE.below hw)
  rw [h] at HT
  have r0 : (w.alloc (Obj.cells #[Value.slice none 0 0, Value.int IntKind.i64 0] 36)).cell? ⟨w.heap.size, 0, none⟩ = some (.slice none 0 0) := by simp
  have r1 : (w.alloc (Obj.cells #[Value.slice none 0 0, Value.int IntKind.i64 0] 36)).cell? ⟨w.heap.size, 1, none⟩ = some (.int .i64 0) := by simp
  have t0 : (w.alloc (Obj.cells #[Value.slice none 0 0, Value.int IntKind.i64 0] 36)).frozen? ⟨w.heap.size, 0, none⟩ = false := by simp
  have t1 : (w.alloc (Obj.cells #[Value.slice none 0 0, Value.int IntKind.i64 0] 36)).frozen? ⟨w.heap.size, 1, none⟩ = false := by simp
  have HSZ : Hid (w.heap.size < (w.alloc (Obj.cells #[Value.slice none 0 0, Value.int IntKind.i64 0] 36)).heap.size) := by simp [Hid]
  go_enter Tryd.func22, Tryd.ntmps22
  go_wp2_with fail
  generalize w.alloc (Obj.cells #[Value.slice none 0 0, Value.int IntKind.i64 0] 36) = W at *
  refine HT.mono ?_
  rintro e w1 ⟨rfl, hb1'⟩
  clear HT
  have hb1 : Below W.heap.size W w1 := by first | exact hb1' | (subst hb1'; exact Below.refl _ _)
  have u0 := keep hb1 HSZ.out r0
  have u1 := keep hb1 HSZ.out r1
  have v0 : w1.frozen? ⟨w.heap.size, 0, none⟩ = false := (hb1.frozen (p := ⟨w.heap.size, 0, none⟩) HSZ.out).trans t0
  have v1 : w1.frozen? ⟨w.heap.size, 1, none⟩ = false := (hb1.frozen (p := ⟨w.heap.size, 1, none⟩) HSZ.out).trans t1
  have HBB : Hid (Below w.heap.size w w1) := hw.trans (hb1.mono (Nat.le_of_lt HSZ.out))
  clear hb1 hb1' r0 r1 t0 t1 hw
  go_wp2
  exact bodyPost_ret (v := .tuple #[.agg #[.slice none 0 0, .int .i64 0], .bool false]) (by simp [results, Tryd.results22, go_sem, u0, u1]) rfl ⟨rfl, by repeat (first | exact HBB.out | refine Below.setCell ?_ (by simp) _)⟩

set_option maxHeartbeats 1600000 in
theorem implLensPut_yes (a : Option Addr) (cap : Nat) (zs : List Int) (w : World) (hb : Ins w a zs) (hcap : zs.length ≤ cap) (h : lensB zs = true) (h4 : Four w) (hE : ErrT w) :
    Calls Tryd.prog 22 #[.slice a zs.length cap] w fun e w' =>
      ∃ a' cp, e = .returned (.tuple #[.agg #[.slice a' (enc (lpF zs).1 (lpF zs).2).length cp, .int .i64 ((lpF zs).1 : Nat)], .bool true]) ∧
        Mine w' w.heap.size w'.heap.size a' cp (enc (lpF zs).1 (lpF zs).2) ∧ Below w.heap.size w w' := by
  have hw : Below w.heap.size w (w.alloc (Obj.cells #[Value.slice none 0 0, Value.int IntKind.i64 0] 36)) := (Below.refl _ _).alloc (Nat.le_refl _) _
  obtain ⟨hn1, hn2, hok⟩ := lensB_ok h
  have hb' : Ins (w.alloc (Obj.cells #[Value.slice none 0 0, Value.int IntKind.i64 0] 36)) a zs := hb.below hw (Nat.le_refl _)
  have HT := implLens_any a cap zs _ hb' (by omega) (h4.below hw) (hE.below hw)
  rw [h] at HT
  have r0 : (w.alloc (Obj.cells #[Value.slice none 0 0, Value.int IntKind.i64 0] 36)).cell? ⟨w.heap.size, 0, none⟩ = some (.slice none 0 0) := by simp
  have r1 : (w.alloc (Obj.cells #[Value.slice none 0 0, Value.int IntKind.i64 0] 36)).cell? ⟨w.heap.size, 1, none⟩ = some (.int .i64 0) := by simp
  have t0 : (w.alloc (Obj.cells #[Value.slice none 0 0, Value.int IntKind.i64 0] 36)).frozen? ⟨w.heap.size, 0, none⟩ = false := by simp
  have t1 : (w.alloc (Obj.cells #[Value.slice none 0 0, Value.int IntKind.i64 0] 36)).frozen? ⟨w.heap.size, 1, none⟩ = false := by simp
  have HSZ : Hid (w.heap.size < (w.alloc (Obj.cells #[Value.slice none 0 0, Value.int IntKind.i64 0] 36)).heap.size) := by simp [Hid]
  go_enter Tryd.func22, Tryd.ntmps22
  go_wp2_with fail
  generalize w.alloc (Obj.cells #[Value.slice none 0 0, Value.int IntKind.i64 0] 36) = W at *
  refine HT.mono ?_
  rintro e w1 ⟨rfl, hb1'⟩
  clear HT
  have hb1 : Below W.heap.size W w1 := by first | exact hb1' | (subst hb1'; exact Below.refl _ _)
  have HZ1 : Hid (w.heap.size < w1.heap.size) := Nat.lt_of_lt_of_le HSZ.out hb1.size
  have hin1 : Ins w1 a zs := hb'.below hb1 (Nat.le_refl _)
  have hbb1 : Below w.heap.size w w1 := hw.trans (hb1.mono (Nat.le_of_lt HSZ.out))
  have p0 := keep hb1 HSZ.out r0
  have p1 := keep hb1 HSZ.out r1
  have s0 : w1.frozen? ⟨w.heap.size, 0, none⟩ = false := (hb1.frozen (p := ⟨w.heap.size, 0, none⟩) HSZ.out).trans t0
  have s1 : w1.frozen? ⟨w.heap.size, 1, none⟩ = false := (hb1.frozen (p := ⟨w.heap.size, 1, none⟩) HSZ.out).trans t1
  have HP : Hid _ := (⟨p0, p1, s0, s1⟩ : _ ∧ _ ∧ _ ∧ _)
  clear hb1 hb1' r0 r1 t0 t1 hw p0 p1 s0 s1
  go_wp2_with fail
  refine (newWriter_any none 0 [] 0 4096 w1 ⟨by simp, by simp⟩ (by simp)).mono ?_
  rintro e w2 ⟨R, g, rfl, hR, hown, hRge, hb2⟩
  have hWI : WI w2 w1.heap.size R 0 0 := WI.new hR hown hRge hb2.size
  have HWI : Hid (WI w2 w1.heap.size R 0 0) := hWI
  clear hR hown hWI
  go_wp2_with fail
  refine (putLens_yes a cap zs R w1.heap.size w1 w2 hin1 rfl hb2 HWI.out hn2 hcap hok).mono ?_
  rintro e w3 ⟨rfl, hW3, hb3⟩
  obtain ⟨a', cp, d0, d1, hmine⟩ := hW3.cells
  have u0 := keep hb3 HZ1.out HP.out.1
  have u1 := keep hb3 HZ1.out HP.out.2.1
  have v0 : w3.frozen? ⟨w.heap.size, 0, none⟩ = false := (hb3.frozen (p := ⟨w.heap.size, 0, none⟩) HZ1.out).trans HP.out.2.2.1
  have v1 : w3.frozen? ⟨w.heap.size, 1, none⟩ = false := (hb3.frozen (p := ⟨w.heap.size, 1, none⟩) HZ1.out).trans HP.out.2.2.2
  have hbb3 : Below w.heap.size w w3 := hbb1.trans (hb3.mono (Nat.le_of_lt HZ1.out))
  generalize hMM : (lpF zs).1 = M at *
  generalize hYS : enc M (lpF zs).2 = ys at *
  have HMM : Hid ((lpF zs).1 = M) := hMM
  have HYS : Hid (enc M (lpF zs).2 = ys) := hYS
  have HM : Hid (Mine w3 w1.heap.size w3.heap.size a' cp ys) := hmine
  have HBB : Hid (Below w.heap.size w w3) := hbb3
  clear hMM hYS hW3 hb3 hmine hbb3 hb' hb hin1 hbb1 h hok
  go_wp2
  refine bodyPost_ret (v := .tuple #[.agg #[.slice a' ys.length cp, .int .i64 (M : Nat)], .bool true]) (by simp [results, Tryd.results22, go_sem, u0, u1]) rfl ⟨a', cp, by rw [HMM.out, HYS.out], ?_, ?_⟩
  · rw [HMM.out, HYS.out]; exact mine_out _ _ HM.out HZ1.out (Nat.le_refl _)
  · exact ((HBB.out.setCell (by simp) _).setCell (by simp) _)
set_option maxHeartbeats 1600000 in
theorem specLens_any (a : Option Addr) (cap : Nat) (zs : List Int) (w : World) (hb : Ins w a zs) (hn : zs.length ≤ 281474976710656) :
    Calls Tryd.prog 20 #[.slice a zs.length cap] w fun e w' => e = .returned (.bool (lensB zs)) ∧ w' = w := by
  by_cases h : 1 ≤ zs.length ∧ zs.length ≤ 80
  · obtain ⟨h1, h2⟩ := h
    have HF := fun h => l2full_any a cap zs w hb h2 h
    generalize hlen : zs.length = n at *
    have HL : Hid (zs.length = n) := hlen
    have HFF : Hid _ := HF
    clear hlen HF
    go_enter Tryd.func20, Tryd.ntmps20
    go_wp2
    go_loop [3, 4] (fun x i => ∃ k : Nat, k ≤ n ∧ i = .int .i64 k ∧ x = .int .i64 (sumF one (zs.take k)) ∧ ∀ z ∈ zs.take k, 0 ≤ z ∧ z ≤ 12) (fun _ i => n - (intOf i).toNat)
    case atStart => exact ⟨0, Nat.zero_le _, rfl, by simp [sumF], by simp⟩
    case round =>
      obtain ⟨k, hk, rfl, rfl, htk⟩ := hrel
      have HT : Hid (∀ z ∈ zs.take k, 0 ≤ z ∧ z ≤ 12) := htk
      clear htk
      by_cases hlt : k < n
      · obtain ⟨b1, o1, rfl, hb1, hc1⟩ := hb.len_pos k (by rw [HL.out]; exact hlt)
        have hs1 := hc1 k (by rw [HL.out]; exact hlt)
        have g1 := getD_rngI hb.1 k
        have hF := sumF_bnd one 1 one_bnd (zs.take k)
        have hF2 : (zs.take k).length ≤ 80 := by rw [List.length_take, HL.out]; omega
        have HS : Hid (sumF one (zs.take (k + 1)) = sumF one (zs.take k) + one (zs.getD k 0)) := sumF_succ one zs k (by rw [HL.out]; exact hlt)
        clear hc1 hb HFF
        generalize hx : zs.getD k 0 = x at *
        have HX : Hid (zs.getD k 0 = x) := hx
        clear hx
        generalize hFF : sumF one (zs.take k) = F at *
        have hFb : 0 ≤ F ∧ F ≤ 80 := by omega
        clear hF hF2 hFF
        by_cases h3 : 0 ≤ x
        · by_cases h4 : x ≤ 12
          · have HT' : Hid (∀ z ∈ zs.take (k + 1), 0 ≤ z ∧ z ≤ 12) := all_take_succ HT.out (by rw [HL.out]; exact hlt) (by rw [HX.out]; exact ⟨h3, h4⟩)
            by_cases h5 : 0 < x
            · have HP : Hid (one x = 1) := by simp [Hid, one, h5]
              go_wp2
              go_round
              case rel => exact ⟨k + 1, by omega, by go_num, by rw [HS.out, HP.out], HT'.out⟩
              case measure => simp [intOf]; omega
            · have HP : Hid (one x = 0) := by simp [Hid, one, h5]
              go_wp2
              go_round
              case rel => exact ⟨k + 1, by omega, by go_num, by rw [HS.out, HP.out]; simp, HT'.out⟩
              case measure => simp [intOf]; omega
          · have HN : Hid (lensB zs = false) := lensB_bad (by rw [HL.out]; exact hlt) (by rw [HX.out]; omega)
            go_wp2
            go_ret
            exact ⟨by simp [HN.out], rfl⟩
        · have HN : Hid (lensB zs = false) := lensB_bad (by rw [HL.out]; exact hlt) (by rw [HX.out]; omega)
          go_wp2
          go_ret
          exact ⟨by simp [HN.out], rfl⟩
      · have hkn : k = n := by omega
        subst hkn
        have e : zs.take k = zs := List.take_of_length_le (by rw [HL.out]; exact Nat.le_refl _)
        have HE : Hid (lensB zs = _) := lensB_all (by rw [HL.out]; exact h1) (by rw [HL.out]; exact h2) (by rw [HL.out]; exact HT.out)
        have HC : Hid (Calls Tryd.prog 47 #[.slice a k cap] w fun e w' => e = .returned (.int .i64 (sumF share zs)) ∧ w' = w) := HFF.out (by have := HT.out; rw [e] at this; exact this)
        have hF := sumF_bnd one 1 one_bnd zs
        have hG := sumF_bnd share 4096 share_bnd zs
        rw [HL.out] at hF hG
        rw [e]
        clear e HFF HT
        generalize sumF one zs = F at *
        generalize sumF share zs = G at *
        by_cases c1 : F = 1
        · subst c1
          go_wp2_with fail
          refine HC.out.mono ?_
          rintro e' w' ⟨rfl, rfl⟩
          go_wp2
          go_ret
          exact ⟨by rw [HE.out]; by_cases g : G = 2048 <;> simp [g], rfl⟩
        · by_cases c2 : 1 < F
          · go_wp2_with fail
            refine HC.out.mono ?_
            rintro e' w' ⟨rfl, rfl⟩
            go_wp2
            go_ret
            exact ⟨by rw [HE.out]; by_cases g : G = 4096 <;> simp [g, c1, c2], rfl⟩
          · go_wp2
            go_ret
            exact ⟨by rw [HE.out, decide_eq_false (p := F = 1 ∧ G = 2048 ∨ 1 < F ∧ G = 4096) (by omega)]; rfl, rfl⟩
  · rw [lensB_len h]
    by_cases c1 : 1 ≤ zs.length
    · have c2 : 80 < zs.length := by omega
      go_enter Tryd.func20, Tryd.ntmps20
      go_wp2
      go_ret
      exact ⟨rfl, rfl⟩
    · go_enter Tryd.func20, Tryd.ntmps20
      go_wp2
      go_ret
      exact ⟨rfl, rfl⟩
end Go.Proofs.YtkjebacpmmfflaaDoor
