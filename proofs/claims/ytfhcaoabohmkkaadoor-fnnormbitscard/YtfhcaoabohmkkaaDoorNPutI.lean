/-
  NormPut of the program.
-/
import Derived.Test.YtfhcaoabohmkkaaDoorNPut
import Derived.Test.YtfhcaoabohmkkaaDoorWCells
namespace Go.Proofs.YtfhcaoabohmkkaaDoor
open Go.RowKit
set_option linter.unusedVariables false

set_option maxHeartbeats 1600000 in
theorem implNormPut_no (a : Option Addr) (cap : Nat) (zs : List Int) (w : World) (hb : Ins w a zs) (hl : zs.length ≤ 281474976710656) (h : normB zs = false) :
    Calls Tryd.prog 15 #[.slice a zs.length cap] w fun e w' => e = .returned (.tuple #[.agg #[.slice none 0 0, .int .i64 0], .bool false]) ∧ Below w.heap.size w w' := by
  have hw : Below w.heap.size w (w.alloc (Obj.cells #[Value.slice none 0 0, Value.int IntKind.i64 0] 27)) := (Below.refl _ _).alloc (Nat.le_refl _) _
  have HT := implNormOk_any a cap zs _ (hb.below hw (Nat.le_refl _)) hl
  rw [h] at HT
  go_enter Tryd.func15, Tryd.ntmps15
  go_wp2_with fail
  refine HT.mono ?_
  rintro e w1 ⟨rfl, rfl⟩
  clear HT
  go_wp2
  exact bodyPost_ret (v := .tuple #[.agg #[.slice none 0 0, .int .i64 0], .bool false]) (by simp [results, Tryd.results15, go_sem]) rfl ⟨rfl, by repeat (first | exact hw | refine Below.setCell ?_ (by simp) _)⟩

set_option maxHeartbeats 1600000 in
theorem implNormPut_yes (a : Option Addr) (cap : Nat) (zs : List Int) (w : World) (hb : Ins w a zs) (h : normB zs = true) :
    Calls Tryd.prog 15 #[.slice a zs.length cap] w fun e w' =>
      ∃ a' cp, e = .returned (.tuple #[.agg #[.slice a' (enc (nb zs zs.length) (vb zs zs.length)).length cp, .int .i64 (nb zs zs.length : Nat)], .bool true]) ∧
        Mine w' w.heap.size w'.heap.size a' cp (enc (nb zs zs.length) (vb zs zs.length)) ∧ Below w.heap.size w w' := by
  have hw : Below w.heap.size w (w.alloc (Obj.cells #[Value.slice none 0 0, Value.int IntKind.i64 0] 27)) := (Below.refl _ _).alloc (Nat.le_refl _) _
  obtain ⟨hn1, hn2⟩ := normB_bnd h
  have hb' : Ins (w.alloc (Obj.cells #[Value.slice none 0 0, Value.int IntKind.i64 0] 27)) a zs := hb.below hw (Nat.le_refl _)
  have HT := implNormOk_any a cap zs _ hb' (by omega)
  rw [h] at HT
  have r0 : (w.alloc (Obj.cells #[Value.slice none 0 0, Value.int IntKind.i64 0] 27)).cell? ⟨w.heap.size, 0, none⟩ = some (.slice none 0 0) := by simp
  have r1 : (w.alloc (Obj.cells #[Value.slice none 0 0, Value.int IntKind.i64 0] 27)).cell? ⟨w.heap.size, 1, none⟩ = some (.int .i64 0) := by simp
  have t0 : (w.alloc (Obj.cells #[Value.slice none 0 0, Value.int IntKind.i64 0] 27)).frozen? ⟨w.heap.size, 0, none⟩ = false := by simp
  have t1 : (w.alloc (Obj.cells #[Value.slice none 0 0, Value.int IntKind.i64 0] 27)).frozen? ⟨w.heap.size, 1, none⟩ = false := by simp
  have HSZ : Hid ((w.alloc (Obj.cells #[Value.slice none 0 0, Value.int IntKind.i64 0] 27)).heap.size = w.heap.size + 1) := by simp [Hid]
  go_enter Tryd.func15, Tryd.ntmps15
  go_wp2_with fail
  generalize w.alloc (Obj.cells #[Value.slice none 0 0, Value.int IntKind.i64 0] 27) = W at *
  refine HT.mono ?_
  rintro e w1 ⟨rfl, rfl⟩
  clear HT
  go_wp2_with fail
  refine (newWriter_any none 0 [] 0 4096 w1 ⟨by simp, by simp⟩ (by simp)).mono ?_
  rintro e w2 ⟨R, g, rfl, hR, hown, hRge, hb2⟩
  have hWI : WI w2 w1.heap.size R 0 0 := WI.new hR hown hRge hb2.size
  have HWI : Hid (WI w2 w1.heap.size R 0 0) := hWI
  clear hR hown hWI
  go_wp2_with fail
  refine (putNorm_yes a cap zs R w1.heap.size w1 w2 hb' rfl hb2 HWI.out h).mono ?_
  rintro e w3 ⟨rfl, hW3, hb3⟩
  obtain ⟨a', cp, d0, d1, hmine⟩ := hW3.cells
  rw [HSZ.out] at hmine hb3
  have u0 := keep hb3 (by omega) r0
  have u1 := keep hb3 (by omega) r1
  have v0 : w3.frozen? ⟨w.heap.size, 0, none⟩ = false := (hb3.frozen (p := ⟨w.heap.size, 0, none⟩) (by simp)).trans t0
  have v1 : w3.frozen? ⟨w.heap.size, 1, none⟩ = false := (hb3.frozen (p := ⟨w.heap.size, 1, none⟩) (by simp)).trans t1
  have hbb3 : Below w.heap.size w w3 := hw.trans (hb3.mono (by omega))
  generalize hMM : nb zs zs.length = M at *
  generalize hYS : enc M (vb zs zs.length) = ys at *
  have HMM : Hid (nb zs zs.length = M) := hMM
  have HYS : Hid (enc M (vb zs zs.length) = ys) := hYS
  have HM : Hid (Mine w3 (w.heap.size + 1) w3.heap.size a' cp ys) := hmine
  have HBB : Hid (Below w.heap.size w w3) := hbb3
  clear hMM hYS hW3 hb3 hmine hbb3 r0 r1 t0 t1 hb' hb hw HWI hb2 h
  go_wp2
  refine bodyPost_ret (v := .tuple #[.agg #[.slice a' ys.length cp, .int .i64 (M : Nat)], .bool true]) (by simp [results, Tryd.results15, go_sem, u0, u1]) rfl ⟨a', cp, by rw [HMM.out, HYS.out], ?_, ?_⟩
  · rw [HMM.out, HYS.out]; exact mine_out _ _ HM.out (Nat.lt_succ_self _) (Nat.le_refl _)
  · exact ((HBB.out.setCell (by simp) _).setCell (by simp) _)
end Go.Proofs.YtfhcaoabohmkkaaDoor
