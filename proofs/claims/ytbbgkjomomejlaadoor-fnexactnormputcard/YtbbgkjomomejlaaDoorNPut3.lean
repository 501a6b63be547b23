/-
  NormPut: the model and the program answer alike.
-/
import Derived.Test.YtbbgkjomomejlaaDoorNPut2
namespace Go.Proofs.YtbbgkjomomejlaaDoor
open Go.RowKit
set_option linter.unusedVariables false

theorem WI.cells {w : World} {B R n V : Nat} (h : WI w B R n V) : ∃ a' cp, w.cell? ⟨R, 0, none⟩ = some (.slice a' (enc n V).length cp) ∧ w.cell? ⟨R, 1, none⟩ = some (.int .i64 n) ∧ Mine w B w.heap.size a' cp (enc n V) := by
  obtain ⟨v, hR, hv, _⟩ := h
  obtain ⟨a', cp, rfl, hm⟩ := hv.mine
  exact ⟨a', cp, cellR (j := 0) hR rfl, cellR (j := 1) hR rfl, hm⟩
theorem SI.cells {w : World} {B R n V : Nat} (h : SI w B R n V) : ∃ a' cp, w.cell? ⟨R, 0, none⟩ = some (.slice a' (enc n V).length cp) ∧ w.cell? ⟨R, 1, none⟩ = some (.int .i64 n) ∧ Mine w B w.heap.size a' cp (enc n V) := by
  obtain ⟨v, hR, hv, _⟩ := h
  obtain ⟨a', cp, rfl, hm⟩ := hv.mine
  exact ⟨a', cp, cellR (j := 0) hR rfl, cellR (j := 1) hR rfl, hm⟩

set_option maxHeartbeats 1600000 in
theorem implNormPut_no (a : Option Addr) (cap : Nat) (zs : List Int) (w : World) (hb : Ins w a zs) (hl : zs.length ≤ 281474976710656) (h : normB zs = false) :
    Calls Tryd.prog 21 #[.slice a zs.length cap] w fun e w' => e = .returned (.tuple #[.agg #[.slice none 0 0, .int .i64 0], .bool false]) ∧ Below w.heap.size w w' := by
  have hw : Below w.heap.size w (w.alloc (Obj.cells #[Value.slice none 0 0, Value.int IntKind.i64 0] 25)) := (Below.refl _ _).alloc (Nat.le_refl _) _
  have HT := implNormOk_any a cap zs _ (hb.below hw (Nat.le_refl _)) hl
  rw [h] at HT
  go_enter Tryd.func21, Tryd.ntmps21
  go_wp2_with fail
  refine HT.mono ?_
  rintro e w1 ⟨rfl, rfl⟩
  clear HT
  go_wp2
  exact bodyPost_ret (v := .tuple #[.agg #[.slice none 0 0, .int .i64 0], .bool false]) (by simp [results, Tryd.results21, go_sem]) rfl ⟨rfl, by repeat (first | exact hw | refine Below.setCell ?_ (by simp) _)⟩

set_option maxHeartbeats 1600000 in
theorem specNormPut_no (a : Option Addr) (cap : Nat) (zs : List Int) (w : World) (hb : Ins w a zs) (hl : zs.length ≤ 281474976710656) (h : normB zs = false) :
    Calls Tryd.prog 20 #[.slice a zs.length cap] w fun e w' => e = .returned (.tuple #[.agg #[.slice none 0 0, .int .i64 0], .bool false]) ∧ Below w.heap.size w w' := by
  have hw : Below w.heap.size w (w.alloc (Obj.cells #[Value.slice none 0 0, Value.int IntKind.i64 0] 25)) := (Below.refl _ _).alloc (Nat.le_refl _) _
  have HT := specNormOk_any a cap zs _ (hb.below hw (Nat.le_refl _)) hl
  rw [h] at HT
  go_enter Tryd.func20, Tryd.ntmps20
  go_wp2_with fail
  refine HT.mono ?_
  rintro e w1 ⟨rfl, rfl⟩
  clear HT
  go_wp2
  exact bodyPost_ret (v := .tuple #[.agg #[.slice none 0 0, .int .i64 0], .bool false]) (by simp [results, Tryd.results20, go_sem]) rfl ⟨rfl, by repeat (first | exact hw | refine Below.setCell ?_ (by simp) _)⟩

theorem mine_out {w3 : World} {B g : Nat} {a' : Option Addr} {cp : Nat} {ys : List Int} (v0 v1 : Value) (hm : Mine w3 (B + 1) w3.heap.size a' cp ys) (hg : g = B) :
    Mine ((w3.setCell ⟨g, 0, none⟩ v0).setCell ⟨g, 1, none⟩ v1) B ((w3.setCell ⟨g, 0, none⟩ v0).setCell ⟨g, 1, none⟩ v1).heap.size a' cp ys := by
  subst hg
  have hO3 : Only (fun b => b = g) w3 ((w3.setCell ⟨g, 0, none⟩ v0).setCell ⟨g, 1, none⟩ v1) :=
    Only.setCell (Only.setCell (Only.refl (fun b => b = g) w3) (p := ⟨g, 0, none⟩) (.inl rfl) _) (p := ⟨g, 1, none⟩) (.inl rfl) _
  exact ((hm.only hO3 (fun b h1 _ => by omega)).mono (by omega) (by simp [World.setCell]))

set_option maxHeartbeats 1600000 in
theorem implNormPut_yes (a : Option Addr) (cap : Nat) (zs : List Int) (w : World) (hb : Ins w a zs) (h : normB zs = true) :
    Calls Tryd.prog 21 #[.slice a zs.length cap] w fun e w' =>
      ∃ a' cp, e = .returned (.tuple #[.agg #[.slice a' (enc (nb zs zs.length) (vb zs zs.length)).length cp, .int .i64 (nb zs zs.length : Nat)], .bool true]) ∧
        Mine w' w.heap.size w'.heap.size a' cp (enc (nb zs zs.length) (vb zs zs.length)) ∧ Below w.heap.size w w' := by
  have hw : Below w.heap.size w (w.alloc (Obj.cells #[Value.slice none 0 0, Value.int IntKind.i64 0] 25)) := (Below.refl _ _).alloc (Nat.le_refl _) _
  obtain ⟨hn1, hn2⟩ := normB_bnd h
  have hb' : Ins (w.alloc (Obj.cells #[Value.slice none 0 0, Value.int IntKind.i64 0] 25)) a zs := hb.below hw (Nat.le_refl _)
  have HT := implNormOk_any a cap zs _ hb' (by omega)
  rw [h] at HT
  have r0 : (w.alloc (Obj.cells #[Value.slice none 0 0, Value.int IntKind.i64 0] 25)).cell? ⟨w.heap.size, 0, none⟩ = some (.slice none 0 0) := by simp
  have r1 : (w.alloc (Obj.cells #[Value.slice none 0 0, Value.int IntKind.i64 0] 25)).cell? ⟨w.heap.size, 1, none⟩ = some (.int .i64 0) := by simp
  have t0 : (w.alloc (Obj.cells #[Value.slice none 0 0, Value.int IntKind.i64 0] 25)).frozen? ⟨w.heap.size, 0, none⟩ = false := by simp
  have t1 : (w.alloc (Obj.cells #[Value.slice none 0 0, Value.int IntKind.i64 0] 25)).frozen? ⟨w.heap.size, 1, none⟩ = false := by simp
  have HSZ : Hid ((w.alloc (Obj.cells #[Value.slice none 0 0, Value.int IntKind.i64 0] 25)).heap.size = w.heap.size + 1) := by simp [Hid]
  go_enter Tryd.func21, Tryd.ntmps21
  go_wp2_with fail
  generalize w.alloc (Obj.cells #[Value.slice none 0 0, Value.int IntKind.i64 0] 25) = W at *
  refine HT.mono ?_
  rintro e w1 ⟨rfl, rfl⟩
  clear HT
  go_wp2_with fail
  refine (newWriter_any none 0 [] 0 4096 w1 ⟨by simp, by simp⟩ (by simp)).mono ?_
  rintro e w2 ⟨R, g, rfl, hR, hown, hRge, hb2⟩
  have hWI : WI w2 w1.heap.size R 0 0 := WI.new hR hown hRge hb2.size
  have HWI : Hid (WI w2 w1.heap.size R 0 0) := hWI
  clear hR hown hWI
  go_wp2_with fail
  refine (putNorm_yes a cap zs R w1.heap.size w1 w2 hb' rfl hb2 HWI.out h).mono ?_
  rintro e w3 ⟨rfl, hW3, hb3⟩
  obtain ⟨a', cp, d0, d1, hmine⟩ := hW3.cells
  rw [HSZ.out] at hmine hb3
  have u0 := keep hb3 (by omega) r0
  have u1 := keep hb3 (by omega) r1
  have v0 : w3.frozen? ⟨w.heap.size, 0, none⟩ = false := (hb3.frozen (p := ⟨w.heap.size, 0, none⟩) (by simp)).trans t0
  have v1 : w3.frozen? ⟨w.heap.size, 1, none⟩ = false := (hb3.frozen (p := ⟨w.heap.size, 1, none⟩) (by simp)).trans t1
  have hbb3 : Below w.heap.size w w3 := hw.trans (hb3.mono (by omega))
  generalize hMM : nb zs zs.length = M at *
  generalize hYS : enc M (vb zs zs.length) = ys at *
  have HMM : Hid (nb zs zs.length = M) := hMM
  have HYS : Hid (enc M (vb zs zs.length) = ys) := hYS
  have HM : Hid (Mine w3 (w.heap.size + 1) w3.heap.size a' cp ys) := hmine
  have HBB : Hid (Below w.heap.size w w3) := hbb3
  clear hMM hYS hW3 hb3 hmine hbb3 r0 r1 t0 t1 hb' hb hw HWI hb2 h
  go_wp2
  refine bodyPost_ret (v := .tuple #[.agg #[.slice a' ys.length cp, .int .i64 (M : Nat)], .bool true]) (by simp [results, Tryd.results21, go_sem, u0, u1]) rfl ⟨a', cp, by rw [HMM.out, HYS.out], ?_, ?_⟩
  · rw [HMM.out, HYS.out]; exact mine_out _ _ HM.out rfl
  · exact ((HBB.out.setCell (by simp) _).setCell (by simp) _)

set_option maxHeartbeats 1600000 in
theorem specNormPut_yes (a : Option Addr) (cap : Nat) (zs : List Int) (w : World) (hb : Ins w a zs) (h : normB zs = true) :
    Calls Tryd.prog 20 #[.slice a zs.length cap] w fun e w' =>
      ∃ a' cp, e = .returned (.tuple #[.agg #[.slice a' (enc (nb zs zs.length) (vb zs zs.length)).length cp, .int .i64 (nb zs zs.length : Nat)], .bool true]) ∧
        Mine w' w.heap.size w'.heap.size a' cp (enc (nb zs zs.length) (vb zs zs.length)) ∧ Below w.heap.size w w' := by
  have hw : Below w.heap.size w (w.alloc (Obj.cells #[Value.slice none 0 0, Value.int IntKind.i64 0] 25)) := (Below.refl _ _).alloc (Nat.le_refl _) _
  obtain ⟨hn1, hn2⟩ := normB_bnd h
  have hb' : Ins (w.alloc (Obj.cells #[Value.slice none 0 0, Value.int IntKind.i64 0] 25)) a zs := hb.below hw (Nat.le_refl _)
  have HT := specNormOk_any a cap zs _ hb' (by omega)
  rw [h] at HT
  have r0 : (w.alloc (Obj.cells #[Value.slice none 0 0, Value.int IntKind.i64 0] 25)).cell? ⟨w.heap.size, 0, none⟩ = some (.slice none 0 0) := by simp
  have r1 : (w.alloc (Obj.cells #[Value.slice none 0 0, Value.int IntKind.i64 0] 25)).cell? ⟨w.heap.size, 1, none⟩ = some (.int .i64 0) := by simp
  have t0 : (w.alloc (Obj.cells #[Value.slice none 0 0, Value.int IntKind.i64 0] 25)).frozen? ⟨w.heap.size, 0, none⟩ = false := by simp
  have t1 : (w.alloc (Obj.cells #[Value.slice none 0 0, Value.int IntKind.i64 0] 25)).frozen? ⟨w.heap.size, 1, none⟩ = false := by simp
  have HSZ : Hid ((w.alloc (Obj.cells #[Value.slice none 0 0, Value.int IntKind.i64 0] 25)).heap.size = w.heap.size + 1) := by simp [Hid]
  go_enter Tryd.func20, Tryd.ntmps20
  go_wp2_with fail
  generalize w.alloc (Obj.cells #[Value.slice none 0 0, Value.int IntKind.i64 0] 25) = W at *
  refine HT.mono ?_
  rintro e w1 ⟨rfl, rfl⟩
  clear HT
  go_wp2_with fail
  refine (l3putNorm_any a cap zs w1.heap.size w1.heap.size w1 _ hb' rfl ((Below.refl _ _).alloc (Nat.le_refl _) _) (SI.new w1 w1.heap.size (Nat.le_refl _)) h).mono ?_
  rintro e w3 ⟨rfl, hW3, hb3⟩
  obtain ⟨a', cp, d0, d1, hmine⟩ := hW3.cells
  rw [HSZ.out] at hmine hb3
  have u0 := keep hb3 (by omega) r0
  have u1 := keep hb3 (by omega) r1
  have v0 : w3.frozen? ⟨w.heap.size, 0, none⟩ = false := (hb3.frozen (p := ⟨w.heap.size, 0, none⟩) (by simp)).trans t0
  have v1 : w3.frozen? ⟨w.heap.size, 1, none⟩ = false := (hb3.frozen (p := ⟨w.heap.size, 1, none⟩) (by simp)).trans t1
  have hbb3 : Below w.heap.size w w3 := hw.trans (hb3.mono (by omega))
  generalize hMM : nb zs zs.length = M at *
  generalize hYS : enc M (vb zs zs.length) = ys at *
  have HMM : Hid (nb zs zs.length = M) := hMM
  have HYS : Hid (enc M (vb zs zs.length) = ys) := hYS
  have HM : Hid (Mine w3 (w.heap.size + 1) w3.heap.size a' cp ys) := hmine
  have HBB : Hid (Below w.heap.size w w3) := hbb3
  clear hMM hYS hW3 hb3 hmine hbb3 r0 r1 t0 t1 hb' hb hw h
  go_wp2
  refine bodyPost_ret (v := .tuple #[.agg #[.slice a' ys.length cp, .int .i64 (M : Nat)], .bool true]) (by simp [results, Tryd.results20, go_sem, u0, u1]) rfl ⟨a', cp, by rw [HMM.out, HYS.out], ?_, ?_⟩
  · rw [HMM.out, HYS.out]; exact mine_out _ _ HM.out rfl
  · exact ((HBB.out.setCell (by simp) _).setCell (by simp) _)

/-- The model and the program put shares alike. -/
theorem normPut_both (zs : List Int) (hl : zs.length ≤ 1048576) : ∃ (ys : List Int) (M : Int) (ok : Bool), ys.length ≤ 1048576 ∧
    (∀ (a : Option Addr) (cap : Nat) (w : World), Ins w a zs → Calls Tryd.prog 20 #[.slice a zs.length cap] w fun e w' =>
      ∃ a' cp, e = .returned (.tuple #[.agg #[.slice a' ys.length cp, .int .i64 M], .bool ok]) ∧ Mine w' w.heap.size w'.heap.size a' cp ys ∧ Below w.heap.size w w') ∧
    (∀ (a : Option Addr) (cap : Nat) (w : World), Ins w a zs → Calls Tryd.prog 21 #[.slice a zs.length cap] w fun e w' =>
      ∃ a' cp, e = .returned (.tuple #[.agg #[.slice a' ys.length cp, .int .i64 M], .bool ok]) ∧ Mine w' w.heap.size w'.heap.size a' cp ys ∧ Below w.heap.size w w') := by
  cases h : normB zs with
  | true =>
    refine ⟨enc (nb zs zs.length) (vb zs zs.length), (nb zs zs.length : Nat), true, ?_, fun a cap w hb => specNormPut_yes a cap zs w hb h, fun a cap w hb => implNormPut_yes a cap zs w hb h⟩
    have h1 := nb_le h zs.length
    have h2 := normB_bnd h
    rw [enc_len]
    omega
  | false =>
    refine ⟨[], 0, false, by simp, fun a cap w hb => ?_, fun a cap w hb => ?_⟩
    · refine (specNormPut_no a cap zs w hb (by omega) h).mono ?_
      rintro e w' ⟨rfl, hb'⟩
      exact ⟨none, 0, rfl, .inl ⟨rfl, rfl, rfl⟩, hb'⟩
    · refine (implNormPut_no a cap zs w hb (by omega) h).mono ?_
      rintro e w' ⟨rfl, hb'⟩
      exact ⟨none, 0, rfl, .inl ⟨rfl, rfl, rfl⟩, hb'⟩
end Go.Proofs.YtbbgkjomomejlaaDoor
