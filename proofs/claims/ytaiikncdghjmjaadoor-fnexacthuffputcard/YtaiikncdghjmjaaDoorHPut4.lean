/-
  HuffPut: what both refuse.
-/
import Derived.Test.YtaiikncdghjmjaaDoorHPut3
import Derived.Test.YtaiikncdghjmjaaDoorILens2
import Derived.Test.YtaiikncdghjmjaaDoorITxt
namespace Go.Proofs.YtaiikncdghjmjaaDoor
open Go.RowKit
set_option linter.unusedVariables false

set_option maxHeartbeats 4000000 in
theorem implHuffPut_no (a : Option Addr) (ca : Nat) (ls : List Int) (b : Option Addr) (cb : Nat) (ts : List Int) (w : World) (ha : Ins w a ls) (hb : Ins w b ts) (hl1 : ls.length ≤ 281474976710656) (hl2 : ts.length ≤ 281474976710656) (hno : ¬ (lensB ls = true ∧ txtB ts ls.length = true)) (h4 : Four w) (hE : ErrT w) :
    Calls Tryd.prog 21 #[.slice a ls.length ca, .slice b ts.length cb] w fun e w' => e = .returned (.tuple #[.agg #[.slice none 0 0, .int .i64 0], .bool false]) ∧ Below w.heap.size w w' := by
  have hw : Below w.heap.size w (w.alloc (Obj.cells #[Value.slice none 0 0, Value.int IntKind.i64 0] 33)) := (Below.refl _ _).alloc (Nat.le_refl _) _
  have HT := implLens_any a ca ls _ (ha.below hw (Nat.le_refl _)) hl1 (h4.below hw) (hE.below hw)
  have r0 : (w.alloc (Obj.cells #[Value.slice none 0 0, Value.int IntKind.i64 0] 33)).cell? ⟨w.heap.size, 0, none⟩ = some (.slice none 0 0) := by simp
  have r1 : (w.alloc (Obj.cells #[Value.slice none 0 0, Value.int IntKind.i64 0] 33)).cell? ⟨w.heap.size, 1, none⟩ = some (.int .i64 0) := by simp
  have t0 : (w.alloc (Obj.cells #[Value.slice none 0 0, Value.int IntKind.i64 0] 33)).frozen? ⟨w.heap.size, 0, none⟩ = false := by simp
  have t1 : (w.alloc (Obj.cells #[Value.slice none 0 0, Value.int IntKind.i64 0] 33)).frozen? ⟨w.heap.size, 1, none⟩ = false := by simp
  have HSZ : Hid (w.heap.size < (w.alloc (Obj.cells #[Value.slice none 0 0, Value.int IntKind.i64 0] 33)).heap.size) := by simp [Hid]
  go_enter Tryd.func21, Tryd.ntmps21
  go_wp2_with fail
  generalize w.alloc (Obj.cells #[Value.slice none 0 0, Value.int IntKind.i64 0] 33) = W at *
  refine HT.mono ?_
  rintro e w1 ⟨rfl, hb1⟩
  clear HT
  have u0 := keep hb1 HSZ.out r0
  have u1 := keep hb1 HSZ.out r1
  have v0 : w1.frozen? ⟨w.heap.size, 0, none⟩ = false := (hb1.frozen (p := ⟨w.heap.size, 0, none⟩) HSZ.out).trans t0
  have v1 : w1.frozen? ⟨w.heap.size, 1, none⟩ = false := (hb1.frozen (p := ⟨w.heap.size, 1, none⟩) HSZ.out).trans t1
  have HBB : Hid (Below w.heap.size w w1) := hw.trans (hb1.mono (Nat.le_of_lt HSZ.out))
  have hib : Ins w1 b ts := hb.below HBB.out (Nat.le_refl _)
  clear hb1 r0 r1 t0 t1 hw
  cases hlb : lensB ls with
  | false =>
    go_wp2
    exact bodyPost_ret (v := .tuple #[.agg #[.slice none 0 0, .int .i64 0], .bool false]) (by simp [results, Tryd.results21, go_sem, u0, u1]) rfl ⟨rfl, by repeat (first | exact HBB.out | refine Below.setCell ?_ (by simp) _)⟩
  | true =>
    have htf : txtB ts ls.length = false := by
      cases h : txtB ts ls.length with
      | false => rfl
      | true => exact absurd ⟨hlb, h⟩ hno
    have HXT := implTxt_any b cb ts (ls.length : Int) w1 hib hl2
    rw [htf] at HXT
    clear hlb htf hno
    go_wp2_with fail
    refine HXT.mono ?_
    rintro e w2 ⟨rfl, rfl⟩
    clear HXT
    go_wp2
    exact bodyPost_ret (v := .tuple #[.agg #[.slice none 0 0, .int .i64 0], .bool false]) (by simp [results, Tryd.results21, go_sem, u0, u1]) rfl ⟨rfl, by repeat (first | exact HBB.out | refine Below.setCell ?_ (by simp) _)⟩

set_option maxHeartbeats 4000000 in
theorem specHuffPut_no (a : Option Addr) (ca : Nat) (ls : List Int) (b : Option Addr) (cb : Nat) (ts : List Int) (w : World) (ha : Ins w a ls) (hb : Ins w b ts) (hl1 : ls.length ≤ 281474976710656) (hl2 : ts.length ≤ 281474976710656) (hno : ¬ (lensB ls = true ∧ txtB ts ls.length = true)) :
    Calls Tryd.prog 20 #[.slice a ls.length ca, .slice b ts.length cb] w fun e w' => e = .returned (.tuple #[.agg #[.slice none 0 0, .int .i64 0], .bool false]) ∧ Below w.heap.size w w' := by
  have hw : Below w.heap.size w (w.alloc (Obj.cells #[Value.slice none 0 0, Value.int IntKind.i64 0] 33)) := (Below.refl _ _).alloc (Nat.le_refl _) _
  have HT := specLens_any a ca ls _ (ha.below hw (Nat.le_refl _)) hl1
  have hib := hb.below hw (Nat.le_refl _)
  have HBB : Hid (Below w.heap.size w (w.alloc (Obj.cells #[Value.slice none 0 0, Value.int IntKind.i64 0] 33))) := hw
  clear hw
  cases hlb : lensB ls with
  | false =>
    rw [hlb] at HT
    go_enter Tryd.func20, Tryd.ntmps20
    go_wp2_with fail
    refine HT.mono ?_
    rintro e w1 ⟨rfl, rfl⟩
    clear HT
    go_wp2
    exact bodyPost_ret (v := .tuple #[.agg #[.slice none 0 0, .int .i64 0], .bool false]) (by simp [results, Tryd.results20, go_sem]) rfl ⟨rfl, by repeat (first | exact HBB.out | refine Below.setCell ?_ (by simp) _)⟩
  | true =>
    have htf : txtB ts ls.length = false := by
      cases h : txtB ts ls.length with
      | false => rfl
      | true => exact absurd ⟨hlb, h⟩ hno
    have HXT := specTxt_any b cb ts (ls.length : Int) _ hib hl2
    rw [htf] at HXT
    rw [hlb] at HT
    clear hlb htf hno
    go_enter Tryd.func20, Tryd.ntmps20
    go_wp2_with fail
    refine HT.mono ?_
    rintro e w1 ⟨rfl, rfl⟩
    clear HT
    go_wp2_with fail
    refine HXT.mono ?_
    rintro e w2 ⟨rfl, rfl⟩
    clear HXT
    go_wp2
    exact bodyPost_ret (v := .tuple #[.agg #[.slice none 0 0, .int .i64 0], .bool false]) (by simp [results, Tryd.results20, go_sem]) rfl ⟨rfl, by repeat (first | exact HBB.out | refine Below.setCell ?_ (by simp) _)⟩

end Go.Proofs.YtaiikncdghjmjaaDoor
