/-
  sameRaw of the laws where nothing waits; a slice of bools that is made.
-/
import Derived.Test.YtpedfcknmeeknaaSameR
import Derived.Test.YtpedfcknmeeknaaBosW
import Derived.Test.YtpedfcknmeeknaaElApp
namespace Go.Proofs.Ytpedfcknmeeknaa
open Go.RowKit
set_option linter.unusedVariables false
set_option linter.unusedSimpArgs false

theorem run_make_bo (w : World) (n : Nat) (hn : n ≤ 1048576) : ∃ w', Sem.run Try.prog (Instr.makeSlice 36 (.int .i64 (n : Int)) (.int .i64 (n : Int))) w = .ok (.slice (some ⟨w.heap.size, 0, none⟩) n n) w' ∧ OwBo w' w.heap.size w.heap.size n (List.replicate n false) ∧ Below w.heap.size w w' := by
  obtain ⟨i0, hi, hz0, hz1, hz2⟩ := info_parts Try.infoBool
  obtain ⟨w', hrun, r1, r2⟩ := run_make_full (P := Try.prog) w w.heap.size 36 4 i0 (.bool false) 1 Try.underlying36 hi hz0 hz1 .i64 .i64 n (by rw [hz2]; omega) (by unfold maxLen; omega) (Nat.le_refl _)
  refine ⟨w', hrun, ⟨?_⟩, (Below.refl _ _).grown r2 (Nat.le_refl _) (by intro k hk; cases hk)⟩
  rw [made_bools] at r1
  rw [List.length_replicate]
  exact r1

set_option maxHeartbeats 1600000 in
theorem sameRaw_yes0 (ya yp za zp : Option Addr) (yc yq zc zq : Nat) (es fs : List El) (w : World) (hy : Els false w ya es) (hz : Els false w za fs) (hc : es.map El.ct = fs.map El.ct) (hn : es.length ≤ 1000000) :
    Calls Try.prog 16 #[.agg #[.slice ya es.length yc, .slice yp 0 yq], .agg #[.slice za es.length zc, .slice zp 0 zq]] w fun e w' => e = .returned (.bool true) ∧ Below w.heap.size w w' := by
  have hw : Below w.heap.size w ((w.alloc (Obj.cells #[Value.slice ya es.length yc, Value.slice yp 0 yq] 26)).alloc (Obj.cells #[Value.slice za es.length zc, Value.slice zp 0 zq] 26)) := ((Below.refl _ _).alloc (Nat.le_refl _) _).alloc (by simp) _
  have HX : Hid (Box2 ((w.alloc (Obj.cells #[Value.slice ya es.length yc, Value.slice yp 0 yq] 26)).alloc (Obj.cells #[Value.slice za es.length zc, Value.slice zp 0 zq] 26)) w.heap.size (.slice ya es.length yc) (.slice yp 0 yq) ∧ Box2 ((w.alloc (Obj.cells #[Value.slice ya es.length yc, Value.slice yp 0 yq] 26)).alloc (Obj.cells #[Value.slice za es.length zc, Value.slice zp 0 zq] 26)) (w.heap.size + 1) (.slice za es.length zc) (.slice zp 0 zq)) := by
    refine ⟨(Box2.new _ _ _ _).alloc _, ?_⟩
    have h9 := Box2.new (w.alloc (Obj.cells #[Value.slice ya es.length yc, Value.slice yp 0 yq] 26)) (.slice za es.length zc) (.slice zp 0 zq) 26
    simpa using h9
  have HSA := sameAll_yes ya za yc zc es fs _ (hy.below hw (Nat.le_refl _)) (hz.below hw (Nat.le_refl _)) hc hn
  have HW : Hid (Below w.heap.size w ((w.alloc (Obj.cells #[Value.slice ya es.length yc, Value.slice yp 0 yq] 26)).alloc (Obj.cells #[Value.slice za es.length zc, Value.slice zp 0 zq] 26))) := hw
  clear hy hz hc hw
  go_enter Try.func16, Try.ntmps16
  go_wp2_with fail
  refine HSA.mono ?_
  clear HSA
  rintro e w1 ⟨rfl, hb1⟩
  obtain ⟨x0, x1, -, -, xl⟩ := HX.out.1.keep hb1 HX.out.1.lt
  obtain ⟨y0, y1, -, -, yl⟩ := HX.out.2.keep hb1 HX.out.2.lt
  have HB : Hid (Below w.heap.size w w1 ∧ True) := ⟨HW.out.trans (hb1.mono HW.out.size), trivial⟩
  clear hb1 HX HW
  go_wp2
  go_loopw [5] (fun i wr => i = .int .i64 0 ∧ wr = w1) (fun _ _ => 0)
  case atStart => exact ⟨rfl, rfl⟩
  case round =>
    obtain ⟨rfl, hwr⟩ := hrel
    subst hwr
    go_wp2
    go_ret
    exact ⟨rfl, HB.out.1⟩
end Go.Proofs.Ytpedfcknmeeknaa
