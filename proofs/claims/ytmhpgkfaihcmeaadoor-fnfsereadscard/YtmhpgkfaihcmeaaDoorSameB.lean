/-
  The law's same and sameBits answer true of the same bytes.
-/
import Derived.Test.YtmhpgkfaihcmeaaDoorIBase
import Derived.Laws.BytesArg
namespace Go.Proofs.YtmhpgkfaihcmeaaDoor
open Go.RowKit
set_option linter.unusedVariables false

theorem conv_bytes (w : World) (a : Option Addr) (c : Nat) (zs : List Int) (hb : Byt w a zs) : (convert 22 9 (.slice a zs.length c)).run Tryd.prog w = .ok (.string (strOfNums zs)) w := by
  rcases Nat.eq_zero_or_pos zs.length with h0 | h0
  · obtain rfl : zs = [] := List.eq_nil_of_length_eq_zero h0
    cases a with
    | none => exact run_convert_bytes_nil (P := Tryd.prog) w 22 5 Tryd.underlying22 Tryd.underlying5 0 c 9 Tryd.underlying9
    | some x =>
      show (convert 22 9 (.slice (some x) 0 c)).run Tryd.prog w = _
      rw [run_convert_bytes_string w 22 9 5 _ _ c Tryd.underlying22 Tryd.underlying5 Tryd.underlying9, run_bytesToString w x 0 c [] (by simp [loadCells, loadCellsFrom])]
      rfl
  · obtain ⟨b, off, rfl, _, hc⟩ := hb.2 h0
    exact run_convert_bytes_arg (P := Tryd.prog) w 22 5 Tryd.underlying22 Tryd.underlying5 b off zs.length c zs rfl hc 9 Tryd.underlying9

set_option maxHeartbeats 800000 in
theorem same_yes (a b : Option Addr) (ca cb : Nat) (zs : List Int) (w : World) (ha : Byt w a zs) (hb : Byt w b zs) :
    Calls Tryd.prog 34 #[.slice a zs.length ca, .slice b zs.length cb] w fun e w' => e = .returned (.bool true) ∧ w' = w := by
  have h1 := conv_bytes w a ca zs ha
  have h2 := conv_bytes w b cb zs hb
  generalize strOfNums zs = S at *
  go_enter Tryd.func34, Tryd.ntmps34
  go_wp2
  go_ret
  exact ⟨rfl, rfl⟩

set_option maxHeartbeats 800000 in
theorem sameBits_yes (a b : Option Addr) (ca cb : Nat) (zs : List Int) (N : Int) (w : World) (ha : Byt w a zs) (hb : Byt w b zs) :
    Calls Tryd.prog 13 #[.agg #[.slice a zs.length ca, .int .i64 N], .agg #[.slice b zs.length cb, .int .i64 N]] w fun e w' => e = .returned (.bool true) ∧ Below w.heap.size w w' := by
  have hw : Below w.heap.size w ((w.alloc (Obj.cells #[Value.slice a zs.length ca, Value.int IntKind.i64 N] 27)).alloc (Obj.cells #[Value.slice b zs.length cb, Value.int IntKind.i64 N] 27)) :=
    ((Below.refl _ _).alloc (Nat.le_refl _) _).alloc (by simp) _
  have hNN : (N == N) = true := by simp
  go_enter Tryd.func13, Tryd.ntmps13
  go_wp2_with fail
  refine (same_yes a b ca cb zs _ (ha.below hw (Nat.le_refl _)) (hb.below hw (Nat.le_refl _))).mono ?_
  rintro e w1 ⟨rfl, rfl⟩
  go_wp2
  go_ret
  exact ⟨rfl, hw⟩
end Go.Proofs.YtmhpgkfaihcmeaaDoor
