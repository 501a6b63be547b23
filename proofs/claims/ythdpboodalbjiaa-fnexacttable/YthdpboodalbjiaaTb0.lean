/-
  Rows of Cell, as flat rows of numbers: eqCell, eqCellS, markCellS, heldCellS of the law.
-/
import Derived.Test.YthdpboodalbjiaaIArr
import Derived.Deep.RegionHeld3
namespace Go.Proofs.Ythdpboodalbjiaa
open Go.RowKit
set_option linter.unusedVariables false

set_option maxHeartbeats 800000 in
theorem eqCell_yes (x y z : Int) (w : World) :
    Calls Try.prog 31 #[.agg #[.int .i64 x, .int .i64 y, .int .i64 z], .agg #[.int .i64 x, .int .i64 y, .int .i64 z]] w fun e w' => e = .returned (.bool true) ∧ Below w.heap.size w w' := by
  have hw : Below w.heap.size w ((w.alloc (Obj.cells #[Value.int IntKind.i64 x, Value.int IntKind.i64 y, Value.int IntKind.i64 z] 43)).alloc (Obj.cells #[Value.int IntKind.i64 x, Value.int IntKind.i64 y, Value.int IntKind.i64 z] 43)) :=
    ((Below.refl _ _).alloc (Nat.le_refl _) _).alloc (by simp) _
  have h1 : (x != x) = false := by simp
  have h2 : (y != y) = false := by simp
  have h3 : (z != z) = false := by simp
  go_enter Try.func31, Try.ntmps31
  go_wp2
  go_ret
  exact ⟨rfl, hw⟩

set_option maxHeartbeats 1600000 in
theorem eqCellS_yes (a b : Option Addr) (ca cb n : Nat) (fs : List Int) (w : World) (ha : Ins w a fs) (hb : Ins w b fs) (hl : fs.length = n * 3) (hx : n ≤ 1048576) :
    Calls Try.prog 19 #[.slice a n ca, .slice b n cb] w fun e w' => e = .returned (.bool true) ∧ Below w.heap.size w w' := by
  have HA : Hid (Ins w a fs) := ha
  have HB : Hid (Ins w b fs) := hb
  have HL : Hid (fs.length = n * 3) := hl
  clear ha hb hl
  have hnn : ((n : Int) != (n : Int)) = false := by simp
  go_enter Try.func19, Try.ntmps19
  go_wp2
  go_loopw [5] (fun i wr => ∃ k : Nat, k ≤ n ∧ i = .int .i64 k ∧ Below w.heap.size w wr) (fun i _ => n - (intOf i).toNat)
  case atStart => exact ⟨0, Nat.zero_le _, rfl, Below.refl _ _⟩
  case round =>
    obtain ⟨k, hk, rfl, hbel⟩ := hrel
    by_cases hlt : k < n
    · obtain ⟨b1, o1, rfl, hb1, hc1⟩ := (HA.out.below hbel (Nat.le_refl _)).len_pos (k * 3) (by rw [HL.out]; omega)
      obtain ⟨b2, o2, rfl, hb2, hc2⟩ := (HB.out.below hbel (Nat.le_refl _)).len_pos (k * 3) (by rw [HL.out]; omega)
      have c0 := hc1 (k * 3) (by rw [HL.out]; omega)
      have c1 := hc1 (k * 3 + 1) (by rw [HL.out]; omega)
      have c2 := hc1 (k * 3 + 2) (by rw [HL.out]; omega)
      have d0 := hc2 (k * 3) (by rw [HL.out]; omega)
      have d1 := hc2 (k * 3 + 1) (by rw [HL.out]; omega)
      have d2 := hc2 (k * 3 + 2) (by rw [HL.out]; omega)
      rw [← Nat.add_assoc] at c1 c2 d1 d2
      clear hc1 hc2
      generalize fs.getD (k * 3) 0 = x at *
      generalize fs.getD (k * 3 + 1) 0 = y at *
      generalize fs.getD (k * 3 + 2) 0 = z at *
      have HC : Hid (wr.cell? ⟨b1, o1 + k * 3, none⟩ = some (.int .i64 x) ∧ wr.cell? ⟨b1, o1 + k * 3 + 1, none⟩ = some (.int .i64 y) ∧ wr.cell? ⟨b1, o1 + k * 3 + 2, none⟩ = some (.int .i64 z) ∧ wr.cell? ⟨b2, o2 + k * 3, none⟩ = some (.int .i64 x) ∧ wr.cell? ⟨b2, o2 + k * 3 + 1, none⟩ = some (.int .i64 y) ∧ wr.cell? ⟨b2, o2 + k * 3 + 2, none⟩ = some (.int .i64 z)) := ⟨c0, c1, c2, d0, d1, d2⟩
      clear c0 c1 c2 d0 d1 d2
      go_wp2_with fail
      go_region_held3 (fun W => W.cell? ⟨b1, o1 + k * 3, none⟩ = some (.int .i64 x) ∧ W.cell? ⟨b1, o1 + k * 3 + 1, none⟩ = some (.int .i64 y) ∧ W.cell? ⟨b1, o1 + k * 3 + 2, none⟩ = some (.int .i64 z) ∧ W.cell? ⟨b2, o2 + k * 3, none⟩ = some (.int .i64 x) ∧ W.cell? ⟨b2, o2 + k * 3 + 1, none⟩ = some (.int .i64 y) ∧ W.cell? ⟨b2, o2 + k * 3 + 2, none⟩ = some (.int .i64 z))
        (first | exact HC.out | exact HC8.out)
        (first
          | (go_at_call 31; refine (eqCell_yes x y z _).mono ?_; rintro e w8 ⟨rfl, hb8'⟩; have HB8 : Hid (Below w.heap.size w w8) := hbel.trans ((Below.drewS hb8').mono hbel.size); have HC8 : Hid (w8.cell? ⟨b1, o1 + k * 3, none⟩ = some (.int .i64 x) ∧ w8.cell? ⟨b1, o1 + k * 3 + 1, none⟩ = some (.int .i64 y) ∧ w8.cell? ⟨b1, o1 + k * 3 + 2, none⟩ = some (.int .i64 z) ∧ w8.cell? ⟨b2, o2 + k * 3, none⟩ = some (.int .i64 x) ∧ w8.cell? ⟨b2, o2 + k * 3 + 1, none⟩ = some (.int .i64 y) ∧ w8.cell? ⟨b2, o2 + k * 3 + 2, none⟩ = some (.int .i64 z)) := ⟨keep (Below.drewS hb8') hb1 HC.out.1, keep (Below.drewS hb8') hb1 HC.out.2.1, keep (Below.drewS hb8') hb1 HC.out.2.2.1, keep (Below.drewS hb8') hb2 HC.out.2.2.2.1, keep (Below.drewS hb8') hb2 HC.out.2.2.2.2.1, keep (Below.drewS hb8') hb2 HC.out.2.2.2.2.2⟩))
      clear HC HC8
      go_wp2
      go_roundw
      case rel => exact ⟨k + 1, by omega, by go_num, HB8.out⟩
      case measure => simp [intOf]; omega
    · have hkn : k = n := by omega
      subst hkn
      go_wp2
      go_ret
      exact ⟨rfl, hbel⟩
end Go.Proofs.Ythdpboodalbjiaa
