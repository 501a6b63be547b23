/-
  eqPlace, eqPlaceS and eqMap answer true of what is the same.
-/
import Derived.Test.YthihdnmdmfdhdaaPlP
import Derived.Deep.RegionHeld3
namespace Go.Proofs.Ythihdnmdmfdhdaa
open Go.RowKit
set_option linter.unusedVariables false

set_option maxHeartbeats 800000 in
theorem eqPlace_yes (x y : Int) (w : World) :
    Calls Try.prog 21 #[.agg #[.int .i64 x, .int .i64 y], .agg #[.int .i64 x, .int .i64 y]] w fun e w' => e = .returned (.bool true) ∧ Below w.heap.size w w' := by
  have hw : Below w.heap.size w ((w.alloc (Obj.cells #[Value.int IntKind.i64 x, Value.int IntKind.i64 y] 38)).alloc (Obj.cells #[Value.int IntKind.i64 x, Value.int IntKind.i64 y] 38)) :=
    ((Below.refl _ _).alloc (Nat.le_refl _) _).alloc (by simp) _
  have h1 : (x != x) = false := by simp
  have h2 : (y != y) = false := by simp
  go_enter Try.func21, Try.ntmps21
  go_wp2
  go_ret
  exact ⟨rfl, hw⟩

set_option maxHeartbeats 1600000 in
theorem eqPlaceS_yes (a b : Option Addr) (ca cb : Nat) (ps : List (Int × Int)) (w : World) (ha : Pls w a ps) (hb : Pls w b ps) (hx : ps.length ≤ 1048576) :
    Calls Try.prog 40 #[.slice a ps.length ca, .slice b ps.length cb] w fun e w' => e = .returned (.bool true) ∧ Below w.heap.size w w' := by
  have HA : Hid (Pls w a ps) := ha
  have HB : Hid (Pls w b ps) := hb
  clear ha hb
  generalize hlen : ps.length = n at *
  have HL : Hid (ps.length = n ∧ True) := ⟨hlen, trivial⟩
  clear hlen
  have hnn : ((n : Int) != (n : Int)) = false := by simp
  go_enter Try.func40, Try.ntmps40
  go_wp2
  go_loopw [5] (fun i wr => ∃ k : Nat, k ≤ n ∧ i = .int .i64 k ∧ Below w.heap.size w wr) (fun i _ => n - (intOf i).toNat)
  case atStart => exact ⟨0, Nat.zero_le _, rfl, Below.refl _ _⟩
  case round =>
    obtain ⟨k, hk, rfl, hbel⟩ := hrel
    by_cases hlt : k < n
    · obtain ⟨b1, o1, rfl, hb1, hc1⟩ := (HA.out.below hbel (Nat.le_refl _)).len_pos k (by rw [HL.out.1]; exact hlt)
      obtain ⟨b2, o2, rfl, hb2, hc2⟩ := (HB.out.below hbel (Nat.le_refl _)).len_pos k (by rw [HL.out.1]; exact hlt)
      obtain ⟨c0, c1⟩ := hc1 k (by rw [HL.out.1]; exact hlt)
      obtain ⟨d0, d1⟩ := hc2 k (by rw [HL.out.1]; exact hlt)
      clear hc1 hc2
      generalize ps.getD k dp = p at *
      obtain ⟨x, y⟩ := p
      simp only at c0 c1 d0 d1
      have HC : Hid (wr.cell? ⟨b1, o1 + k * 2, none⟩ = some (.int .i64 x) ∧ wr.cell? ⟨b1, o1 + k * 2 + 1, none⟩ = some (.int .i64 y) ∧ wr.cell? ⟨b2, o2 + k * 2, none⟩ = some (.int .i64 x) ∧ wr.cell? ⟨b2, o2 + k * 2 + 1, none⟩ = some (.int .i64 y)) := ⟨c0, c1, d0, d1⟩
      clear c0 c1 d0 d1
      go_wp2_with fail
      go_region_held3 (fun W => W.cell? ⟨b1, o1 + k * 2, none⟩ = some (.int .i64 x) ∧ W.cell? ⟨b1, o1 + k * 2 + 1, none⟩ = some (.int .i64 y) ∧ W.cell? ⟨b2, o2 + k * 2, none⟩ = some (.int .i64 x) ∧ W.cell? ⟨b2, o2 + k * 2 + 1, none⟩ = some (.int .i64 y))
        (first | exact HC.out | exact HC8.out)
        (first
          | (go_at_call 21; refine (eqPlace_yes x y _).mono ?_; rintro e w8 ⟨rfl, hb8'⟩; have HB8 : Hid (Below w.heap.size w w8) := hbel.trans ((Below.drewS hb8').mono hbel.size); have HC8 : Hid (w8.cell? ⟨b1, o1 + k * 2, none⟩ = some (.int .i64 x) ∧ w8.cell? ⟨b1, o1 + k * 2 + 1, none⟩ = some (.int .i64 y) ∧ w8.cell? ⟨b2, o2 + k * 2, none⟩ = some (.int .i64 x) ∧ w8.cell? ⟨b2, o2 + k * 2 + 1, none⟩ = some (.int .i64 y)) := ⟨keep (Below.drewS hb8') hb1 HC.out.1, keep (Below.drewS hb8') hb1 HC.out.2.1, keep (Below.drewS hb8') hb2 HC.out.2.2.1, keep (Below.drewS hb8') hb2 HC.out.2.2.2⟩))
      clear HC HC8
      go_wp2
      go_roundw
      case rel => exact ⟨k + 1, by omega, by go_num, HB8.out⟩
      case measure => simp [intOf]; omega
    · have hkn : k = n := by omega
      subst hkn
      go_wp2
      go_ret
      exact ⟨rfl, hbel⟩

set_option maxHeartbeats 800000 in
theorem eqMap_yes (a b : Option Addr) (ca cb : Nat) (ps : List (Int × Int)) (w : World) (ha : Pls w a ps) (hb : Pls w b ps) (hx : ps.length ≤ 1048576) :
    Calls Try.prog 14 #[.agg #[.slice a ps.length ca], .agg #[.slice b ps.length cb]] w fun e w' => e = .returned (.bool true) ∧ Below w.heap.size w w' := by
  have hw : Below w.heap.size w ((w.alloc (Obj.cells #[Value.slice a ps.length ca] 29)).alloc (Obj.cells #[Value.slice b ps.length cb] 29)) :=
    ((Below.refl _ _).alloc (Nat.le_refl _) _).alloc (by simp) _
  go_enter Try.func14, Try.ntmps14
  go_wp2_with fail
  refine (eqPlaceS_yes a b ca cb ps _ (ha.below hw (Nat.le_refl _)) (hb.below hw (Nat.le_refl _)) hx).mono ?_
  rintro e w1 ⟨rfl, hb1⟩
  go_wp2
  go_ret
  exact ⟨rfl, hw.trans (hb1.mono (by simp; omega))⟩
end Go.Proofs.Ythihdnmdmfdhdaa
