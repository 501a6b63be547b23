/-
  placeFor of the program.
-/
import Derived.Test.YtmhpgkfaihcmeaaDoorFp3
namespace Go.Proofs.YtmhpgkfaihcmeaaDoor
open Go.RowKit
set_option linter.unusedVariables false

set_option maxRecDepth 20000 in
set_option maxHeartbeats 4000000 in
/-- placeFor: the first cell that is hit, or the error. -/
theorem placeFor_any (g : Nat) (T : List Int) (L : Nat) (s : Int) (p : Nat) (w : World) (hg : w.heap[g]? = some (.cells (cel T) 83 (0, 0))) (hT : Gd T L) (hp : p < 64) (hS : Sent w 2) :
    Calls Tryd.prog 40 #[.pointer (some ⟨g, 0, none⟩), .int .i64 s, .int .i64 p] w fun e w' => Below w.heap.size w w' ∧
      ((∃ q, First T s p q ∧ e = .returned (.tuple #[.int .i64 (q : Nat), .nilIface])) ∨ ((∀ q, q < 64 → ¬ hit T s p q) ∧ ∃ T' y, e = .returned (.tuple #[.int .i64 0, .iface T' y]))) := by
  have HG : Hid (w.heap[g]? = some (.cells (cel T) 83 (0, 0)) ∧ g < w.heap.size) := ⟨hg, (Array.getElem?_eq_some_iff.1 hg).1⟩
  have HT : Hid (Gd T L) := hT
  obtain ⟨T', y, hc⟩ := hS
  have HC : Hid (w.cell? ⟨2, 0, none⟩ = some (.iface T' y) ∧ 2 < w.heap.size) := ⟨hc, World.block_lt_of_cell? _ _ hc⟩
  clear hg hT hc
  go_enter Tryd.func40, Tryd.ntmps40
  go_wp2
  go_loopw [12] (fun i wr => ∃ k : Nat, k ≤ 64 ∧ i = .int .i64 k ∧ Below w.heap.size w wr ∧ ∀ j, j < k → ¬ hit T s p j) (fun i _ => 64 - (intOf i).toNat)
  case atStart => exact ⟨0, Nat.zero_le _, rfl, Below.refl _ _, fun j hj => by omega⟩
  case round =>
    obtain ⟨k, hk, rfl, hbel, hno⟩ := hrel
    have HBL : Hid (Below w.heap.size w wr ∧ w.heap.size ≤ wr.heap.size ∧ ∀ j, j < k → ¬ hit T s p j) := ⟨hbel, hbel.size, hno⟩
    clear hno
    by_cases hlt : k < 64
    · obtain ⟨sy, b, z, e1, e2, e3, hsy, hb6, hz64⟩ := HT.out.cell k (by omega)
      have hTb : wr.heap[g]? = some (.cells (cel T) 83 (0, 0)) := (hbel.block g HG.out.2).trans HG.out.1
      have t0 := arr_cell (tb := T) hTb (k * 3) (by rw [HT.out.len]; omega)
      have t1 := arr_cell (tb := T) hTb (k * 3 + 1) (by rw [HT.out.len]; omega)
      have t2 := arr_cell (tb := T) hTb (k * 3 + 2) (by rw [HT.out.len]; omega)
      have lg : g < wr.heap.size := by have := HG.out.2; have := HBL.out.2.1; omega
      rw [e1] at t0
      rw [e2] at t1
      rw [e3] at t2
      have HCB : Hid (cB T k = b ∧ cZ T k = z ∧ T.getD (k * 3) 0 = (sy : Int)) := ⟨by unfold cB; rw [e2, Int.toNat_natCast], by unfold cZ; rw [e3, Int.toNat_natCast], e1⟩
      have hz63 : z ≤ 64 := Nat.le_trans (Nat.le_add_right z (2 ^ b)) hz64
      have HBA : Hid (Below w.heap.size w (wr.alloc (Obj.cells #[Value.int .i64 sy, Value.int .i64 b, Value.int .i64 z] 81)) ∧ True) := ⟨hbel.alloc HBL.out.2.1 _, trivial⟩
      clear hTb e1 e2 e3 hz64 hbel
      by_cases g1 : (sy : Int) = s
      · subst g1
        have h0 : ((sy : Int) == (sy : Int)) = true := by simp
        have HH := has_any (sy : Int) b z p (wr.alloc (Obj.cells #[Value.int .i64 sy, Value.int .i64 b, Value.int .i64 z] 81)).drew hb6 hz63 (by omega)
        cases hd : decide (z ≤ p ∧ p < z + 2 ^ b) with
        | true =>
          have HF : Hid (First T (sy : Int) p k) := ⟨hlt, by
            unfold hit
            rw [HCB.out.1, HCB.out.2.1, HCB.out.2.2]
            exact ⟨rfl, of_decide_eq_true hd⟩, HBL.out.2.2⟩
          rw [hd] at HH
          clear hd
          go_wp2_with fail
          go_region
          all_goals
            go_wp2_with fail
            refine HH.mono ?_
            clear HH
            rintro e w8 ⟨rfl, hb8⟩
            have HB8 : Hid (Below w.heap.size w w8 ∧ True) := ⟨HBA.out.1.drew.trans (hb8.mono HBA.out.1.size), trivial⟩
            clear hb8
            go_wp2
            go_ret2
            exact ⟨HB8.out.1, .inl ⟨k, HF.out, rfl⟩⟩
        | false =>
          have HN : Hid (∀ j, j < k + 1 → ¬ hit T (sy : Int) p j) := by
            intro j hj
            by_cases e : j = k
            · subst e
              unfold hit
              rw [HCB.out.1, HCB.out.2.1]
              exact fun h => absurd h.2 (of_decide_eq_false hd)
            · exact HBL.out.2.2 j (by omega)
          rw [hd] at HH
          clear hd
          go_wp2_with fail
          go_region
          all_goals
            go_wp2_with fail
            refine HH.mono ?_
            clear HH
            rintro e w8 ⟨rfl, hb8⟩
            have HB8 : Hid (Below w.heap.size w w8 ∧ True) := ⟨HBA.out.1.drew.trans (hb8.mono HBA.out.1.size), trivial⟩
            clear hb8
            go_wp2
            go_roundw
            case rel => exact ⟨k + 1, by omega, by go_num, HB8.out.1, HN.out⟩
            case measure => simp [intOf]; omega
      · have h0 : ((sy : Int) == s) = false := by simpa using g1
        have HN : Hid (∀ j, j < k + 1 → ¬ hit T s p j) := by
          intro j hj
          by_cases e : j = k
          · subst e
            unfold hit
            rw [HCB.out.2.2]
            exact fun h => g1 h.1
          · exact HBL.out.2.2 j (by omega)
        clear g1
        go_wp2_with fail
        go_region
        all_goals
          go_wp2
          go_roundw
          case rel => exact ⟨k + 1, by omega, by go_num, HBA.out.1.drew, HN.out⟩
          case measure => simp [intOf]; omega
    · have HKN : Hid (k = 64 ∧ True) := ⟨by omega, trivial⟩
      have hce := keep hbel HC.out.2 HC.out.1
      clear hbel
      go_wp2_with fail
      go_quiet (fail)
      go_wp2
      go_ret2
      exact ⟨below_dP HBL.out.1 _, .inr ⟨fun q hq => HBL.out.2.2 q (by have := HKN.out.1; omega), T', y, rfl⟩⟩
end Go.Proofs.YtmhpgkfaihcmeaaDoor
