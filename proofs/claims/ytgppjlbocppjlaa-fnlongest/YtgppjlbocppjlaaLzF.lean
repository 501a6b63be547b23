/-
  alikeFrom of the program.
-/
import Derived.BigQuiet
import Derived.Test.YtgppjlbocppjlaaLzM
import Derived.Test.YtgppjlbocppjlaaLzH
namespace Go.Proofs.Ytgppjlbocppjlaa
open Go.RowKit
set_option linter.unusedVariables false
set_option linter.unusedSimpArgs false

/-- The history lies in the block R: its text, and its map in the block M. -/
structure Hst (w : World) (R M : Nat) (a : Option Addr) (n c : Nat) : Prop where
  blk : w.heap[R]? = some (.cells #[.slice a n c, .map (some M)] 46 (0, 0))
theorem Hst.c0 {w : World} {R M : Nat} {a : Option Addr} {n c : Nat} (h : Hst w R M a n c) : w.cell? ⟨R, 0, none⟩ = some (.slice a n c) := by
  rw [cell_of_row w R 0 _ _ (0, 0) h.blk]; rfl
theorem Hst.c1 {w : World} {R M : Nat} {a : Option Addr} {n c : Nat} (h : Hst w R M a n c) : w.cell? ⟨R, 1, none⟩ = some (.map (some M)) := by
  rw [cell_of_row w R 1 _ _ (0, 0) h.blk]; rfl
theorem Hst.lt {w : World} {R M : Nat} {a : Option Addr} {n c : Nat} (h : Hst w R M a n c) : R < w.heap.size := (Array.getElem?_eq_some_iff.1 h.blk).1
theorem Hst.below {w w' : World} {R M : Nat} {a : Option Addr} {n c : Nat} (h : Hst w R M a n c) (hb : Below w.heap.size w w') : Hst w' R M a n c := ⟨(hb.block R h.lt).trans h.blk⟩

set_option maxRecDepth 20000 in
set_option maxHeartbeats 4000000 in
theorem alikeFrom_any (R M : Nat) (a : Option Addr) (c : Nat) (ys : List Int) (p q : Nat) (w : World) (hH : Hst w R M a ys.length c) (hb : Byt w a ys) (hn : ys.length ≤ 64) (hp : p < q) (hq : q < ys.length) :
    Calls Try.prog 16 #[.pointer (some ⟨R, 0, none⟩), .int .i64 p, .int .i64 q] w fun e w' => e = .returned (.int .i64 (alk ys p q)) ∧ Below w.heap.size w w' := by
  obtain ⟨b1, o1, rfl, hb1, hc1⟩ := hb.2 (by omega)
  have HC : Hid (∀ i, i < ys.length → w.cell? ⟨b1, o1 + i, none⟩ = some (.int .u8 (ys.getD i 0))) := hc1
  have HIS : Hid (∀ m, q + m ≤ ys.length → (∀ j, j < m → ys.getD (p + j) 0 = ys.getD (q + j) 0) → (q + m < ys.length → ys.getD (p + m) 0 ≠ ys.getD (q + m) 0) → alk ys p q = m) := fun m h1 h2 h3 => alk_is ys p q m h1 h2 h3
  have r0 := hH.c0
  have hRl := hH.lt
  clear hb hc1 hH
  generalize hL : ys.length = n at *
  have HL : Hid (ys.length = n ∧ True) := ⟨hL, trivial⟩
  clear hL
  go_enter Try.func16, Try.ntmps16
  go_wp2
  go_loopw [7] (fun mm W => ∃ m : Nat, q + m ≤ n ∧ mm = .int .i64 m ∧ (∀ j, j < m → ys.getD (p + j) 0 = ys.getD (q + j) 0) ∧ Below w.heap.size w W) (fun mm _ => n - (intOf mm).toNat)
  case atStart => exact ⟨0, by omega, rfl, fun j hj => by omega, Below.refl _ _⟩
  case round =>
    obtain ⟨m, hm, rfl, hal, hbel2⟩ := hrel
    have HM : Hid ((∀ j, j < m → ys.getD (p + j) 0 = ys.getD (q + j) 0) ∧ Below w.heap.size w wr) := ⟨hal, hbel2⟩
    have HBD : Hid (∀ nq, Below w.heap.size w (wr.drewN nq)) := fun nq => ⟨hbel2.os, hbel2.tape, hbel2.output, hbel2.size, hbel2.block⟩
    have r1 := keep hbel2 hRl r0
    have hRw : R < wr.heap.size := by have := hbel2.size; omega
    clear hal hbel2
    by_cases hlm : q + m < n
    · obtain ⟨qm, hqm⟩ : ∃ x : Nat, x = q + m := ⟨_, rfl⟩
      obtain ⟨pm, hpm⟩ : ∃ x : Nat, x = p + m := ⟨_, rfl⟩
      have c0 := keep HM.out.2 hb1 (HC.out qm (by omega))
      have c1 := keep HM.out.2 hb1 (HC.out pm (by omega))
      have hb1w : b1 < wr.heap.size := by have := HM.out.2.size; omega
      have hqi : (q : Int) + (m : Int) = (qm : Int) := by omega
      have hpi : (p : Int) + (m : Int) = (pm : Int) := by omega
      have hql : (qm : Int) < (n : Int) := by omega
      have hpl : (pm : Int) < (n : Int) := by omega
      have HQR : Hid (qm = q + m ∧ pm = p + m) := ⟨hqm, hpm⟩
      clear hqm hpm
      obtain ⟨z0, hz0⟩ : ∃ z, ys.getD qm 0 = z := ⟨_, rfl⟩
      obtain ⟨z1, hz1⟩ : ∃ z, ys.getD pm 0 = z := ⟨_, rfl⟩
      have HZ : Hid (ys.getD qm 0 = z0 ∧ ys.getD pm 0 = z1) := ⟨hz0, hz1⟩
      rw [hz0] at c0
      rw [hz1] at c1
      clear hz0 hz1
      by_cases he : z1 = z0
      · subst he
        have hd : (z1 == z1) = true := by simp
        have HN : Hid (∀ j, j < m + 1 → ys.getD (p + j) 0 = ys.getD (q + j) 0) := fun j hj => by
          rcases Nat.lt_or_ge j m with h | h
          · exact HM.out.1 j h
          · rw [show j = m by omega, ← HQR.out.1, ← HQR.out.2, HZ.out.1, HZ.out.2]
        go_wp2
        go_quiet (fail)
        go_wp2
        go_roundw
        case rel => exact ⟨m + 1, by omega, by go_num, HN.out, HBD.out _⟩
        case measure => simp [intOf]; omega
      · have hd : (z1 == z0) = false := by simp; exact he
        have HN : Hid (ys.getD (p + m) 0 ≠ ys.getD (q + m) 0) := by
          unfold Hid
          rw [← HQR.out.1, ← HQR.out.2, HZ.out.1, HZ.out.2]
          exact fun e => he e
        have HE : Hid (alk ys p q = m) := HIS.out m hm HM.out.1 (fun _ => HN.out)
        go_wp2
        go_quiet (fail)
        go_wp2
        go_ret
        exact ⟨by rw [HE.out]; rfl, HBD.out _⟩
    · have hql : ¬ (q : Int) + (m : Int) < (n : Int) := by omega
      have hd : decide ((q : Int) + (m : Int) < (n : Int)) = false := decide_eq_false hql
      have HE : Hid (alk ys p q = m) := HIS.out m hm HM.out.1 (fun h => absurd h hlm)
      go_wp2
      go_quiet (fail)
      go_wp2
      go_ret
      exact ⟨by rw [HE.out]; rfl, HBD.out _⟩
end Go.Proofs.Ytgppjlbocppjlaa
