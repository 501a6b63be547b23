/-
  Rows of parcels; which of two is less.
-/
import Derived.Test.YtkjebacpmmfflaaDoorPcA
import Derived.Deep.RegionHeld3
namespace Go.Proofs.YtkjebacpmmfflaaDoor
open Go.RowKit
set_option linter.unusedVariables false
set_option linter.unusedSimpArgs false

def dpc : Pc := .coin 0 0
/-- The slice at a has the parcels ps. -/
def Pcs (w : World) (a : Option Addr) (ps : List Pc) : Prop :=
  0 < ps.length → ∃ b off, a = some ⟨b, off, none⟩ ∧ b < w.heap.size ∧ ∀ i, i < ps.length → w.cell? ⟨b, off + i, none⟩ = some (ps.getD i dpc).vl
theorem Pcs.below {w w' : World} {a : Option Addr} {ps : List Pc} (h : Pcs w a ps) (hb : Below w.heap.size w w') : Pcs w' a ps := fun h0 => by
  obtain ⟨b, o, e, hl, hc⟩ := h h0
  exact ⟨b, o, e, Nat.lt_of_lt_of_le hl hb.size, fun i hi => keep hb hl (hc i hi)⟩

def orZ (x y : Int) : Int := if x = 0 then y else x
set_option maxHeartbeats 2000000 in
theorem or_any (g : Nat) (x y : Int) (w : World) (hx : w.cell? ⟨g, 0, none⟩ = some (.int .i64 x)) (hy : w.cell? ⟨g, 1, none⟩ = some (.int .i64 y)) :
    Calls Tryd.prog 104 #[.slice (some ⟨g, 0, none⟩) 2 2] w fun e w' => e = .returned (.int .i64 (orZ x y)) ∧ w' = w := by
  unfold orZ
  by_cases h0 : x = 0
  · rw [if_pos h0]
    have d0 : (x != 0) = false := by simp [h0]
    by_cases h1 : y = 0
    · have d1 : (y != 0) = false := by simp [h1]
      go_enter Tryd.func104, Tryd.ntmps104
      go_wp2
      refine wp_loop_rounds 3 ?_
      rw [rounds_succ]
      go_wp2
      rw [rounds_succ]
      go_wp2
      rw [rounds_succ]
      go_wp2
      go_ret
      exact ⟨by rw [h1]; rfl, rfl⟩
    · have d1 : (y != 0) = true := by simp [h1]
      go_enter Tryd.func104, Tryd.ntmps104
      go_wp2
      refine wp_loop_rounds 2 ?_
      rw [rounds_succ]
      go_wp2
      rw [rounds_succ]
      go_wp2
      go_ret
      exact ⟨rfl, rfl⟩
  · rw [if_neg h0]
    have d0 : (x != 0) = true := by simp [h0]
    go_enter Tryd.func104, Tryd.ntmps104
    go_wp2
    refine wp_loop_rounds 1 ?_
    rw [rounds_succ]
    go_wp2
    go_ret
    exact ⟨rfl, rfl⟩

theorem key_lt (p q : Pc) (hp : p.fine) (hq : q.fine) : decide (orZ (cmp3 p.wt q.wt) (cmp3 p.plc q.plc) < 0) = decide (p.key < q.key) := by
  obtain ⟨h1, h2⟩ := hp
  obtain ⟨h3, h4⟩ := hq
  unfold Pc.key orZ cmp3
  congr 1
  apply propext
  repeat' split
  all_goals omega
end Go.Proofs.YtkjebacpmmfflaaDoor
