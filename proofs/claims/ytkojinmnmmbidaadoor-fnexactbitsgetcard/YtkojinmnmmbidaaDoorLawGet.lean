/-
  The law on BitsGet returns true, whatever is handed in, where the two sentinels hold some error, and writes nothing that was there.
-/
import Derived.Test.YtkojinmnmmbidaaDoorGet1
import Derived.Test.YtkojinmnmmbidaaDoorGet2
import Derived.Test.YtkojinmnmmbidaaDoorSz
import Derived.Test.YtkojinmnmmbidaaDoorToB
import Derived.Test.YtkojinmnmmbidaaDoorEqB
import Derived.Deep.RegionWith
namespace Go.Proofs.YtkojinmnmmbidaaDoor
open Go.RowKit
set_option linter.unusedVariables false

/-- What BitsGet answers. -/
def getV (N p width : Int) (zs : List Int) : Int × Int :=
  if okB N zs = true ∧ 0 ≤ p ∧ 0 ≤ width ∧ width ≤ 30 ∧ p ≤ N - width then (((val zs / 2 ^ p.toNat % 2 ^ width.toNat : Nat) : Int), p + width) else (0, -1)

theorem specGet_any (a : Option Addr) (cap : Nat) (zs : List Int) (N p width : Int) (w : World) (hb : Byt w a zs) (hn : zs.length ≤ 281474976710656) :
    Calls Tryd.prog 31 #[.agg #[.slice a zs.length cap, .int .i64 N], .int .i64 p, .int .i64 width] w fun e w' => e = .returned (.tuple #[.int .i64 (getV N p width zs).1, .int .i64 (getV N p width zs).2]) ∧ Below w.heap.size w w' := by
  by_cases h : okB N zs = true ∧ 0 ≤ p ∧ 0 ≤ width ∧ width ≤ 30 ∧ p ≤ N - width
  · rw [getV, if_pos h]
    exact specGet_yes a cap zs N p width w hb h.1 h.2.1 h.2.2.1 h.2.2.2.1 h.2.2.2.2
  · rw [getV, if_neg h]
    refine specGet_no a cap zs N p width w hb hn ?_
    cases hO : okB N zs
    · exact .inl rfl
    · rw [hO] at h; simp at h; omega

theorem implGet_any (a : Option Addr) (cap : Nat) (zs : List Int) (N p width : Int) (w : World) (hb : Byt w a zs) (hn : zs.length ≤ 281474976710656) (pb : p ≤ 9223372036854775807) (s0 : Sent w 1) (s2 : Sent w 0) (hG : 1 < w.heap.size ∧ 0 < w.heap.size) :
    Calls Tryd.prog 13 #[.agg #[.slice a zs.length cap, .int .i64 N], .int .i64 p, .int .i64 width] w fun e w' => e = .returned (.tuple #[.int .i64 (getV N p width zs).1, .int .i64 (getV N p width zs).2]) ∧ Below w.heap.size w w' := by
  by_cases h : okB N zs = true ∧ 0 ≤ p ∧ 0 ≤ width ∧ width ≤ 30 ∧ p ≤ N - width
  · rw [getV, if_pos h]
    exact implGet_yes a cap zs N p width w hb h.1 h.2.1 h.2.2.1 h.2.2.2.1 h.2.2.2.2
  · rw [getV, if_neg h]
    refine implGet_no a cap zs N p width w hb hn pb s0 s2 hG ?_
    cases hO : okB N zs
    · exact .inl rfl
    · rw [hO] at h; simp at h; omega

set_option maxHeartbeats 1000000 in
theorem lawGet_any (a : Option Addr) (cap : Nat) (zs : List Int) (N p width : Int) (w : World) (hb : Byt w a zs) (hm : zs.length ≤ maxLen) (pb : p ≤ 9223372036854775807) (s0 : Sent w 1) (s2 : Sent w 0) (hG : 1 < w.heap.size ∧ 0 < w.heap.size) :
    Calls Tryd.prog 6 #[.agg #[.slice a zs.length cap, .int .i64 N], .int .i64 p, .int .i64 width] w fun e w' => e = .returned (.bool true) ∧ Below w.heap.size w w' := by
  have hw : Below w.heap.size w (w.alloc (Obj.cells #[Value.slice a zs.length cap, Value.int IntKind.i64 N] 44)) := (Below.refl _ _).alloc (Nat.le_refl _) _
  by_cases hn : zs.length ≤ 1048576
  · have hsz : (zs.length : Int) ≤ 1048576 := by omega
    go_enter Tryd.func6, Tryd.ntmps6
    go_wp2_with fail
    refine (szBits_any a zs.length cap N 1048576 _ hm (by omega) (by omega)).mono ?_
    rintro e w1 ⟨rfl, hb1⟩
    rw [if_pos hsz]
    have hbb1 := hw.trans (hb1.mono (by simp))
    have p0 : w1.cell? ⟨w.heap.size, 0, none⟩ = some (.slice a zs.length cap) := keep hb1 (by simp) (by simp)
    have p1 : w1.cell? ⟨w.heap.size, 1, none⟩ = some (.int .i64 N) := keep hb1 (by simp) (by simp)
    have z1 : w.heap.size < w1.heap.size := by have := hb1.size; simp at this; omega
    clear hb1
    go_wp2_with fail
    refine (toBits_any a cap zs N _ (hb.below hbb1 (Nat.le_refl _)) hn).mono ?_
    rintro e w2 ⟨g2, rfl, ho2, hb2⟩
    have z2 := hb2.size
    go_wp2_with fail
    refine (specGet_any _ _ zs N p width _ ho2.byt (by omega)).mono ?_
    rintro e w3 ⟨rfl, hb3⟩
    have z3 := hb3.size
    have hbb3 := hbb1.trans ((hb2.trans (hb3.mono z2)).mono (Nat.le_of_lt z1))
    have q0 : w3.cell? ⟨w.heap.size, 0, none⟩ = some (.slice a zs.length cap) := keep (hb2.trans (hb3.mono z2)) z1 p0
    have q1 : w3.cell? ⟨w.heap.size, 1, none⟩ = some (.int .i64 N) := keep (hb2.trans (hb3.mono z2)) z1 p1
    have y3 : w.heap.size < w3.heap.size := by omega
    clear hb2 hb3 ho2 p0 p1 z1 z2 z3 hbb1 hw
    generalize hO : getV N p width zs = O at *
    have HO : Hid (getV N p width zs = O) := hO
    clear hO
    obtain ⟨O1, O2⟩ := O
    go_wp2_with fail
    refine (toBits_any a cap zs N _ (hb.below hbb3 (Nat.le_refl _)) hn).mono ?_
    rintro e w4 ⟨g4, rfl, ho4, hb4⟩
    have r0 : w4.cell? ⟨w.heap.size, 0, none⟩ = some (.slice a zs.length cap) := keep hb4 y3 q0
    have r1 : w4.cell? ⟨w.heap.size, 1, none⟩ = some (.int .i64 N) := keep hb4 y3 q1
    have z4 := hb4.size
    have y4 : w.heap.size < w4.heap.size := by omega
    have hbb4 := hbb3.trans (hb4.mono (Nat.le_of_lt y3))
    clear q0 q1 hb4
    go_wp2_with fail
    have hbb4' := hbb4.alloc (Nat.le_of_lt y4) (Obj.cells #[Value.slice (some ⟨g4, 0, none⟩) zs.length zs.length, Value.int IntKind.i64 N] 24)
    refine (implGet_any _ _ zs N p width _ (ho4.alloc _).byt (by omega) pb (s0.below hbb4' (by omega)) (s2.below hbb4' (by omega)) (by simp; omega)).mono ?_
    rintro e w5 ⟨rfl, hb5⟩
    rw [HO.out]
    have t0 : w5.cell? ⟨w.heap.size, 0, none⟩ = some (.slice a zs.length cap) := keep hb5 (by simp; omega) (keepA _ y4 r0)
    have t1 : w5.cell? ⟨w.heap.size, 1, none⟩ = some (.int .i64 N) := keep hb5 (by simp; omega) (keepA _ y4 r1)
    have v0 : w5.cell? ⟨w4.heap.size, 0, none⟩ = some (.slice (some ⟨g4, 0, none⟩) zs.length zs.length) := keep hb5 (by simp) (by simp)
    have v1 : w5.cell? ⟨w4.heap.size, 1, none⟩ = some (.int .i64 N) := keep hb5 (by simp) (by simp)
    have ho5 := (ho4.alloc _).below hb5 (Nat.le_refl _)
    have z5 := hb5.size
    have y5 : w4.heap.size < w5.heap.size := by simp at z5; omega
    have hbb5 := hbb4'.trans (hb5.mono (by simp; omega))
    have y6 : w.heap.size < w5.heap.size := by omega
    clear r0 r1 hb5 z5 z4 ho4 hbb3 hbb4 hbb4' s0 s2
    have hO1 : (O1 != O1) = false := by simp
    have hO2 : (O2 != O2) = false := by simp
    go_wp2_with fail
    go_region_with (first
      | (go_at_call 27; refine (toBits_any a cap zs N _ (hb.below hbb5.drew (Nat.le_refl _)) hn).mono ?_; rintro e w6 ⟨g6, rfl, ho6, hb6'⟩; have hb6 := Below.drewS hb6'; have u0 : w6.cell? ⟨w4.heap.size, 0, none⟩ = some (.slice (some ⟨g4, 0, none⟩) zs.length zs.length) := keep hb6 (by exact y5) (by exact v0); have u1 : w6.cell? ⟨w4.heap.size, 1, none⟩ = some (.int .i64 N) := keep hb6 (by exact y5) (by exact v1); have ho5' := ho5.below hb6 (Nat.le_refl _); have hbb6 : Below w.heap.size w w6 := hbb5.trans (hb6.mono (by exact Nat.le_of_lt y6)))
      | (go_at_call 28; refine (eqBits_yes _ _ _ _ zs N _ (by exact ho5'.byt) (by exact ho6.byt) (by omega)).mono ?_; rintro e w7 ⟨rfl, hb7⟩; have hbb7 : Below w.heap.size w w7 := hbb6.trans (hb7.mono hbb6.size)))
    all_goals go_wp2
    all_goals go_ret
    all_goals exact ⟨rfl, by assumption⟩
  · have hsz : ¬ (zs.length : Int) ≤ 1048576 := by omega
    go_enter Tryd.func6, Tryd.ntmps6
    go_wp2_with fail
    refine (szBits_any a zs.length cap N 1048576 _ hm (by omega) (by omega)).mono ?_
    rintro e w1 ⟨rfl, hb1⟩
    rw [if_neg (by omega)]
    go_wp2
    go_ret
    exact ⟨rfl, hw.trans (hb1.mono (by simp))⟩
end Go.Proofs.YtkojinmnmmbidaaDoor
