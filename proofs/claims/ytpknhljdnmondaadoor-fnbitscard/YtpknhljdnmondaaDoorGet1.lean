/-
  What the model's BitsGet answers.
-/
import Derived.Test.YtpknhljdnmondaaDoorOkS
import Derived.Test.YtpknhljdnmondaaDoorGetL
namespace Go.Proofs.YtpknhljdnmondaaDoor
open Go.RowKit
set_option linter.unusedVariables false

set_option maxHeartbeats 800000 in
theorem specGet_no (a : Option Addr) (cap : Nat) (zs : List Int) (N p width : Int) (w : World) (hb : Byt w a zs) (hn : zs.length ≤ 281474976710656)
    (h : okB N zs = false ∨ p < 0 ∨ width < 0 ∨ 30 < width ∨ N - width < p) :
    Calls Tryd.prog 31 #[.agg #[.slice a zs.length cap, .int .i64 N], .int .i64 p, .int .i64 width] w fun e w' => e = .returned (.tuple #[.int .i64 0, .int .i64 (-1)]) ∧ Below w.heap.size w w' := by
  have hw : Below w.heap.size w (w.alloc (Obj.cells #[Value.slice a zs.length cap, Value.int IntKind.i64 N] 24)) := (Below.refl _ _).alloc (Nat.le_refl _) _
  by_cases hO : okB N zs = true
  · obtain ⟨n, rfl, hn1, -, -⟩ := okB_enc hO hb.1
    have h' : p < 0 ∨ width < 0 ∨ 30 < width ∨ (n : Int) - width < p := by
      rcases h with h | h
      · rw [hO] at h; cases h
      · exact h
    clear h
    have HO : Hid (okB (n : Int) zs = true) := hO
    clear hO
    have key : (p < 0) ∨ (0 ≤ p ∧ width < 0) ∨ (0 ≤ p ∧ 0 ≤ width ∧ 30 < width) ∨ (0 ≤ p ∧ 0 ≤ width ∧ width ≤ 30 ∧ (n : Int) - width < p) := by omega
    clear h'
    rcases key with g1 | ⟨g1, g2⟩ | ⟨g1, g2, g3⟩ | ⟨g1, g2, g3, g4⟩
    all_goals
      go_enter Tryd.func31, Tryd.ntmps31
      go_wp2_with fail
      refine (specOk_any a cap zs _ _ (hb.below hw (Nat.le_refl _)) hn).mono ?_
      rintro e w1 ⟨rfl, hb1⟩
      rw [HO.out]
      have q0 : w1.cell? ⟨w.heap.size, 0, none⟩ = some (.slice a zs.length cap) := keep hb1 (by simp) (by simp)
      have q1 : w1.cell? ⟨w.heap.size, 1, none⟩ = some (.int .i64 n) := keep hb1 (by simp) (by simp)
      have z1 := hb1.size
      simp at z1
      have hbb := hw.trans (hb1.mono (by simp))
      clear hb1
      go_wp2
      go_ret2
      exact ⟨rfl, hbb⟩
  · have hO' : okB N zs = false := by simpa using hO
    have HO : Hid (okB N zs = false) := hO'
    clear hO hO' h
    go_enter Tryd.func31, Tryd.ntmps31
    go_wp2_with fail
    refine (specOk_any a cap zs _ _ (hb.below hw (Nat.le_refl _)) hn).mono ?_
    rintro e w1 ⟨rfl, hb1⟩
    rw [HO.out]
    have hbb := hw.trans (hb1.mono (by simp))
    clear hb1
    go_wp2
    go_ret2
    exact ⟨rfl, hbb⟩

set_option maxHeartbeats 800000 in
theorem specGet_yes (a : Option Addr) (cap : Nat) (zs : List Int) (N p width : Int) (w : World) (hb : Byt w a zs) (hO : okB N zs = true) (h0 : 0 ≤ p) (h1 : 0 ≤ width) (h2 : width ≤ 30) (h3 : p ≤ N - width) :
    Calls Tryd.prog 31 #[.agg #[.slice a zs.length cap, .int .i64 N], .int .i64 p, .int .i64 width] w fun e w' =>
      e = .returned (.tuple #[.int .i64 (val zs / 2 ^ p.toNat % 2 ^ width.toNat : Nat), .int .i64 (p + width)]) ∧ Below w.heap.size w w' := by
  have hw : Below w.heap.size w (w.alloc (Obj.cells #[Value.slice a zs.length cap, Value.int IntKind.i64 N] 24)) := (Below.refl _ _).alloc (Nat.le_refl _) _
  obtain ⟨n, rfl, hn1, he, hv⟩ := okB_enc hO hb.1
  have hl : zs.length ≤ 281474976710656 := by rw [he, enc_len]; omega
  have HO : Hid (okB (n : Int) zs = true) := hO
  have HE : Hid (zs = enc n (val zs)) := he
  clear hO he hv
  generalize hV : val zs = V at *
  clear hV
  go_enter Tryd.func31, Tryd.ntmps31
  go_wp2_with fail
  refine (specOk_any a cap zs _ _ (hb.below hw (Nat.le_refl _)) hl).mono ?_
  rintro e w1 ⟨rfl, hb1⟩
  rw [HO.out]
  have q0 : w1.cell? ⟨w.heap.size, 0, none⟩ = some (.slice a zs.length cap) := keep hb1 (by simp) (by simp)
  have q1 : w1.cell? ⟨w.heap.size, 1, none⟩ = some (.int .i64 n) := keep hb1 (by simp) (by simp)
  have z1 := hb1.size
  simp at z1
  have hbb := hw.trans (hb1.mono (by simp))
  clear hb1 hw
  go_wp2_with fail
  refine (l1get_any a cap zs _ p width n V _ (hb.below hbb (Nat.le_refl _)) HE.out (by omega) h0 h1 h2 (by omega)).mono ?_
  rintro e w2 ⟨rfl, hb2⟩
  have hbb2 := hbb.trans (hb2.mono (by omega))
  clear hb2
  go_wp2
  go_ret2
  exact ⟨rfl, hbb2⟩

end Go.Proofs.YtpknhljdnmondaaDoor
