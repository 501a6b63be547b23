/-
  Getting bits in the program: BitsGet.
-/
import Derived.Test.YtdhnlbekkicjcaaDoorOkI
import Derived.Test.YtdhnlbekkicjcaaDoorReader
namespace Go.Proofs.YtdhnlbekkicjcaaDoor
open Go.RowKit
set_option linter.unusedVariables false

set_option maxHeartbeats 1600000 in
theorem implGet_no (a : Option Addr) (cap : Nat) (zs : List Int) (N p width : Int) (w : World) (hb : Byt w a zs) (hl : zs.length ≤ 281474976710656) (pb : p ≤ 9223372036854775807) (s0 : Sent w 0) (s2 : Sent w 2) (hG : 0 < w.heap.size ∧ 2 < w.heap.size)
    (h : okB N zs = false ∨ p < 0 ∨ width < 0 ∨ 30 < width ∨ N - width < p) :
    Calls Tryd.prog 13 #[.agg #[.slice a zs.length cap, .int .i64 N], .int .i64 p, .int .i64 width] w fun e w' => e = .returned (.tuple #[.int .i64 0, .int .i64 (-1)]) ∧ Below w.heap.size w w' := by
  have hw : Below w.heap.size w (w.alloc (Obj.cells #[Value.slice a zs.length cap, Value.int IntKind.i64 N] 24)) := (Below.refl _ _).alloc (Nat.le_refl _) _
  by_cases hO : okB N zs = true
  · obtain ⟨n, rfl, hn1, -, -⟩ := okB_enc hO hb.1
    have h' : width < 0 ∨ 30 < width ∨ p < 0 ∨ (n : Int) - width < p := by
      rcases h with h | h
      · rw [hO] at h; cases h
      · omega
    have HH : Hid (width < 0 ∨ 30 < width ∨ p < 0 ∨ (n : Int) - width < p) := h'
    clear h h'
    have HO : Hid (okB (n : Int) zs = true) := hO
    clear hO
    obtain ⟨T0, x0, g0⟩ := s0
    obtain ⟨T2, x2, g2⟩ := s2
    go_enter Tryd.func13, Tryd.ntmps13
    go_wp2_with fail
    refine (implOk_any a cap zs _ _ (hb.below hw (Nat.le_refl _)) hl).mono ?_
    rintro e w1 ⟨rfl, hb1⟩
    rw [HO.out]
    have q0 : w1.cell? ⟨w.heap.size, 0, none⟩ = some (.slice a zs.length cap) := keep hb1 (by simp) (by simp)
    have q1 : w1.cell? ⟨w.heap.size, 1, none⟩ = some (.int .i64 n) := keep hb1 (by simp) (by simp)
    have e0 := keep hb1 (by simp <;> omega) (keepA (Obj.cells #[Value.slice a zs.length cap, Value.int IntKind.i64 n] 24) (by omega) g0)
    have e2 := keep hb1 (by simp <;> omega) (keepA (Obj.cells #[Value.slice a zs.length cap, Value.int IntKind.i64 n] 24) (by omega) g2)
    have z1 := hb1.size
    simp at z1
    have hbb := hw.trans (hb1.mono (by simp))
    clear hb1 g0 g2
    go_wp2_with fail
    refine (get_no w1.heap.size a cap zs n p width _ (by omega) pb (by simp) (by simp) (by simp) ⟨T0, x0, keepA _ (by omega) e0⟩ ⟨T2, x2, keepA _ (by omega) e2⟩ HH.out).mono ?_
    rintro e w2 ⟨⟨T, x, rfl⟩, m, rfl⟩
    go_wp2
    go_ret2
    exact ⟨rfl, below_drewN (hbb.alloc (by omega) _) _⟩
  · have hO' : okB N zs = false := by simpa using hO
    have HO : Hid (okB N zs = false) := hO'
    clear hO hO' h
    go_enter Tryd.func13, Tryd.ntmps13
    go_wp2_with fail
    refine (implOk_any a cap zs _ _ (hb.below hw (Nat.le_refl _)) hl).mono ?_
    rintro e w1 ⟨rfl, hb1⟩
    rw [HO.out]
    have hbb := hw.trans (hb1.mono (by simp))
    clear hb1
    go_wp2
    go_ret2
    exact ⟨rfl, hbb⟩

set_option maxHeartbeats 1600000 in
theorem implGet_yes (a : Option Addr) (cap : Nat) (zs : List Int) (N p width : Int) (w : World) (hb : Byt w a zs) (hO : okB N zs = true) (h0 : 0 ≤ p) (h1 : 0 ≤ width) (h2 : width ≤ 30) (h3 : p ≤ N - width) :
    Calls Tryd.prog 13 #[.agg #[.slice a zs.length cap, .int .i64 N], .int .i64 p, .int .i64 width] w fun e w' =>
      e = .returned (.tuple #[.int .i64 (val zs / 2 ^ p.toNat % 2 ^ width.toNat : Nat), .int .i64 (p + width)]) ∧ Below w.heap.size w w' := by
  have hw : Below w.heap.size w (w.alloc (Obj.cells #[Value.slice a zs.length cap, Value.int IntKind.i64 N] 24)) := (Below.refl _ _).alloc (Nat.le_refl _) _
  obtain ⟨n, rfl, hn1, he, hv⟩ := okB_enc hO hb.1
  have hl : zs.length ≤ 281474976710656 := by rw [he, enc_len]; omega
  have HO : Hid (okB (n : Int) zs = true) := hO
  have HE : Hid (zs = enc n (val zs)) := he
  clear hO he hv
  generalize hV : val zs = V at *
  clear hV
  go_enter Tryd.func13, Tryd.ntmps13
  go_wp2_with fail
  refine (implOk_any a cap zs _ _ (hb.below hw (Nat.le_refl _)) hl).mono ?_
  rintro e w1 ⟨rfl, hb1⟩
  rw [HO.out]
  have q0 : w1.cell? ⟨w.heap.size, 0, none⟩ = some (.slice a zs.length cap) := keep hb1 (by simp) (by simp)
  have q1 : w1.cell? ⟨w.heap.size, 1, none⟩ = some (.int .i64 n) := keep hb1 (by simp) (by simp)
  have z1 := hb1.size
  simp at z1
  have hbb := hw.trans (hb1.mono (by simp))
  clear hb1
  go_wp2_with fail
  refine (get_yes w1.heap.size a cap zs n V p width _ (by omega) (hb.below (hbb.alloc (by omega) _) (Nat.le_refl _)) HE.out (by simp) (by simp) (by simp) (by simp) h1 h2 h0 h3).mono ?_
  rintro e w2 ⟨rfl, m, rfl⟩
  go_wp2
  go_quiet (fail)
  go_wp2
  go_ret2
  exact ⟨rfl, below_drewN (Below.setCell (below_drewN (hbb.alloc (by omega) _) _) (by simp; omega) _) _⟩

end Go.Proofs.YtdhnlbekkicjcaaDoor
