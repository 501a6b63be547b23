/-
  NormGet of the program.
-/
import Derived.Test.YtfhcaoabohmkkaaDoorNGet2
import Derived.Test.YtfhcaoabohmkkaaDoorOkI
namespace Go.Proofs.YtfhcaoabohmkkaaDoor
open Go.RowKit
set_option linter.unusedVariables false

def getArgs (N p s : Int) (zs : List Int) : Prop := okB N zs = true ∧ 0 ≤ p ∧ p ≤ N ∧ 1 ≤ s ∧ s ≤ 80

set_option maxHeartbeats 1600000 in
theorem implNormGet_no (a : Option Addr) (cap : Nat) (zs : List Int) (N p s : Int) (w : World) (hb : Byt w a zs) (hl : zs.length ≤ 281474976710656) (h : ¬ getArgs N p s zs) :
    Calls Tryd.prog 18 #[.agg #[.slice a zs.length cap, .int .i64 N], .int .i64 p, .int .i64 s] w fun e w' =>
      e = .returned (.tuple #[.slice none 0 0, .int .i64 (-1), .bool false]) ∧ Below w.heap.size w w' := by
  have hw : Below w.heap.size w (w.alloc (Obj.cells #[Value.slice a zs.length cap, Value.int IntKind.i64 N] 27)) := (Below.refl _ _).alloc (Nat.le_refl _) _
  have key : okB N zs = false ∨ (okB N zs = true ∧ p < 0) ∨ (okB N zs = true ∧ 0 ≤ p ∧ N < p) ∨ (okB N zs = true ∧ 0 ≤ p ∧ p ≤ N ∧ s < 1) ∨ (okB N zs = true ∧ 0 ≤ p ∧ p ≤ N ∧ 1 ≤ s ∧ 80 < s) := by
    cases hO : okB N zs with
    | false => exact .inl rfl
    | true =>
      right
      unfold getArgs at h
      rw [hO] at h
      simp only [true_and] at h ⊢
      omega
  clear h
  rcases key with hO | ⟨hO, g1⟩ | ⟨hO, g1, g2⟩ | ⟨hO, g1, g2, g3⟩ | ⟨hO, g1, g2, g3, g4⟩
  all_goals
    have HO : Hid _ := hO
    clear hO
    go_enter Tryd.func18, Tryd.ntmps18
    go_wp2_with fail
    refine (implOk_any a cap zs _ _ (hb.below hw (Nat.le_refl _)) hl).mono ?_
    rintro e w1 ⟨rfl, hb1⟩
    rw [HO.out]
    have q1 : w1.cell? ⟨w.heap.size, 1, none⟩ = some (.int .i64 N) := keep hb1 (by simp) (by simp)
    have hbb := hw.trans (hb1.mono (by simp))
    clear hb1
    go_wp2
    exact bodyPost_ret (v := .tuple #[.slice none 0 0, .int .i64 (-1), .bool false]) (by simp [results, Tryd.results18, go_sem]) rfl ⟨rfl, hbb⟩

set_option maxHeartbeats 1600000 in
theorem implNormGet_ok (a : Option Addr) (cap : Nat) (zs : List Int) (n p s : Nat) (w : World) (hb : Byt w a zs) (hO : okB (n : Int) zs = true) (hz : zs = enc n (val zs)) (hn : n ≤ 4096) (hp : p ≤ n) (hs1 : 1 ≤ s) (hs : s ≤ 80)
    (s0 : Sent w 2) (s1 : Sent w 4) (s2 : Sent w 0) (hG : 2 < w.heap.size ∧ 4 < w.heap.size ∧ 0 < w.heap.size) :
    Calls Tryd.prog 18 #[.agg #[.slice a zs.length cap, .int .i64 n], .int .i64 p, .int .i64 s] w fun e w' => Below w.heap.size w w' ∧
      (gotN n (val zs) p s → ∃ g, e = .returned (.tuple #[.slice (some ⟨g, 0, none⟩) s s, .int .i64 ((gL (val zs) p s).2 : Nat), .bool true]) ∧ OwI w' w.heap.size g s (gXs (val zs) p s)) ∧
      (¬ gotN n (val zs) p s → e = .returned (.tuple #[.slice none 0 0, .int .i64 (-1), .bool false])) := by
  have hw : Below w.heap.size w (w.alloc (Obj.cells #[Value.slice a zs.length cap, Value.int IntKind.i64 n] 27)) := (Below.refl _ _).alloc (Nat.le_refl _) _
  have hl : zs.length ≤ 281474976710656 := by rw [hz, enc_len]; omega
  have HO : Hid (okB (n : Int) zs = true) := hO
  have HZ : Hid (zs = enc n (val zs)) := hz
  clear hO hz
  generalize hV : val zs = V at *
  clear hV
  go_enter Tryd.func18, Tryd.ntmps18
  go_wp2_with fail
  refine (implOk_any a cap zs _ _ (hb.below hw (Nat.le_refl _)) hl).mono ?_
  rintro e w1 ⟨rfl, hb1⟩
  rw [HO.out]
  have q0 : w1.cell? ⟨w.heap.size, 0, none⟩ = some (.slice a zs.length cap) := keep hb1 (by simp) (by simp)
  have q1 : w1.cell? ⟨w.heap.size, 1, none⟩ = some (.int .i64 n) := keep hb1 (by simp) (by simp)
  have hbb := hw.trans (hb1.mono (by simp))
  have hsz := hbb.size
  clear hb1 hw
  go_wp2_with fail
  have hRD : RD (w1.alloc (Obj.cells #[Value.slice a zs.length cap, Value.int IntKind.i64 n, Value.int IntKind.i64 p] 64)) w1.heap.size w1.heap.size a zs.length cap n p := ⟨heap_alloc_new w1 _, Nat.le_refl _, by simp⟩
  refine (getNorm_any w1.heap.size w1.heap.size a cap zs n V p s w1 _ (hb.below hbb (Nat.le_refl _)) rfl ((Below.refl _ _).alloc (Nat.le_refl _) _) HZ.out hn hRD hp hs (s0.below hbb (by omega)) (s1.below hbb (by omega)) (s2.below hbb (by omega)) (by omega)).mono ?_
  rintro e w2 ⟨hb2, hy, hno⟩
  have HB2 : Hid (Below w.heap.size w w2) := hbb.trans (hb2.mono hbb.size)
  clear hb2 hbb q0 q1
  by_cases hg : gotN n V p s
  · obtain ⟨rfl, ho, hrd⟩ := hy hg
    have HA : Hid (OwI w2 w.heap.size (w1.alloc (Obj.cells #[Value.slice a zs.length cap, Value.int IntKind.i64 n, Value.int IntKind.i64 p] 64)).heap.size s (gXs V p s)) := ho.mono hsz
    have HY : Hid (gotN n V p s) := hg
    have c2 := cellRR (j := 2) hrd.1 rfl
    generalize (w1.alloc (Obj.cells #[Value.slice a zs.length cap, Value.int IntKind.i64 n, Value.int IntKind.i64 p] 64)).heap.size = g at *
    clear ho hy hno hsz hg hrd hRD
    go_wp2
    go_quiet (fail)
    go_wp2
    exact bodyPost_ret (v := .tuple #[.slice (some ⟨g, 0, none⟩) s s, .int .i64 ((gL V p s).2 : Nat), .bool true]) (by simp [results, Tryd.results18, go_sem]) rfl ⟨below_dQ HB2.out _, fun _ => ⟨_, rfl, HA.out.drewN _⟩, fun h => absurd HY.out h⟩
  · obtain ⟨T, y, v, rfl⟩ := hno hg
    have HN : Hid (¬ gotN n V p s) := hg
    clear hy hno hsz hg hRD
    go_wp2
    exact bodyPost_ret (v := .tuple #[.slice none 0 0, .int .i64 (-1), .bool false]) (by simp [results, Tryd.results18, go_sem]) rfl ⟨HB2.out, fun h => absurd h HN.out, fun _ => rfl⟩
end Go.Proofs.YtfhcaoabohmkkaaDoor
