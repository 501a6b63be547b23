/-
  What the model's BitsOpen answers.
-/
import Derived.Test.YtkojinmnmmbidaaOpen1
namespace Go.Proofs.Ytkojinmnmmbidaa
open Go.RowKit
set_option linter.unusedVariables false

theorem Mine.allocM {w : World} {B U : Nat} {a : Option Addr} {cap : Nat} {zs : List Int} (h : Mine w B U a cap zs) (o : Obj) : Mine (w.alloc o) B U a cap zs := h.below ((Below.refl w.heap.size w).alloc (Nat.le_refl _) o)
theorem Mine.setC {w : World} {B U : Nat} {a : Option Addr} {cap : Nat} {zs : List Int} (h : Mine w B U a cap zs) {p : Addr} (hp : p.block < B) (u : Value) : Mine (w.setCell p u) B U a cap zs :=
  h.only (Only.setCell (Only.refl (fun b => b = p.block) w) (.inl rfl) u) (fun b h1 _ => by omega)

theorem openY_len (zs : List Int) (L b t : Nat) (hL : zs.length = L + 1) : (openY zs L b t).length = (8 * L + b + 7) / 8 ∨ 8 ≤ b := by
  by_cases hb : b = 0
  · left
    rw [openY, if_pos hb, List.length_take, hL, hb]
    omega
  · by_cases h8 : b < 8
    · left
      rw [openY, if_neg hb, List.length_set, hL]
      omega
    · right; omega

theorem okB_open (zs : List Int) (L b t : Nat) (hL : zs.length = L + 1) (h1 : 2 ^ b ≤ t) (h2 : t < 2 ^ (b + 1)) (hb : b < 8) :
    okB ((8 * L + b : Nat) : Int) (openY zs L b t) = decide (8 * L + b ≤ 4096) := by
  have hlen : (openY zs L b t).length = (8 * L + b + 7) / 8 := (openY_len zs L b t hL).resolve_right (by omega)
  by_cases hn : 8 * L + b ≤ 4096
  · rw [decide_eq_true hn]
    by_cases hb0 : b = 0
    · subst hb0
      exact okB_full (by omega) (by omega) (by rw [hlen]; omega) (by omega)
    · rw [okB_last (by omega) (by omega) (by rw [hlen]; omega) (by omega), hlen]
      rw [show (8 * L + b + 7) / 8 - 1 = L from by omega, show (((8 * L + b : Nat) : Int) % 8).toNat = b from by omega]
      have hg : (openY zs L b t).getD L 0 = ((t - 2 ^ b : Nat) : Int) := by
        rw [openY, if_neg hb0]
        simp [hL]
      rw [hg]
      have hz : (t - 2 ^ b) / 2 ^ b = 0 := by
        rw [Nat.pow_succ] at h2
        exact Nat.div_eq_of_lt (by omega)
      have e : (((t - 2 ^ b : Nat) : Int) / 2 ^ b) = (((t - 2 ^ b) / 2 ^ b : Nat) : Int) := by
        have : ((2 : Int) ^ b) = ((2 ^ b : Nat) : Int) := by simp
        rw [this]; rfl
      rw [e, hz]
      rfl
  · rw [decide_eq_false hn]
    exact okB_big (by omega)

set_option maxHeartbeats 1600000 in
theorem l1open_no (a : Option Addr) (cap : Nat) (zs : List Int) (w : World) (hb : Byt w a zs) (hl : zs.length ≤ 1048576) (h : zs = [] ∨ zs.getD (zs.length - 1) 0 = 0) :
    Calls Try.prog 19 #[.slice a zs.length cap] w fun e w' => e = .returned (.tuple #[.agg #[.slice none 0 0, .int .i64 0], .bool false]) ∧ Below w.heap.size w w' := by
  have hw : Below w.heap.size w (w.alloc (Obj.cells #[Value.slice none 0 0, Value.int IntKind.i64 0] 27)) := (Below.refl _ _).alloc (Nat.le_refl _) _
  by_cases hp : 0 < zs.length
  · have h0 : zs.getD (zs.length - 1) 0 = 0 := by
      rcases h with rfl | h
      · simp at hp
      · exact h
    obtain ⟨ab, off, rfl, hbl, hc⟩ := hb.2 hp
    have hcl := hc (zs.length - 1) (by omega)
    rw [h0] at hcl
    have hlen0 : ((zs.length : Int) == 0) = false := by rw [beq_eq_false_iff_ne]; omega
    have hz : ((0 : Int) == 0) = true := rfl
    clear hc h h0
    go_enter Try.func19, Try.ntmps19
    go_wp2
    exact bodyPost_ret (v := .tuple #[.agg #[.slice none 0 0, .int .i64 0], .bool false]) (by simp [results, Try.results19, go_sem]) rfl ⟨rfl, by repeat (first | exact hw | refine Below.setCell ?_ (by simp) _)⟩
  · have hz : zs.length = 0 := by omega
    have hlen0 : ((0 : Int) == 0) = true := rfl
    rw [hz]
    clear h hz hp
    go_enter Try.func19, Try.ntmps19
    go_wp2
    exact bodyPost_ret (v := .tuple #[.agg #[.slice none 0 0, .int .i64 0], .bool false]) (by simp [results, Try.results19, go_sem]) rfl ⟨rfl, by repeat (first | exact hw | refine Below.setCell ?_ (by simp) _)⟩

set_option maxHeartbeats 1600000 in
theorem specOpen_of (a : Option Addr) (n cap : Nat) (ys : List Int) (M : Int) (ok : Bool) (w : World)
    (h : ∀ W : World, Below w.heap.size w W → w.heap.size < W.heap.size → Calls Try.prog 19 #[.slice a n cap] W fun e w' => ∃ a' cp, e = .returned (.tuple #[.agg #[.slice a' ys.length cp, .int .i64 M], .bool ok]) ∧ Mine w' W.heap.size w'.heap.size a' cp ys ∧ Below W.heap.size W w') :
    Calls Try.prog 10 #[.slice a n cap] w fun e w' => ∃ a' cp, e = .returned (.tuple #[.agg #[.slice a' (if ok then ys else []).length cp, .int .i64 (if ok then M else 0)], .bool ok]) ∧
      Mine w' w.heap.size w'.heap.size a' cp (if ok then ys else []) ∧ Below w.heap.size w w' := by
  have hw : Below w.heap.size w (w.alloc (Obj.cells #[Value.slice none 0 0, Value.int IntKind.i64 0] 27)) := (Below.refl _ _).alloc (Nat.le_refl _) _
  have HH : Hid _ := h
  clear h
  cases ok
  all_goals
    go_enter Try.func10, Try.ntmps10
    go_wp2_with fail
    refine (HH.out _ hw (by simp)).mono ?_
    rintro e w1 ⟨a', cp, rfl, hm, hb1⟩
    have z1 : w.heap.size < w1.heap.size := by have := hb1.size; simp at this; omega
    have r0 : w1.cell? ⟨w.heap.size, 0, none⟩ = some (.slice none 0 0) := keep hb1 (by simp) (by simp)
    have r1 : w1.cell? ⟨w.heap.size, 1, none⟩ = some (.int .i64 0) := keep hb1 (by simp) (by simp)
    have f0 : w1.frozen? ⟨w.heap.size, 0, none⟩ = false := keepF hb1 (by simp) (by simp)
    have f1 : w1.frozen? ⟨w.heap.size, 1, none⟩ = false := keepF hb1 (by simp) (by simp)
    have hbb := hw.trans (hb1.mono (by simp))
    have hm' : Mine w1 (w.heap.size + 1) w1.heap.size a' cp ys := by simpa using hm
    have HM : Hid (Mine w1 (w.heap.size + 1) w1.heap.size a' cp ys) := hm'
    have HBB : Hid (Below w.heap.size w w1) := hbb
    clear hb1 hm hm' hbb HH hw
    go_wp2
  · refine bodyPost_ret (v := .tuple #[.agg #[.slice none 0 0, .int .i64 0], .bool false]) (by simp [results, Try.results10, go_sem, r0, r1, z1]) rfl ⟨none, 0, rfl, .inl ⟨rfl, rfl, rfl⟩, ?_⟩
    have := HBB.out.alloc (Nat.le_of_lt z1) (Obj.cells #[Value.slice a' ys.length cp, Value.int IntKind.i64 M] 27)
    repeat (first | exact this | exact HBB.out | refine Below.alloc ?_ (by simp [World.setCell]; omega) _ | refine Below.setCell ?_ (by simp) _)
  · refine bodyPost_ret (v := .tuple #[.agg #[.slice a' ys.length cp, .int .i64 M], .bool true]) (by simp [results, Try.results10, go_sem, r0, r1, z1]) rfl ⟨a', cp, rfl, ?_, ?_⟩
    · refine Mine.mono (B := w.heap.size + 1) (U := w1.heap.size) ?_ (by omega) (by simp [World.setCell])
      repeat (first | exact HM.out | refine Mine.allocM ?_ _ | refine Mine.setC ?_ (by simp) _)
    · repeat (first | exact HBB.out | refine Below.alloc ?_ (by simp [World.setCell]; omega) _ | refine Below.setCell ?_ (by simp) _)
end Go.Proofs.Ytkojinmnmmbidaa
