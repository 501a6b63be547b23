/-
  What writing marks into a row of bytes does, and that they are found again; what stays while only some blocks are written.
-/
import Derived.Test.YtfgimfiepoiifahDoorBits1
namespace Go.Proofs.YtfgimfiepoiifahDoor
open Go.RowKit
set_option linter.unusedVariables false

/-- From w to w' no block that was there has turned but those in S. -/
structure Only (S : Nat → Prop) (w w' : World) : Prop where
  os : w'.os = w.os
  tape : w'.tape = w.tape
  output : w'.output = w.output
  size : w.heap.size ≤ w'.heap.size
  block : ∀ k, k < w.heap.size → ¬ S k → w'.heap[k]? = w.heap[k]?

theorem Only.refl (S : Nat → Prop) (w : World) : Only S w w := ⟨rfl, rfl, rfl, Nat.le_refl _, fun _ _ _ => rfl⟩
theorem Only.trans {S : Nat → Prop} {a b c : World} (h : Only S a b) (k : Only S b c) : Only S a c :=
  ⟨k.os.trans h.os, k.tape.trans h.tape, k.output.trans h.output, Nat.le_trans h.size k.size, fun i hi hs => (k.block i (Nat.lt_of_lt_of_le hi h.size) hs).trans (h.block i hi hs)⟩
theorem Only.mono {S T : Nat → Prop} {a b : World} (h : Only S a b) (hs : ∀ k, k < a.heap.size → S k → T k) : Only T a b :=
  ⟨h.os, h.tape, h.output, h.size, fun i hi ht => h.block i hi (fun hh => ht (hs i hi hh))⟩
theorem Only.ofBelow {S : Nat → Prop} {B : Nat} {a b : World} (h : Below B a b) (hB : a.heap.size ≤ B) : Only S a b := ⟨h.os, h.tape, h.output, h.size, fun i hi _ => h.block i (by omega)⟩
theorem Only.below {S : Nat → Prop} {B : Nat} {a b : World} (h : Only S a b) (hB : B ≤ a.heap.size) (hs : ∀ k, S k → B ≤ k) : Below B a b :=
  ⟨h.os, h.tape, h.output, h.size, fun k hk => h.block k (by omega) (fun hh => by have := hs k hh; omega)⟩
theorem Only.alloc {S : Nat → Prop} {a b : World} (h : Only S a b) (o : Obj) : Only S a (b.alloc o) :=
  ⟨h.os, h.tape, h.output, by have := h.size; simp; omega, fun i hi hs => (Below.heap_alloc _ _ _ (by have := h.size; omega)).trans (h.block i hi hs)⟩
theorem Only.drewN {S : Nat → Prop} {a b : World} (h : Only S a b) (n : Nat) : Only S a (b.drewN n) := ⟨h.os, h.tape, h.output, h.size, h.block⟩
theorem Only.drew {S : Nat → Prop} {a b : World} (h : Only S a b) : Only S a b.drew := ⟨h.os, h.tape, h.output, h.size, h.block⟩
theorem Only.setCell {S : Nat → Prop} {a b : World} (h : Only S a b) {p : Addr} (hp : S p.block ∨ a.heap.size ≤ p.block) (u : Value) : Only S a (b.setCell p u) := by
  refine ⟨h.os, h.tape, h.output, by have := h.size; simp [World.setCell]; omega, fun i hi hs => ?_⟩
  have hne : i ≠ p.block := by
    rintro rfl
    rcases hp with hp | hp
    · exact hs hp
    · omega
  exact (Below.heap_setCell _ _ _ _ hne).trans (h.block i hi hs)
theorem Only.grown {S : Nat → Prop} {a b c : World} {row : Option Nat} (h : Only S a b) (hg : b.grownBy c row) (hr : ∀ k, row = some k → S k ∨ a.heap.size ≤ k) : Only S a c :=
  ⟨hg.os.trans h.os, hg.tape.trans h.tape, hg.output.trans h.output, Nat.le_trans h.size hg.size, fun i hi hs => (hg.block i (Nat.lt_of_lt_of_le hi h.size) (fun e => by
    rcases hr i e.symm with hh | hh
    · exact hs hh
    · omega)).trans (h.block i hi hs)⟩
theorem Only.cell {S : Nat → Prop} {w w' : World} (h : Only S w w') {b o : Nat} {v : Value} (hb : b < w.heap.size) (hs : ¬ S b) (hc : w.cell? ⟨b, o, none⟩ = some v) : w'.cell? ⟨b, o, none⟩ = some v :=
  (World.cell?_of_block (w := w) (a := ⟨b, o, none⟩) (h.block b hb hs)).trans hc
theorem Own.only {S : Nat → Prop} {w w' : World} {B g cap : Nat} {zs : List Int} (h : Own w B g cap zs) (ho : Only S w w') (hs : ¬ S g) : Own w' B g cap zs := by
  refine ⟨⟨h.1.1, ?_⟩, h.2⟩
  have hlt := h.lt.2
  rcases h.1.2 with ⟨h', _⟩ | ⟨g', cap', cur, h', hg, hh, r⟩
  · simp at h'
  · have e : g' = g := by simp at h'; exact h'.1.symm
    subst e
    exact .inr ⟨g', cap', cur, h', hg, by rw [ho.block g' hlt hs]; exact hh, r⟩

/-- The bytes of an answer: nothing, or a row of its own between two blocks. -/
def Mine (w : World) (B U : Nat) (a : Option Addr) (cap : Nat) (zs : List Int) : Prop :=
  (a = none ∧ zs = [] ∧ cap = 0) ∨ ∃ g, a = some ⟨g, 0, none⟩ ∧ B ≤ g ∧ g < U ∧ Own w B g cap zs

theorem Mine.byt {w : World} {B U : Nat} {a : Option Addr} {cap : Nat} {zs : List Int} (h : Mine w B U a cap zs) : Byt w a zs := by
  rcases h with ⟨rfl, rfl, rfl⟩ | ⟨g, rfl, _, _, h⟩
  · exact ⟨by simp, by simp⟩
  · exact h.byt
theorem Mine.only {S : Nat → Prop} {w w' : World} {B U : Nat} {a : Option Addr} {cap : Nat} {zs : List Int} (h : Mine w B U a cap zs) (ho : Only S w w') (hs : ∀ k, B ≤ k → k < U → ¬ S k) : Mine w' B U a cap zs := by
  rcases h with h | ⟨g, rfl, h1, h2, h⟩
  · exact .inl h
  · exact .inr ⟨g, rfl, h1, h2, h.only ho (hs g h1 h2)⟩
theorem Mine.below {w w' : World} {B U : Nat} {a : Option Addr} {cap : Nat} {zs : List Int} (h : Mine w B U a cap zs) (ho : Below w.heap.size w w') : Mine w' B U a cap zs := h.only (Only.ofBelow (S := fun _ => False) ho (Nat.le_refl _)) (by simp)
theorem Mine.mono {w : World} {B U B' U' : Nat} {a : Option Addr} {cap : Nat} {zs : List Int} (h : Mine w B U a cap zs) (h1 : B' ≤ B) (h2 : U ≤ U') : Mine w B' U' a cap zs := by
  rcases h with h | ⟨g, rfl, g1, g2, h⟩
  · exact .inl h
  · exact .inr ⟨g, rfl, by omega, by omega, h.mono h1⟩
theorem Own.mine {w : World} {B g cap : Nat} {zs : List Int} (h : Own w B g cap zs) : Mine w B w.heap.size (some ⟨g, 0, none⟩) cap zs := .inr ⟨g, rfl, h.lt.1, h.lt.2, h⟩

/-- Marks from k on. -/
def marks (k : Int) : Nat → List Int
  | 0 => []
  | n + 1 => marks k n ++ [(k + n) % 256]
theorem marks_len (k : Int) (n : Nat) : (marks k n).length = n := by
  induction n with
  | zero => rfl
  | succ n ih => simp [marks, ih]
theorem marks_rng (k : Int) (n : Nat) : ∀ z ∈ marks k n, 0 ≤ z ∧ z ≤ 255 := by
  induction n with
  | zero => intro z hz; cases hz
  | succ n ih =>
    intro z hz
    simp only [marks, List.mem_append, List.mem_singleton] at hz
    rcases hz with hz | rfl
    · exact ih z hz
    · omega
theorem marks_get (k : Int) (n i : Nat) (h : i < n) : (marks k n).getD i 0 = (k + i) % 256 := by
  induction n with
  | zero => omega
  | succ n ih =>
    simp only [marks, List.getD_eq_getElem?_getD, List.getElem?_append, marks_len]
    by_cases hi : i < n
    · rw [if_pos hi, ← List.getD_eq_getElem?_getD]; exact ih hi
    · have : i = n := by omega
      subst this
      simp
theorem marks_step (k : Int) (zs : List Int) (j : Nat) (h : j < zs.length) : (marks k j ++ zs.drop j).set j ((k + j) % 256) = marks k (j + 1) ++ zs.drop (j + 1) := by
  rw [List.set_append_right _ _ (by rw [marks_len]; exact Nat.le_refl _), marks_len, Nat.sub_self, List.drop_eq_getElem_cons h, List.set_cons_zero]
  simp [marks]

theorem wrap_u8_mod (k : Int) : IntKind.u8.wrap k = k % 256 := by simp [IntKind.wrap, IntKind.bits, IntKind.signed]

set_option maxHeartbeats 400000 in
theorem markByteS_own (B g cap : Nat) (zs : List Int) (k : Int) (w : World) (h : Own w B g cap zs) (hn : zs.length ≤ 2097152) (h0 : 0 ≤ k) (h1 : k ≤ 2097152) :
    Calls Tryd.prog 15 #[.slice (some ⟨g, 0, none⟩) zs.length cap, .int .i64 k] w fun e w' => e = .returned (.int .i64 (k + zs.length)) ∧ Own w' B g cap (marks k zs.length) ∧ Only (· = g) w w' := by
  generalize hlen : zs.length = n at *
  have HL : Hid (zs.length = n) := hlen
  clear hlen
  have HO : Hid (Own w B g cap zs) := h
  clear h
  go_enter Tryd.func15, Tryd.ntmps15
  go_wp2
  go_loopw [1, 5] (fun q i wr => ∃ j : Nat, j ≤ n ∧ i = .int .i64 j ∧ q = .int .i64 (k + j) ∧ Own wr B g cap (marks k j ++ zs.drop j) ∧ Only (· = g) w wr) (fun _ i _ => n - (intOf i).toNat)
  case atStart => exact ⟨0, Nat.zero_le _, rfl, by simp, by simpa [marks] using HO.out, Only.refl _ _⟩
  case round =>
    obtain ⟨j, hj, rfl, rfl, hown, honly⟩ := hrel
    by_cases hlt : j < n
    · have hl : (marks k j ++ zs.drop j).length = n := by rw [List.length_append, marks_len, List.length_drop, HL.out]; omega
      have hdst := hown.cell j (by omega)
      have hfz := hown.frozen j
      have R := hown.store j ((k + j) % 256) (by omega)
      rw [marks_step k zs j (by rw [HL.out]; exact hlt)] at R
      have HR : Hid (Own (wr.setCell ⟨g, j, none⟩ (.int .u8 ((k + j) % 256))) B g cap (marks k (j + 1) ++ zs.drop (j + 1))) := R
      have HB : Hid (Only (· = g) w (wr.setCell ⟨g, j, none⟩ (.int .u8 ((k + j) % 256)))) := honly.setCell (.inl rfl) _
      generalize (marks k j ++ zs.drop j).getD j 0 = old at *
      clear R hown honly hl
      go_wp2
      go_roundw
      case rel => exact ⟨j + 1, by omega, by go_num, by go_num, HR.out, HB.out⟩
      case measure => simp [intOf]; omega
    · have hjn : j = n := by omega
      subst hjn
      have hown' := hown
      rw [List.drop_of_length_le (by rw [HL.out]; exact Nat.le_refl _), List.append_nil] at hown'
      have HF : Hid (Own wr B g cap (marks k j)) := hown'
      clear hown hown'
      go_wp2
      go_ret
      exact ⟨rfl, HF.out, honly⟩

set_option maxHeartbeats 400000 in
theorem heldByteS_any (a : Option Addr) (cap n : Nat) (k : Int) (w : World) (h : Byt w a (marks k n)) (hn : n ≤ 2097152) (h0 : 0 ≤ k) (h1 : k ≤ 2097152) :
    Calls Tryd.prog 16 #[.slice a n cap, .int .i64 k] w fun e w' => e = .returned (.int .i64 (k + n)) ∧ w' = w := by
  have hl := marks_len k n
  have HB : Hid (Byt w a (marks k n)) := h
  clear h
  go_enter Tryd.func16, Tryd.ntmps16
  go_wp2
  go_loop [1, 5] (fun q i => ∃ j : Nat, j ≤ n ∧ i = .int .i64 j ∧ q = .int .i64 (k + j)) (fun _ i => n - (intOf i).toNat)
  case atStart => exact ⟨0, Nat.zero_le _, rfl, by simp⟩
  case round =>
    obtain ⟨j, hj, rfl, rfl⟩ := hrel
    by_cases hlt : j < n
    · obtain ⟨b, off, rfl, hbl, hc⟩ := HB.out.len_pos j (by rw [hl]; exact hlt)
      have hs := hc j (by rw [hl]; exact hlt)
      rw [marks_get k n j hlt] at hs
      have hq : ((k + j) % 256 != (k + j) % 256) = false := by simp
      clear hc hl
      go_wp2
      go_round
      case rel => exact ⟨j + 1, by omega, by go_num, by go_num⟩
      case measure => simp [intOf]; omega
    · have hjn : j = n := by omega
      subst hjn
      go_wp2
      go_ret
      exact ⟨rfl, rfl⟩

/-- Only what lies at 'a' is written. -/
def rowOf (a : Option Addr) (k : Nat) : Prop := ∃ x : Addr, a = some x ∧ x.block = k

theorem markByteS_any (a : Option Addr) (B U cap : Nat) (zs : List Int) (k : Int) (w : World) (h : Mine w B U a cap zs) (hn : zs.length ≤ 2097152) (h0 : 0 ≤ k) (h1 : k ≤ 2097152) :
    Calls Tryd.prog 15 #[.slice a zs.length cap, .int .i64 k] w fun e w' => e = .returned (.int .i64 (k + zs.length)) ∧ Mine w' B U a cap (marks k zs.length) ∧ Only (rowOf a) w w' := by
  rcases h with ⟨rfl, rfl, rfl⟩ | ⟨g, rfl, g1, g2, h⟩
  · go_enter Tryd.func15, Tryd.ntmps15
    go_wp2
    refine wp_loop_rounds 1 ?_
    rw [rounds_succ]
    go_wp2
    go_ret
    exact ⟨by simp, .inl ⟨rfl, rfl, rfl⟩, Only.refl _ _⟩
  · refine (markByteS_own B g cap zs k w h hn h0 h1).mono ?_
    rintro e w' ⟨rfl, ho, hy⟩
    exact ⟨rfl, .inr ⟨g, rfl, g1, g2, ho⟩, hy.mono (fun k _ hk => ⟨_, rfl, hk.symm⟩)⟩

set_option maxHeartbeats 400000 in
theorem markBits_any (a : Option Addr) (B U cap : Nat) (zs : List Int) (N k : Int) (w : World) (h : Mine w B U a cap zs) (hn : zs.length ≤ 2097152) (h0 : 0 ≤ k) (h1 : k ≤ 2097152) :
    Calls Tryd.prog 10 #[.agg #[.slice a zs.length cap, .int .i64 N], .int .i64 k] w fun e w' => e = .returned (.int .i64 (k + zs.length)) ∧ Mine w' B U a cap (marks k zs.length) ∧ Only (rowOf a) w w' := by
  go_enter Tryd.func10, Tryd.ntmps10
  go_wp2_with fail
  refine (markByteS_any a B U cap zs k _ (h.below ((Below.refl _ _).alloc (Nat.le_refl _) _)) hn h0 h1).mono ?_
  rintro e w1 ⟨rfl, hm, ho⟩
  have HM : Hid (Mine w1 B U a cap (marks k zs.length)) := hm
  have HO : Hid (Only (rowOf a) w w1) := ((Only.refl (rowOf a) w).alloc _).trans ho
  clear hm ho h
  go_wp2
  go_ret
  exact ⟨rfl, HM.out, HO.out⟩

set_option maxHeartbeats 400000 in
theorem heldBits_any (a : Option Addr) (cap n : Nat) (N k : Int) (w : World) (h : Byt w a (marks k n)) (hn : n ≤ 2097152) (h0 : 0 ≤ k) (h1 : k ≤ 2097152) :
    Calls Tryd.prog 11 #[.agg #[.slice a n cap, .int .i64 N], .int .i64 k] w fun e w' => e = .returned (.int .i64 (k + n)) ∧ Below w.heap.size w w' := by
  go_enter Tryd.func11, Tryd.ntmps11
  go_wp2_with fail
  refine (heldByteS_any a cap n k _ (h.alloc _) hn h0 h1).mono ?_
  rintro e w1 ⟨rfl, rfl⟩
  clear h
  go_wp2
  go_ret
  exact ⟨rfl, (Below.refl _ _).alloc (Nat.le_refl _) _⟩
end Go.Proofs.YtfgimfiepoiifahDoor
