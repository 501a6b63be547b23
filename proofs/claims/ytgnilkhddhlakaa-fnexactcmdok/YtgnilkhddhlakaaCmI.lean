/-
  Whether a command is right: the program's CmdOk.
-/
import Derived.Test.YtgnilkhddhlakaaCmOk
import Derived.Test.YtgnilkhddhlakaaCut
namespace Go.Proofs.Ytgnilkhddhlakaa
open Go.RowKit
set_option linter.unusedVariables false
set_option linter.unusedSimpArgs false

set_option maxHeartbeats 4000000 in
theorem implCmdOk_any (k x : Int) (a b : Option Addr) (n m ca cb : Nat) (w : World) (hn : n ≤ 1048576) (hm : m ≤ 1048576) :
    Calls Try.prog 7 #[.agg #[.int .i64 k, .int .i64 x, .slice a n ca, .slice b m cb]] w fun e w' => e = .returned (.bool (cmB k x n m)) ∧ Below w.heap.size w w' := by
  have hb : Hid (Below w.heap.size w (w.alloc (Obj.cells #[Value.int .i64 k, Value.int .i64 x, Value.slice a n ca, Value.slice b m cb] 28)) ∧ Box4 (w.alloc (Obj.cells #[Value.int .i64 k, Value.int .i64 x, Value.slice a n ca, Value.slice b m cb] 28)) w.heap.size (.int .i64 k) (.int .i64 x) (.slice a n ca) (.slice b m cb)) := ⟨(Below.refl _ _).alloc (Nat.le_refl _) _, Box4.new _ _ _ _ _ _⟩
  have HY : Hid (0 ≤ k ∧ k ≤ 6 ∧ n ≤ 128 ∧ m ≤ 60 ∧ (k = 0 ∨ n = 0) ∧ (k = 6 ∨ m = 0) ∧ (x = 0 ∨ k ≤ 2) → cmB k x n m = true) := fun h => by unfold cmB; exact decide_eq_true h
  have HN : Hid (¬ (0 ≤ k ∧ k ≤ 6 ∧ n ≤ 128 ∧ m ≤ 60 ∧ (k = 0 ∨ n = 0) ∧ (k = 6 ∨ m = 0) ∧ (x = 0 ∨ k ≤ 2)) → cmB k x n m = false) := fun h => by unfold cmB; exact decide_eq_false h
  generalize cmB k x n m = O at *
  by_cases h1 : k < 0
  · have HF : Hid (O = false ∧ True) := ⟨HN.out (by omega), trivial⟩
    go_enter Try.func7, Try.ntmps7
    go_wp2
    go_ret
    exact ⟨by rw [HF.out.1]; rfl, hb.out.1⟩
  by_cases h2 : 6 < k
  · have HF : Hid (O = false ∧ True) := ⟨HN.out (by omega), trivial⟩
    go_enter Try.func7, Try.ntmps7
    go_wp2
    go_ret
    exact ⟨by rw [HF.out.1]; rfl, hb.out.1⟩
  have HB1 : Hid (∀ W, Calls Try.prog 13 #[.agg #[.int .i64 k, .int .i64 x, .slice a n ca, .slice b m cb]] W fun e w' => e = .returned (.int .i64 (if k = 0 then 128 else 0)) ∧ Below W.heap.size W w') := fun W => mostBytes_any k x a b n m ca cb W
  have HF1 : Hid (∀ W, Calls Try.prog 14 #[.agg #[.int .i64 k, .int .i64 x, .slice a n ca, .slice b m cb]] W fun e w' => e = .returned (.int .i64 (if k = 6 then 60 else 0)) ∧ Below W.heap.size W w') := fun W => mostFlags_any k x a b n m ca cb W
  generalize hM : (if k = 0 then 128 else 0 : Int) = M at *
  generalize hL : (if k = 6 then 60 else 0 : Int) = L at *
  have HML : Hid ((k = 0 ∧ M = 128 ∨ k ≠ 0 ∧ M = 0) ∧ (k = 6 ∧ L = 60 ∨ k ≠ 6 ∧ L = 0)) := by
    constructor
    · by_cases h : k = 0
      · exact .inl ⟨h, by rw [← hM, if_pos h]⟩
      · exact .inr ⟨h, by rw [← hM, if_neg h]⟩
    · by_cases h : k = 6
      · exact .inl ⟨h, by rw [← hL, if_pos h]⟩
      · exact .inr ⟨h, by rw [← hL, if_neg h]⟩
  clear hM hL
  by_cases h3 : M < (n : Int)
  · have HF : Hid (O = false ∧ True) := ⟨HN.out (by have := HML.out; omega), trivial⟩
    go_enter Try.func7, Try.ntmps7
    go_wp2_with fail
    generalize w.alloc (Obj.cells #[Value.int .i64 k, Value.int .i64 x, Value.slice a n ca, Value.slice b m cb] 28) = W at *
    refine wp_region_cut (S := (fun W => W.cell? ⟨w.heap.size, 0, none⟩ = some (.int .i64 k) ∧ W.cell? ⟨w.heap.size, 1, none⟩ = some (.int .i64 x) ∧ W.cell? ⟨w.heap.size, 2, none⟩ = some (.slice a n ca) ∧ W.cell? ⟨w.heap.size, 3, none⟩ = some (.slice b m cb))) 14 (by kernel_rfl) (by kernel_rfl) (by exact ⟨hb.out.2.c0, hb.out.2.c1, hb.out.2.c2, hb.out.2.c3⟩) (fun hHeld => ?_)
    refine wpAnyH_take (i := 0) (v := ?_) rfl (by kernel_rfl) (by kernel_rfl) (by kernel_rfl) (fun _ _ _ h => h) (Or.inl ⟨by rfl, ?_⟩) (by assumption) ?_
    rotate_left 1
    · (intro w hSw; (try dsimp only at hSw); go_simp; try (with_reducible rfl))
    try simp only [List.getElem_toArray, List.getElem_cons_zero, List.getElem_cons_succ, Act.put, List.setIfInBounds_toArray, List.set_cons_zero, List.set_cons_succ]
    refine wpAnyH_take (i := 1) (v := ?_) rfl (by kernel_rfl) (by kernel_rfl) (by kernel_rfl) (fun _ _ _ h => h) (Or.inl ⟨by rfl, ?_⟩) (by assumption) ?_
    rotate_left 1
    · (intro w hSw; (try dsimp only at hSw); go_simp; try (with_reducible rfl))
    try simp only [List.getElem_toArray, List.getElem_cons_zero, List.getElem_cons_succ, Act.put, List.setIfInBounds_toArray, List.set_cons_zero, List.set_cons_succ]
    refine wpAnyH_take (i := 2) (v := ?_) rfl (by kernel_rfl) (by kernel_rfl) (by kernel_rfl) (fun _ _ _ h => h) (Or.inl ⟨by rfl, ?_⟩) (by assumption) ?_
    rotate_left 1
    · (intro w hSw; (try dsimp only at hSw); go_simp; try (with_reducible rfl))
    try simp only [List.getElem_toArray, List.getElem_cons_zero, List.getElem_cons_succ, Act.put, List.setIfInBounds_toArray, List.set_cons_zero, List.set_cons_succ]
    refine wpAnyH_take (i := 3) (v := ?_) rfl (by kernel_rfl) (by kernel_rfl) (by kernel_rfl) (fun _ _ _ h => h) (Or.inl ⟨by rfl, ?_⟩) (by assumption) ?_
    rotate_left 1
    · (intro w hSw; (try dsimp only at hSw); go_simp; try (with_reducible rfl))
    try simp only [List.getElem_toArray, List.getElem_cons_zero, List.getElem_cons_succ, Act.put, List.setIfInBounds_toArray, List.set_cons_zero, List.set_cons_succ]
    refine wpAnyH_ready (rs := [4]) (by kernel_rfl) (by simp) ?_
    refine AllReadyH.cons rfl (fun K hK => ?_) AllReadyH.nil
    go_simp
    refine (HB1.out _).mono ?_
    rintro e w7 ⟨rfl, hq'⟩
    have hq := Below.drewS hq'
    have hb7 : Hid (Below w.heap.size w w7 ∧ Box4 w7 w.heap.size (.int .i64 k) (.int .i64 x) (.slice a n ca) (.slice b m cb)) := ⟨hb.out.1.trans (hq.mono hb.out.1.size), hb.out.2.keep hq hb.out.2.lt⟩
    clear hq hq'
    refine hK.out _ _ (by exact ⟨hb7.out.2.c0, hb7.out.2.c1, hb7.out.2.c2, hb7.out.2.c3⟩) (fun hHeld => ?_)
    clear hK K
    try simp only [List.getElem_toArray, List.getElem_cons_zero, List.getElem_cons_succ, Act.put, List.setIfInBounds_toArray, List.set_cons_zero, List.set_cons_succ]
    refine wpAnyH_take (i := 5) (v := ?_) rfl (by kernel_rfl) (by kernel_rfl) (by kernel_rfl) (fun _ _ _ h => h) (Or.inl ⟨by rfl, ?_⟩) (by assumption) ?_
    rotate_left 1
    · (intro w hSw; (try dsimp only at hSw); go_simp; try (with_reducible rfl))
    try simp only [List.getElem_toArray, List.getElem_cons_zero, List.getElem_cons_succ, Act.put, List.setIfInBounds_toArray, List.set_cons_zero, List.set_cons_succ]
    refine wpAnyH_take (i := 6) (v := ?_) rfl (by kernel_rfl) (by kernel_rfl) (by kernel_rfl) (fun _ _ _ h => h) (Or.inl ⟨by rfl, ?_⟩) (by assumption) ?_
    rotate_left 1
    · (intro w hSw; (try dsimp only at hSw); go_simp; try (with_reducible rfl))
    try simp only [List.getElem_toArray, List.getElem_cons_zero, List.getElem_cons_succ, Act.put, List.setIfInBounds_toArray, List.set_cons_zero, List.set_cons_succ]
    refine wpAnyH_take (i := 7) (v := undef) rfl (by kernel_rfl) (by kernel_rfl) (by kernel_rfl) (fun _ _ _ h => h) (Or.inr ⟨by rfl, rfl⟩) (by assumption) ?_
    try simp only [List.getElem_toArray, List.getElem_cons_zero, List.getElem_cons_succ, Act.put, List.setIfInBounds_toArray, List.set_cons_zero, List.set_cons_succ]
    refine wpAnyH_take (i := 8) (v := undef) rfl (by kernel_rfl) (by kernel_rfl) (by kernel_rfl) (fun _ _ _ h => h) (Or.inr ⟨by rfl, rfl⟩) (by assumption) ?_
    try simp only [List.getElem_toArray, List.getElem_cons_zero, List.getElem_cons_succ, Act.put, List.setIfInBounds_toArray, List.set_cons_zero, List.set_cons_succ]
    refine wpAnyH_take (i := 9) (v := undef) rfl (by kernel_rfl) (by kernel_rfl) (by kernel_rfl) (fun _ _ _ h => h) (Or.inr ⟨by rfl, rfl⟩) (by assumption) ?_
    try simp only [List.getElem_toArray, List.getElem_cons_zero, List.getElem_cons_succ, Act.put, List.setIfInBounds_toArray, List.set_cons_zero, List.set_cons_succ]
    refine wpAnyH_take (i := 10) (v := undef) rfl (by kernel_rfl) (by kernel_rfl) (by kernel_rfl) (fun _ _ _ h => h) (Or.inr ⟨by rfl, rfl⟩) (by assumption) ?_
    try simp only [List.getElem_toArray, List.getElem_cons_zero, List.getElem_cons_succ, Act.put, List.setIfInBounds_toArray, List.set_cons_zero, List.set_cons_succ]
    refine wpAnyH_take (i := 11) (v := undef) rfl (by kernel_rfl) (by kernel_rfl) (by kernel_rfl) (fun _ _ _ h => h) (Or.inr ⟨by rfl, rfl⟩) (by assumption) ?_
    try simp only [List.getElem_toArray, List.getElem_cons_zero, List.getElem_cons_succ, Act.put, List.setIfInBounds_toArray, List.set_cons_zero, List.set_cons_succ]
    refine wpAnyH_take (i := 12) (v := undef) rfl (by kernel_rfl) (by kernel_rfl) (by kernel_rfl) (fun _ _ _ h => h) (Or.inr ⟨by rfl, rfl⟩) (by assumption) ?_
    try simp only [List.getElem_toArray, List.getElem_cons_zero, List.getElem_cons_succ, Act.put, List.setIfInBounds_toArray, List.set_cons_zero, List.set_cons_succ]
    refine wpAnyH_take (i := 13) (v := ?_) rfl (by kernel_rfl) (by kernel_rfl) (by kernel_rfl) (fun _ _ _ h => h) (Or.inl ⟨by rfl, ?_⟩) (by assumption) ?_
    rotate_left 1
    · (intro w hSw; (try dsimp only at hSw); go_simp; try (with_reducible rfl))
    try simp only [List.getElem_toArray, List.getElem_cons_zero, List.getElem_cons_succ, Act.put, List.setIfInBounds_toArray, List.set_cons_zero, List.set_cons_succ]
    refine wpAnyH_done (by kernel_rfl) ?_ _
    simp only [cutQ, List.drop_succ_cons, List.drop_zero]
    go_wp2
    go_ret
    exact ⟨by rw [HF.out.1]; rfl, hb7.out.1⟩
  have h3' : decide (M < (n : Int)) = false := decide_eq_false h3
  by_cases h4 : L < (m : Int)
  · have HF : Hid (O = false ∧ True) := ⟨HN.out (by have := HML.out; omega), trivial⟩
    go_enter Try.func7, Try.ntmps7
    go_wp2_with fail
    generalize w.alloc (Obj.cells #[Value.int .i64 k, Value.int .i64 x, Value.slice a n ca, Value.slice b m cb] 28) = W at *
    go_region_held3 (fun W => W.cell? ⟨w.heap.size, 0, none⟩ = some (.int .i64 k) ∧ W.cell? ⟨w.heap.size, 1, none⟩ = some (.int .i64 x) ∧ W.cell? ⟨w.heap.size, 2, none⟩ = some (.slice a n ca) ∧ W.cell? ⟨w.heap.size, 3, none⟩ = some (.slice b m cb))
      (first | exact ⟨hb.out.2.c0, hb.out.2.c1, hb.out.2.c2, hb.out.2.c3⟩ | exact ⟨hb7.out.2.c0, hb7.out.2.c1, hb7.out.2.c2, hb7.out.2.c3⟩ | exact ⟨hb8.out.2.c0, hb8.out.2.c1, hb8.out.2.c2, hb8.out.2.c3⟩)
      (first
        | (go_at_call 13; refine (HB1.out _).mono ?_; rintro e w7 ⟨rfl, hq'⟩; have hq := Below.drewS hq'; clear hq'; have hb7 : Hid (Below w.heap.size w w7 ∧ Box4 w7 w.heap.size (.int .i64 k) (.int .i64 x) (.slice a n ca) (.slice b m cb)) := ⟨hb.out.1.trans (hq.mono hb.out.1.size), hb.out.2.keep hq hb.out.2.lt⟩; clear hq)
        | (go_at_call 14; refine (HF1.out _).mono ?_; rintro e w8 ⟨rfl, hq⟩; have hb8 : Hid (Below w.heap.size w w8 ∧ Box4 w8 w.heap.size (.int .i64 k) (.int .i64 x) (.slice a n ca) (.slice b m cb)) := ⟨hb7.out.1.trans (hq.mono hb7.out.1.size), hb7.out.2.keep hq hb7.out.2.lt⟩; clear hq))
    go_wp2
    go_ret
    exact ⟨by rw [HF.out.1]; rfl, hb8.out.1⟩
  have h4' : decide (L < (m : Int)) = false := decide_eq_false h4
  have HTA : Hid (∀ W, Calls Try.prog 15 #[.agg #[.int .i64 k, .int .i64 x, .slice a n ca, .slice b m cb]] W fun e w' => e = .returned (.bool (decide (k = 0 ∨ k = 1 ∨ k = 2))) ∧ Below W.heap.size W w') := fun W => takesAddr_any k x a b n m ca cb W
  by_cases h5 : x = 0
  · have HF : Hid (O = true ∧ True) := ⟨HY.out (by have := HML.out; omega), trivial⟩
    subst h5
    go_enter Try.func7, Try.ntmps7
    go_wp2_with fail
    generalize w.alloc (Obj.cells #[Value.int .i64 k, Value.int .i64 0, Value.slice a n ca, Value.slice b m cb] 28) = W at *
    go_region_held3 (fun W => W.cell? ⟨w.heap.size, 0, none⟩ = some (.int .i64 k) ∧ W.cell? ⟨w.heap.size, 1, none⟩ = some (.int .i64 0) ∧ W.cell? ⟨w.heap.size, 2, none⟩ = some (.slice a n ca) ∧ W.cell? ⟨w.heap.size, 3, none⟩ = some (.slice b m cb))
      (first | exact ⟨hb.out.2.c0, hb.out.2.c1, hb.out.2.c2, hb.out.2.c3⟩ | exact ⟨hb7.out.2.c0, hb7.out.2.c1, hb7.out.2.c2, hb7.out.2.c3⟩ | exact ⟨hb8.out.2.c0, hb8.out.2.c1, hb8.out.2.c2, hb8.out.2.c3⟩)
      (first
        | (go_at_call 13; refine (HB1.out _).mono ?_; rintro e w7 ⟨rfl, hq'⟩; have hq := Below.drewS hq'; clear hq'; have hb7 : Hid (Below w.heap.size w w7 ∧ Box4 w7 w.heap.size (.int .i64 k) (.int .i64 0) (.slice a n ca) (.slice b m cb)) := ⟨hb.out.1.trans (hq.mono hb.out.1.size), hb.out.2.keep hq hb.out.2.lt⟩; clear hq)
        | (go_at_call 14; refine (HF1.out _).mono ?_; rintro e w8 ⟨rfl, hq⟩; have hb8 : Hid (Below w.heap.size w w8 ∧ Box4 w8 w.heap.size (.int .i64 k) (.int .i64 0) (.slice a n ca) (.slice b m cb)) := ⟨hb7.out.1.trans (hq.mono hb7.out.1.size), hb7.out.2.keep hq hb7.out.2.lt⟩; clear hq))
    have hb9 := hb8.out.2.c1
    go_wp2
    go_ret
    exact ⟨by rw [HF.out.1]; rfl, hb8.out.1⟩
  have h5' : (x == 0) = false := by rw [beq_eq_false_iff_ne]; exact h5
  have HF : Hid (O = decide (k = 0 ∨ k = 1 ∨ k = 2) ∧ True) := by
    refine ⟨?_, trivial⟩
    by_cases h : k = 0 ∨ k = 1 ∨ k = 2
    · rw [decide_eq_true h]
      exact HY.out (by have := HML.out; omega)
    · rw [decide_eq_false h]
      exact HN.out (by have := HML.out; omega)
  generalize decide (k = 0 ∨ k = 1 ∨ k = 2) = T at *
  go_enter Try.func7, Try.ntmps7
  go_wp2_with fail
  generalize w.alloc (Obj.cells #[Value.int .i64 k, Value.int .i64 x, Value.slice a n ca, Value.slice b m cb] 28) = W at *
  go_region_held3 (fun W => W.cell? ⟨w.heap.size, 0, none⟩ = some (.int .i64 k) ∧ W.cell? ⟨w.heap.size, 1, none⟩ = some (.int .i64 x) ∧ W.cell? ⟨w.heap.size, 2, none⟩ = some (.slice a n ca) ∧ W.cell? ⟨w.heap.size, 3, none⟩ = some (.slice b m cb))
    (first | exact ⟨hb.out.2.c0, hb.out.2.c1, hb.out.2.c2, hb.out.2.c3⟩ | exact ⟨hb7.out.2.c0, hb7.out.2.c1, hb7.out.2.c2, hb7.out.2.c3⟩ | exact ⟨hb8.out.2.c0, hb8.out.2.c1, hb8.out.2.c2, hb8.out.2.c3⟩)
    (first
      | (go_at_call 13; refine (HB1.out _).mono ?_; rintro e w7 ⟨rfl, hq'⟩; have hq := Below.drewS hq'; clear hq'; have hb7 : Hid (Below w.heap.size w w7 ∧ Box4 w7 w.heap.size (.int .i64 k) (.int .i64 x) (.slice a n ca) (.slice b m cb)) := ⟨hb.out.1.trans (hq.mono hb.out.1.size), hb.out.2.keep hq hb.out.2.lt⟩; clear hq)
      | (go_at_call 14; refine (HF1.out _).mono ?_; rintro e w8 ⟨rfl, hq⟩; have hb8 : Hid (Below w.heap.size w w8 ∧ Box4 w8 w.heap.size (.int .i64 k) (.int .i64 x) (.slice a n ca) (.slice b m cb)) := ⟨hb7.out.1.trans (hq.mono hb7.out.1.size), hb7.out.2.keep hq hb7.out.2.lt⟩; clear hq))
  obtain ⟨d0, d1, d2, d3, -, -⟩ := hb8.out.2
  go_wp2_with fail
  refine (HTA.out _).mono ?_
  rintro e w9 ⟨rfl, hq9⟩
  go_wp2
  go_ret
  exact ⟨by rw [HF.out.1]; rfl, hb8.out.1.trans (hq9.mono hb8.out.1.size)⟩
end Go.Proofs.Ytgnilkhddhlakaa
