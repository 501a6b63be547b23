/-
  Whether a command is right: the model's CmdOk and the program's.
-/
import Derived.Test.YtgnilkhddhlakaaCmT
namespace Go.Proofs.Ytgnilkhddhlakaa
open Go.RowKit
set_option linter.unusedVariables false

/-- Whether a command of such a kind and address, with a block and flags of such lengths, is right. -/
def cmB (k x : Int) (n m : Nat) : Bool := decide (0 ≤ k ∧ k ≤ 6 ∧ n ≤ 128 ∧ m ≤ 60 ∧ (k = 0 ∨ n = 0) ∧ (k = 6 ∨ m = 0) ∧ (x = 0 ∨ k ≤ 2))

set_option maxHeartbeats 4000000 in
theorem specCmdOk_any (k x : Int) (a b : Option Addr) (n m ca cb : Nat) (w : World) (hn : n ≤ 1048576) (hm : m ≤ 1048576) :
    Calls Try.prog 5 #[.agg #[.int .i64 k, .int .i64 x, .slice a n ca, .slice b m cb]] w fun e w' => e = .returned (.bool (cmB k x n m)) ∧ Below w.heap.size w w' := by
  have hb : Hid (Below w.heap.size w (w.alloc (Obj.cells #[Value.int .i64 k, Value.int .i64 x, Value.slice a n ca, Value.slice b m cb] 28)) ∧ True) := ⟨(Below.refl _ _).alloc (Nat.le_refl _) _, trivial⟩
  have HY : Hid (0 ≤ k ∧ k ≤ 6 ∧ n ≤ 128 ∧ m ≤ 60 ∧ (k = 0 ∨ n = 0) ∧ (k = 6 ∨ m = 0) ∧ (x = 0 ∨ k ≤ 2) → cmB k x n m = true) := fun h => by unfold cmB; exact decide_eq_true h
  have HN : Hid (¬ (0 ≤ k ∧ k ≤ 6 ∧ n ≤ 128 ∧ m ≤ 60 ∧ (k = 0 ∨ n = 0) ∧ (k = 6 ∨ m = 0) ∧ (x = 0 ∨ k ≤ 2)) → cmB k x n m = false) := fun h => by unfold cmB; exact decide_eq_false h
  generalize cmB k x n m = O at *
  have fin0 : ∀ {c : Bool}, O = c → Ending.returned (Value.bool c) = Ending.returned (Value.bool O) := fun h => by rw [h]
  by_cases h1 : k < 0
  · have HF : Hid (O = false ∧ True) := ⟨HN.out (by omega), trivial⟩
    go_enter Try.func5, Try.ntmps5
    go_wp2
    go_ret
    exact ⟨by rw [HF.out.1]; rfl, hb.out.1⟩
  by_cases h2 : 6 < k
  · have HF : Hid (O = false ∧ True) := ⟨HN.out (by omega), trivial⟩
    go_enter Try.func5, Try.ntmps5
    go_wp2
    go_ret
    exact ⟨by rw [HF.out.1]; rfl, hb.out.1⟩
  by_cases h3 : (128 : Int) < (n : Int)
  · have HF : Hid (O = false ∧ True) := ⟨HN.out (by omega), trivial⟩
    go_enter Try.func5, Try.ntmps5
    go_wp2
    go_ret
    exact ⟨by rw [HF.out.1]; rfl, hb.out.1⟩
  by_cases h4 : (60 : Int) < (m : Int)
  · have HF : Hid (O = false ∧ True) := ⟨HN.out (by omega), trivial⟩
    go_enter Try.func5, Try.ntmps5
    go_wp2
    go_ret
    exact ⟨by rw [HF.out.1]; rfl, hb.out.1⟩
  by_cases h5 : k = 0
  · subst h5
    by_cases h7 : (0 : Int) < (m : Int)
    · have HF : Hid (O = false ∧ True) := ⟨HN.out (by omega), trivial⟩
      go_enter Try.func5, Try.ntmps5
      go_wp2
      go_ret
      exact ⟨by rw [HF.out.1]; rfl, hb.out.1⟩
    · have HF : Hid (O = true ∧ True) := ⟨HY.out (by omega), trivial⟩
      go_enter Try.func5, Try.ntmps5
      go_wp2
      go_ret
      exact ⟨by rw [HF.out.1]; rfl, hb.out.1⟩
  have h5' : (k != 0) = true := by rw [bne_iff_ne]; exact h5
  by_cases h6 : (0 : Int) < (n : Int)
  · have HF : Hid (O = false ∧ True) := ⟨HN.out (by omega), trivial⟩
    go_enter Try.func5, Try.ntmps5
    go_wp2
    go_ret
    exact ⟨by rw [HF.out.1]; rfl, hb.out.1⟩
  by_cases h7 : k = 6
  · subst h7
    by_cases h8 : x = 0
    · subst h8
      have HF : Hid (O = true ∧ True) := ⟨HY.out (by omega), trivial⟩
      go_enter Try.func5, Try.ntmps5
      go_wp2
      go_ret
      exact ⟨by rw [HF.out.1]; rfl, hb.out.1⟩
    · have h8' : (x == 0) = false := by rw [beq_eq_false_iff_ne]; exact h8
      have HF : Hid (O = false ∧ True) := ⟨HN.out (by omega), trivial⟩
      go_enter Try.func5, Try.ntmps5
      go_wp2
      go_ret
      exact ⟨by rw [HF.out.1]; rfl, hb.out.1⟩
  have h7' : (k != 6) = true := by rw [bne_iff_ne]; exact h7
  by_cases h8 : (0 : Int) < (m : Int)
  · have HF : Hid (O = false ∧ True) := ⟨HN.out (by omega), trivial⟩
    go_enter Try.func5, Try.ntmps5
    go_wp2
    go_ret
    exact ⟨by rw [HF.out.1]; rfl, hb.out.1⟩
  by_cases h9 : k ≤ 2
  · have HF : Hid (O = true ∧ True) := ⟨HY.out (by omega), trivial⟩
    go_enter Try.func5, Try.ntmps5
    go_wp2
    go_ret
    exact ⟨by rw [HF.out.1]; rfl, hb.out.1⟩
  by_cases h10 : x = 0
  · subst h10
    have HF : Hid (O = true ∧ True) := ⟨HY.out (by omega), trivial⟩
    go_enter Try.func5, Try.ntmps5
    go_wp2
    go_ret
    exact ⟨by rw [HF.out.1]; rfl, hb.out.1⟩
  · have h10' : (x == 0) = false := by rw [beq_eq_false_iff_ne]; exact h10
    have HF : Hid (O = false ∧ True) := ⟨HN.out (by omega), trivial⟩
    go_enter Try.func5, Try.ntmps5
    go_wp2
    go_ret
    exact ⟨by rw [HF.out.1]; rfl, hb.out.1⟩

set_option maxHeartbeats 800000 in
theorem mostBytes_any (k x : Int) (a b : Option Addr) (n m ca cb : Nat) (w : World) :
    Calls Try.prog 13 #[.agg #[.int .i64 k, .int .i64 x, .slice a n ca, .slice b m cb]] w fun e w' => e = .returned (.int .i64 (if k = 0 then 128 else 0)) ∧ Below w.heap.size w w' := by
  have hb : Hid (Below w.heap.size w (w.alloc (Obj.cells #[Value.int .i64 k, Value.int .i64 x, Value.slice a n ca, Value.slice b m cb] 28)) ∧ True) := ⟨(Below.refl _ _).alloc (Nat.le_refl _) _, trivial⟩
  by_cases h : k = 0
  · subst h
    go_enter Try.func13, Try.ntmps13
    go_wp2
    go_ret
    exact ⟨rfl, hb.out.1⟩
  · have h' : (k == 0) = false := by rw [beq_eq_false_iff_ne]; exact h
    rw [if_neg h]
    go_enter Try.func13, Try.ntmps13
    go_wp2
    go_ret
    exact ⟨rfl, hb.out.1⟩
set_option maxHeartbeats 800000 in
theorem mostFlags_any (k x : Int) (a b : Option Addr) (n m ca cb : Nat) (w : World) :
    Calls Try.prog 14 #[.agg #[.int .i64 k, .int .i64 x, .slice a n ca, .slice b m cb]] w fun e w' => e = .returned (.int .i64 (if k = 6 then 60 else 0)) ∧ Below w.heap.size w w' := by
  have hb : Hid (Below w.heap.size w (w.alloc (Obj.cells #[Value.int .i64 k, Value.int .i64 x, Value.slice a n ca, Value.slice b m cb] 28)) ∧ True) := ⟨(Below.refl _ _).alloc (Nat.le_refl _) _, trivial⟩
  by_cases h : k = 6
  · subst h
    go_enter Try.func14, Try.ntmps14
    go_wp2
    go_ret
    exact ⟨rfl, hb.out.1⟩
  · have h' : (k == 6) = false := by rw [beq_eq_false_iff_ne]; exact h
    rw [if_neg h]
    go_enter Try.func14, Try.ntmps14
    go_wp2
    go_ret
    exact ⟨rfl, hb.out.1⟩
set_option maxHeartbeats 1600000 in
theorem takesAddr_any (k x : Int) (a b : Option Addr) (n m ca cb : Nat) (w : World) :
    Calls Try.prog 15 #[.agg #[.int .i64 k, .int .i64 x, .slice a n ca, .slice b m cb]] w fun e w' => e = .returned (.bool (decide (k = 0 ∨ k = 1 ∨ k = 2))) ∧ Below w.heap.size w w' := by
  have hb : Hid (Below w.heap.size w (w.alloc (Obj.cells #[Value.int .i64 k, Value.int .i64 x, Value.slice a n ca, Value.slice b m cb] 28)) ∧ True) := ⟨(Below.refl _ _).alloc (Nat.le_refl _) _, trivial⟩
  by_cases h : k = 0
  · subst h
    go_enter Try.func15, Try.ntmps15
    go_wp2
    go_ret
    exact ⟨rfl, hb.out.1⟩
  by_cases h1 : k = 1
  · subst h1
    go_enter Try.func15, Try.ntmps15
    go_wp2
    go_ret
    exact ⟨rfl, hb.out.1⟩
  by_cases h2 : k = 2
  · subst h2
    go_enter Try.func15, Try.ntmps15
    go_wp2
    go_ret
    exact ⟨rfl, hb.out.1⟩
  · have g0 : (k == 0) = false := by rw [beq_eq_false_iff_ne]; exact h
    have g1 : (k == 1) = false := by rw [beq_eq_false_iff_ne]; exact h1
    have g2 : (k == 2) = false := by rw [beq_eq_false_iff_ne]; exact h2
    rw [decide_eq_false (show ¬ (k = 0 ∨ k = 1 ∨ k = 2) by omega)]
    go_enter Try.func15, Try.ntmps15
    go_wp2
    go_ret
    exact ⟨rfl, hb.out.1⟩
end Go.Proofs.Ytgnilkhddhlakaa
