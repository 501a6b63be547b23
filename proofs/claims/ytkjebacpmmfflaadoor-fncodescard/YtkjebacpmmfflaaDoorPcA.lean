/-
  Parcels: a coin, or a pack of two others; their values, and what they weigh.
-/
import Derived.Test.YtkjebacpmmfflaaDoorIBase
namespace Go.Proofs.YtkjebacpmmfflaaDoor
open Go.RowKit
set_option linter.unusedVariables false
set_option linter.unusedSimpArgs false

inductive Pc where
  | coin (s c : Nat)
  | pack (a b : Pc) (n : Nat)
def Pc.wt : Pc → Nat
  | .coin s c => c
  | .pack a b n => a.wt + b.wt
def Pc.plc : Pc → Nat
  | .coin s c => s
  | .pack a b n => 80 + n
def Pc.bd : Pc → Value
  | .coin s c => .agg #[.int .i64 s, .int .i64 c]
  | .pack a b n => .agg #[match a with | .coin _ _ => .iface 93 a.bd | .pack _ _ _ => .iface 101 a.bd, match b with | .coin _ _ => .iface 93 b.bd | .pack _ _ _ => .iface 101 b.bd, .int .i64 ((a.wt + b.wt : Nat) : Int), .int .i64 n]
def Pc.vl : Pc → Value
  | .coin s c => .iface 93 (Pc.coin s c).bd
  | .pack a b n => .iface 101 (Pc.pack a b n).bd
theorem Pc.bd_pack (a b : Pc) (n : Nat) : (Pc.pack a b n).bd = .agg #[a.vl, b.vl, .int .i64 ((a.wt + b.wt : Nat) : Int), .int .i64 n] := by
  cases a <;> cases b <;> rfl
/-- Its numbers are within an int. -/
def Pc.fine (p : Pc) : Prop := p.wt ≤ 1000000000000 ∧ p.plc ≤ 1000
theorem Pc.one (p : Pc) : p.vl.oneCell' = true := by cases p <;> rfl
theorem Pc.form (p : Pc) : ∃ t x, p.vl = .iface t x := by cases p <;> exact ⟨_, _, rfl⟩
def Pc.key (p : Pc) : Nat := p.wt * 1024 + p.plc

theorem Tryd.meth_coin_weight (v : Value) (w : World) : Sem.run Tryd.prog (method 288 93 v "loop.example/g00528/impl.weight") w = .ok (100, v) w := by kernel_rfl
theorem Tryd.meth_coin_place (v : Value) (w : World) : Sem.run Tryd.prog (method 288 93 v "loop.example/g00528/impl.place") w = .ok (99, v) w := by kernel_rfl
theorem Tryd.meth_coin_countInto (v : Value) (w : World) : Sem.run Tryd.prog (method 288 93 v "loop.example/g00528/impl.countInto") w = .ok (98, v) w := by kernel_rfl
theorem Tryd.meth_coinPack_weight (v : Value) (w : World) : Sem.run Tryd.prog (method 288 101 v "loop.example/g00528/impl.weight") w = .ok (109, v) w := by kernel_rfl
theorem Tryd.meth_coinPack_place (v : Value) (w : World) : Sem.run Tryd.prog (method 288 101 v "loop.example/g00528/impl.place") w = .ok (108, v) w := by kernel_rfl
theorem Tryd.meth_coinPack_countInto (v : Value) (w : World) : Sem.run Tryd.prog (method 288 101 v "loop.example/g00528/impl.countInto") w = .ok (107, v) w := by kernel_rfl

set_option maxHeartbeats 1000000 in
theorem coinWeight_any (s c : Nat) (w : World) : Calls Tryd.prog 100 #[.agg #[.int .i64 s, .int .i64 c]] w fun e w' => e = .returned (.int .i64 c) ∧ Below w.heap.size w w' := by
  go_enter Tryd.func100, Tryd.ntmps100
  go_wp2
  go_ret
  exact ⟨rfl, (Below.refl _ _).alloc (Nat.le_refl _) _⟩
set_option maxHeartbeats 1000000 in
theorem coinPlace_any (s c : Nat) (w : World) : Calls Tryd.prog 99 #[.agg #[.int .i64 s, .int .i64 c]] w fun e w' => e = .returned (.int .i64 s) ∧ Below w.heap.size w w' := by
  go_enter Tryd.func99, Tryd.ntmps99
  go_wp2
  go_ret
  exact ⟨rfl, (Below.refl _ _).alloc (Nat.le_refl _) _⟩
set_option maxHeartbeats 1000000 in
theorem packWeight_any (a b : Pc) (n : Nat) (w : World) : Calls Tryd.prog 109 #[(Pc.pack a b n).bd] w fun e w' => e = .returned (.int .i64 ((Pc.pack a b n).wt : Nat)) ∧ Below w.heap.size w w' := by
  rw [Pc.bd_pack]
  show Calls _ _ _ _ fun e w' => e = .returned (.int .i64 ((a.wt + b.wt : Nat) : Int)) ∧ _
  generalize a.wt + b.wt = m
  generalize a.vl = va
  generalize b.vl = vb
  go_enter Tryd.func109, Tryd.ntmps109
  go_wp2
  go_ret
  exact ⟨rfl, (Below.refl _ _).alloc (Nat.le_refl _) _⟩
set_option maxHeartbeats 1000000 in
theorem packPlace_any (a b : Pc) (n : Nat) (w : World) (hn : n ≤ 1000) : Calls Tryd.prog 108 #[(Pc.pack a b n).bd] w fun e w' => e = .returned (.int .i64 ((80 + n : Nat) : Int)) ∧ Below w.heap.size w w' := by
  rw [Pc.bd_pack]
  generalize a.wt + b.wt = m
  generalize a.vl = va
  generalize b.vl = vb
  have h1 : ((80 + n : Nat) : Int) = 80 + (n : Int) := by omega
  rw [h1]
  go_enter Tryd.func108, Tryd.ntmps108
  go_wp2
  go_ret
  exact ⟨by go_num, (Below.refl _ _).alloc (Nat.le_refl _) _⟩

set_option maxHeartbeats 1000000 in
theorem nan_any (x : Int) (w : World) : Calls Tryd.prog 105 #[.int .i64 x] w fun e w' => e = .returned (.bool false) ∧ w' = w := by
  have hx : (x != x) = false := by simp
  go_enter Tryd.func105, Tryd.ntmps105
  go_wp2
  go_ret
  exact ⟨by simp, rfl⟩
def cmp3 (x y : Nat) : Int := if x < y then -1 else if y < x then 1 else 0
set_option maxHeartbeats 1000000 in
theorem compare_any (x y : Nat) (w : World) : Calls Tryd.prog 103 #[.int .i64 x, .int .i64 y] w fun e w' => e = .returned (.int .i64 (cmp3 x y)) ∧ Below w.heap.size w w' := by
  have HX := nan_any x w
  have HY := nan_any y w
  unfold cmp3
  by_cases h1 : x < y
  · rw [if_pos h1]
    have h2 : (x : Int) < (y : Int) := by omega
    go_enter Tryd.func103, Tryd.ntmps103
    go_wp2_with fail
    refine HX.mono ?_
    rintro e w1 ⟨rfl, rfl⟩
    go_wp2_with fail
    refine HY.mono ?_
    rintro e w1 ⟨rfl, rfl⟩
    go_wp2
    go_ret
    exact ⟨rfl, Below.refl _ _⟩
  · rw [if_neg h1]
    have h2 : ¬ (x : Int) < (y : Int) := by omega
    by_cases h3 : y < x
    · rw [if_pos h3]
      have h4 : (y : Int) < (x : Int) := by omega
      go_enter Tryd.func103, Tryd.ntmps103
      go_wp2_with fail
      refine HX.mono ?_
      rintro e w1 ⟨rfl, rfl⟩
      go_wp2_with fail
      refine HY.mono ?_
      rintro e w1 ⟨rfl, rfl⟩
      go_wp2
      go_ret
      exact ⟨rfl, Below.refl _ _⟩
    · rw [if_neg h3]
      have h4 : ¬ (y : Int) < (x : Int) := by omega
      go_enter Tryd.func103, Tryd.ntmps103
      go_wp2_with fail
      refine HX.mono ?_
      rintro e w1 ⟨rfl, rfl⟩
      go_wp2_with fail
      refine HY.mono ?_
      rintro e w1 ⟨rfl, rfl⟩
      go_wp2
      go_ret
      exact ⟨rfl, Below.refl _ _⟩
end Go.Proofs.YtkjebacpmmfflaaDoor
