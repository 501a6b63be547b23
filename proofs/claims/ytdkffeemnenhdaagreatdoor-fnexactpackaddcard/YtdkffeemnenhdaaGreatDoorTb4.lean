/-
  cellsOf of the program.
-/
import Derived.Test.YtdkffeemnenhdaaGreatDoorNum
import Derived.Test.YtdkffeemnenhdaaGreatDoorIApp0
import Derived.Test.YtdkffeemnenhdaaGreatDoorSp3
import Derived.Laws.CopyOwn
namespace Go.Proofs.YtdkffeemnenhdaaGreatDoor
open Go.RowKit
set_option linter.unusedVariables false

/-- How many bits n has. -/
def bl (n : Nat) : Nat := if n = 0 then 0 else Nat.log2 n + 1
theorem bl_all : ∀ n, n < 256 → n < 2 ^ bl n ∧ (∀ k, k < 9 → k < bl n → 2 ^ k ≤ n) ∧ bl n ≤ 8 ∧ (n ≤ 64 → bl n ≤ 7) := by decide +kernel
theorem bl_lt (n : Nat) (h : n < 256) : n < 2 ^ bl n := (bl_all n h).1
theorem bl_ge (n k : Nat) (h : n < 256) (hk : k < bl n) : 2 ^ k ≤ n := (bl_all n h).2.1 k (by have := (bl_all n h).2.2.1; omega) hk
theorem bl_le (n : Nat) (h : n < 256) : bl n ≤ 8 := (bl_all n h).2.2.1
theorem bl_le7 (n : Nat) (h : n ≤ 64) : bl n ≤ 7 := (bl_all n (by omega)).2.2.2 h
theorem bl_zero : bl 0 = 0 := rfl

set_option maxRecDepth 100000 in
set_option maxHeartbeats 1600000 in
theorem len64_int (x : Int) (w : World) (h0 : 0 ≤ x) (h : x < 256) :
    Calls Tryz.prog 139 #[.int .u64 x] w fun e w' => e = .returned (.int .i64 (bl x.toNat : Nat)) ∧ w' = w := by
  generalize hy : ((bl x.toNat : Nat) : Int) = y
  have HY : Hid (((bl x.toNat : Nat) : Int) = y) := hy
  clear hy
  go_enter Tryz.func139, Tryz.ntmps139
  go_wp2
  go_ret
  refine ⟨ret_int ?_, rfl⟩
  rw [← HY.out]
  have hn : x.toNat < 256 := by omega
  have e : ∀ (n : Nat) (S : ByteArray) (h : n < S.size), S[n] = S.data.toList.getD n 0 := by
    intro n S h
    have h' : n < S.data.toList.length := by simpa using h
    rw [List.getD_eq_getElem?_getD, List.getElem?_eq_getElem h']
    rfl
  rw [e]
  generalize x.toNat = n at *
  revert hn
  clear HY e
  revert n
  decide +kernel
theorem len64_any (n : Nat) (w : World) (h : n < 256) :
    Calls Tryz.prog 139 #[.int .u64 (n : Int)] w fun e w' => e = .returned (.int .i64 (bl n : Nat)) ∧ w' = w := by
  have := len64_int (n : Int) w (by omega) (by omega)
  simpa using this

theorem len_any (n : Nat) (w : World) (h : n < 256) :
    Calls Tryz.prog 133 #[.int .u64 (n : Int)] w fun e w' => e = .returned (.int .i64 (bl n : Nat)) ∧ w' = w := by
  go_enter Tryz.func133, Tryz.ntmps133
  go_wp2_with fail
  refine (len64_any n w h).mono ?_
  rintro e w1 ⟨rfl, rfl⟩
  go_wp2
  go_ret
  exact ⟨rfl, rfl⟩
end Go.Proofs.YtdkffeemnenhdaaGreatDoor
namespace Go.Proofs.YtdkffeemnenhdaaGreatDoor
open Go.RowKit
set_option linter.unusedVariables false

/-- The numbers of an answer: nothing, or a whole block of its own, of whatever type, between two blocks. -/
def ArI (w : World) (B U : Nat) (a : Option Addr) (zs : List Int) : Prop :=
  (∀ z ∈ zs, -9223372036854775808 ≤ z ∧ z ≤ 9223372036854775807) ∧ ((a = none ∧ zs = []) ∨ ∃ g T, a = some ⟨g, 0, none⟩ ∧ B ≤ g ∧ g < U ∧ w.heap[g]? = some (.cells (zs.map (Value.int .i64)).toArray T (0, 0)))
theorem arr_cell {w : World} {g : Nat} {T : TypeId} {tb : List Int} (h : w.heap[g]? = some (.cells (tb.map (Value.int .i64)).toArray T (0, 0))) (x : Nat) (hx : x < tb.length) : w.cell? ⟨g, x, none⟩ = some (.int .i64 (tb.getD x 0)) := by
  rw [cell_of_row _ _ x _ _ _ h]
  simp [List.getD_eq_getElem?_getD, hx]
section
variable {w W W' : World} {B U B' U' : Nat} {a : Option Addr} {zs : List Int}
theorem ArI.byt (h : ArI w B U a zs) : Ins w a zs := by
  refine ⟨h.1, fun hp => ?_⟩
  rcases h.2 with ⟨_, rfl⟩ | ⟨g, T, rfl, _, _, h2⟩
  · simp at hp
  · exact ⟨g, 0, rfl, (Array.getElem?_eq_some_iff.1 h2).1, fun i hi => by rw [Nat.zero_add]; exact arr_cell h2 i hi⟩
theorem ArI.only {S : Nat → Prop} (h : ArI w B U a zs) (ho : Only S w W') (hs : ∀ k, B ≤ k → k < U → ¬ S k) : ArI W' B U a zs := by
  refine ⟨h.1, ?_⟩
  rcases h.2 with h | ⟨g, T, rfl, h1, h2, h3⟩
  · exact .inl h
  · exact .inr ⟨g, T, rfl, h1, h2, (ho.block g (Array.getElem?_eq_some_iff.1 h3).1 (hs g h1 h2)).trans h3⟩
theorem ArI.below (h : ArI w B U a zs) (ho : Below w.heap.size w W') : ArI W' B U a zs := h.only (Only.ofBelow (S := fun _ => False) ho (Nat.le_refl _)) (by simp)
theorem ArI.mono (h : ArI w B U a zs) (h1 : B' ≤ B) (h2 : U ≤ U') : ArI w B' U' a zs := by
  refine ⟨h.1, ?_⟩
  rcases h.2 with h | ⟨g, T, rfl, g1, g2, h3⟩
  · exact .inl h
  · exact .inr ⟨g, T, rfl, by omega, by omega, h3⟩
theorem ArI.row (h : ArI w B U a zs) {k : Nat} (hk : rowOf a k) : B ≤ k ∧ k < U := by
  obtain ⟨x, hx, rfl⟩ := hk
  rcases h.2 with ⟨h', _⟩ | ⟨g, T, h', g1, g2, _⟩
  · rw [h'] at hx; cases hx
  · rw [h'] at hx
    simp at hx
    rw [← hx]
    exact ⟨g1, g2⟩
end

end Go.Proofs.YtdkffeemnenhdaaGreatDoor
namespace Go.Proofs.YtdkffeemnenhdaaGreatDoor
open Go.RowKit
set_option linter.unusedVariables false

def zer (n : Nat) : List Int := List.replicate n 0
def cel (l : List Int) : Array Value := (l.map (Value.int .i64)).toArray
theorem infoTab : (Tryz.prog.info? 182).bind (·.zero) = some (.agg (cel (zer 192))) := by kernel_rfl
theorem infoNxt : (Tryz.prog.info? 183).bind (·.zero) = some (.agg (cel (zer 80))) := by kernel_rfl
theorem zeroOf {P : Program} {t : TypeId} {z : Value} (h : (P.info? t).bind (·.zero) = some z) (w : World) : (zeroValue t).run P w = .ok z w := by
  cases hi : P.info? t with
  | none => rw [hi] at h; simp at h
  | some i =>
    rw [hi] at h
    simp at h
    simp [zeroValue, typeInfo, hi, h]
theorem zeroTab (w : World) : (zeroValue 182).run Tryz.prog w = .ok (.agg (cel (zer 192))) w := zeroOf infoTab w
theorem zeroNxt (w : World) : (zeroValue 183).run Tryz.prog w = .ok (.agg (cel (zer 80))) w := zeroOf infoNxt w

theorem splice_zer (zs : List Int) (L : Nat) (h : zs.length = L) : splice ((zer 80).map (Value.int .i64)) 0 (zs.map (Value.int .i64)) = (zs ++ zer (80 - L)).map (Value.int .i64) := by
  unfold splice
  rw [List.take_zero, List.nil_append, Nat.zero_add, List.length_map, h, ← List.map_drop, List.map_append]
  unfold zer
  rw [List.drop_replicate]
theorem index_row (E : Array Value) (k s : Nat) (hk : k < 64) (hE : E[k]? = some (.int .i64 (s : Int))) (W : World) : (Instr.index 184 (.agg E) (.int .i64 (k : Int))).run Tryz.prog W = .ok (.int .i64 (s : Int)) W := by
  obtain ⟨i0, hi, hz0, hz1, hz2⟩ := info_parts Tryz.infoI64
  simp [Instr.index, asIntOf, run_underlying Tryz.underlying184, run_underlying Tryz.underlying3, Go.part, isAgg, sizeOf, typeInfo, hi, hz1, hE, hk]

theorem wd_bl : ∀ X, X < 128 → 1 ≤ X → bl X + wd X = 7 := by decide +kernel

end Go.Proofs.YtdkffeemnenhdaaGreatDoor
