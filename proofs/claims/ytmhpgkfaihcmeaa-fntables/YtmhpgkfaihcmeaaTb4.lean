/-
  cellsOf of the program.
-/
import Derived.Test.YtmhpgkfaihcmeaaTb2
import Derived.Test.YtmhpgkfaihcmeaaSp3
import Derived.Test.YtmhpgkfaihcmeaaBLen
import Derived.Test.YtmhpgkfaihcmeaaArR
import Derived.Laws.CopyOwn
namespace Go.Proofs.Ytmhpgkfaihcmeaa
open Go.RowKit
set_option linter.unusedVariables false

def zer (n : Nat) : List Int := List.replicate n 0
def cel (l : List Int) : Array Value := (l.map (Value.int .i64)).toArray
theorem infoTab : (Try.prog.info? 50).bind (·.zero) = some (.agg (cel (zer 192))) := by kernel_rfl
theorem infoNxt : (Try.prog.info? 51).bind (·.zero) = some (.agg (cel (zer 80))) := by kernel_rfl
theorem zeroOf {P : Program} {t : TypeId} {z : Value} (h : (P.info? t).bind (·.zero) = some z) (w : World) : (zeroValue t).run P w = .ok z w := by
  cases hi : P.info? t with
  | none => rw [hi] at h; simp at h
  | some i =>
    rw [hi] at h
    simp at h
    simp [zeroValue, typeInfo, hi, h]
theorem zeroTab (w : World) : (zeroValue 50).run Try.prog w = .ok (.agg (cel (zer 192))) w := zeroOf infoTab w
theorem zeroNxt (w : World) : (zeroValue 51).run Try.prog w = .ok (.agg (cel (zer 80))) w := zeroOf infoNxt w

theorem splice_zer (zs : List Int) (L : Nat) (h : zs.length = L) : splice ((zer 80).map (Value.int .i64)) 0 (zs.map (Value.int .i64)) = (zs ++ zer (80 - L)).map (Value.int .i64) := by
  unfold splice
  rw [List.take_zero, List.nil_append, Nat.zero_add, List.length_map, h, ← List.map_drop, List.map_append]
  unfold zer
  rw [List.drop_replicate]
theorem index_row (E : Array Value) (k s : Nat) (hk : k < 64) (hE : E[k]? = some (.int .i64 (s : Int))) (W : World) : (Instr.index 43 (.agg E) (.int .i64 (k : Int))).run Try.prog W = .ok (.int .i64 (s : Int)) W := by
  obtain ⟨i0, hi, hz0, hz1, hz2⟩ := info_parts Try.infoI64
  simp [Instr.index, asIntOf, run_underlying Try.underlying43, run_underlying Try.underlying3, Go.part, isAgg, sizeOf, typeInfo, hi, hz1, hE, hk]

theorem wd_bl : ∀ X, X < 128 → 1 ≤ X → bl X + wd X = 7 := by decide +kernel

end Go.Proofs.Ytmhpgkfaihcmeaa
