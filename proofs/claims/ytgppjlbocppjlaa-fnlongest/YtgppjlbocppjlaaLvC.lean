/-
  A map of rows of numbers: what stands at a key; one number appended.
-/
import Derived.Test.YtgppjlbocppjlaaIApp
import Derived.Maps.GroupsBeside
import Derived.OpenShut
import Derived.ChangeSlices
namespace Go.Proofs.Ytgppjlbocppjlaa
open Go.RowKit Go.Maps Go.ChangeShapes Go.ChangeAt
set_option linter.unusedVariables false

theorem Try.zeroSI (w : World) : (zeroValue 32).run Try.prog w = .ok (.slice none 0 0) w := by kernel_rfl
/-- What stands at a key reads as these numbers. -/
def Itm (d : DataW Unit) (zs : List Int) : Prop := (d = .nil ∧ zs = []) ∨ d = .slice (lits .i64 zs) []
theorem lits_inj {zs ys : List Int} (h : (lits .i64 zs : List (DataW Unit)) = lits .i64 ys) : zs = ys := by
  unfold lits at h
  exact (List.map_inj_right (fun a b hab => by simpa using hab)).1 h
theorem Itm.eq {d : DataW Unit} {zs ys : List Int} (h : Itm d zs) (h2 : Itm d ys) : zs = ys := by
  rcases h with ⟨h, rfl⟩ | h <;> rcases h2 with ⟨h2, rfl⟩ | h2
  · rfl
  · rw [h] at h2; cases h2
  · rw [h] at h2; cases h2
  · rw [h] at h2
    injection h2 with h2
    exact lits_inj h2
theorem Itm.of {w : World} {base : Nat} {e : TypeId} {v : Value} {zs : List Int} {d : DataW Unit} (h : w.ownsInts base e .i64 v zs) (hd : d = rowDatum .i64 v zs) : Itm d zs := by
  rcases h.datum (H := Unit) with ⟨h1, h2⟩ | h1
  · exact .inl ⟨hd.trans h1, h2⟩
  · exact .inr (hd.trans h1)

theorem grown_below {w w' : World} (hb : Below w.heap.size w w') : w.grownBy w' none := ⟨hb.os, hb.tape, hb.output, hb.size, fun k hk _ => hb.block k hk⟩
theorem wanted_step8 {P : Program} {ops : Array Oper} {o : Oper} {a : Act} {w : World} {K : Act → World → Prop} {Q : Exit → Act → World → Prop} {E : Prop} (hg : o.guard = none) (h : Oper.wp P o a w K Q) :
    if Region.wanted o (yielded ops a.tmps) = true then Oper.wp P o a w K Q else E := by
  rw [if_pos (by simp [Region.wanted, hg])]
  exact h
theorem wp_append_i1 {o : Oper} {a : Act} {w : World} {K : Act → World → Prop} {Q : Exit → Act → World → Prop} (s x : Operand) (ho : o.op = .call { callee := .builtin .append, args := #[s, x], argTypes := #[32, 32] })
    (B : Nat) (v : Value) (zs : List Int) (hs : a.eval s = v) (hown : OVI w B v zs) (X : Nat) (z : Int) (hx : a.eval x = .slice (some ⟨X, 0, none⟩) 1 1) (hX : w.cell? ⟨X, 0, none⟩ = some (.int .i64 z)) (hz0 : -9223372036854775808 ≤ z) (hz1 : z ≤ 9223372036854775807) (hb1 : zs.length ≤ 1000000) (hbase : B ≤ w.heap.size)
    (h : ∀ v' w', OVI w' B v' (zs ++ [z]) → w.grownBy w' v.ownBlock → (v'.ownBlock = v.ownBlock ∨ v'.ownBlock = some w.heap.size) → K (a.put o.dst v') w') : o.wp Try.prog a w K Q := by
  obtain ⟨i0, hi, hz0', hz1', hz2⟩ := info_parts Try.infoI64
  obtain ⟨v', w', hr, h2, h3, _, h5⟩ := run_append_own_at (P := Try.prog) w B 32 o.type 3 i0 (.int .i64 0) 1 8 Try.underlying32 hi hz0' hz1' hz2 rfl (by decide) v zs.length _ hown.1 ⟨X, 0, none⟩ 1 1 [.int .i64 z] rfl (by
    intro j u hu
    cases j with
    | zero => simp at hu; subst hu; simpa [Addr.add] using hX
    | succ j => simp at hu) (by simp [Value.oneCell']) (by unfold maxLen; omega) (by omega) hbase
  have hr' : (Builtin.append_ #[32, 32] o.type #[v, .slice (some ⟨X, 0, none⟩) 1 1]).run Try.prog w = .ok v' w' := hr
  unfold Oper.wp execOp
  simp only [ho, resolve, invoke, builtin, Sem.run_bind, Sem.run_pure, Result.andThen_ok, List.map_toArray, List.map_cons, List.map_nil, hs, hx, hr']
  refine h v' w' ⟨?_, fun y hy => ?_⟩ h3 h5
  · rw [List.length_append, List.map_append]
    exact h2
  · rcases List.mem_append.1 hy with hy | hy
    · exact hown.2 y hy
    · simp at hy
      omega
theorem blk_cellI {w : World} {R j : Nat} {cur : Array Value} {T : TypeId} {v : Value} (hR : w.heap[R]? = some (.cells cur T (0, 0))) (hv : cur[j]? = some v) : w.cell? ⟨R, j, none⟩ = some v := by
  rw [cell_of_row w R j cur T (0, 0) hR]; exact hv
theorem set_below {w0 w1 w2 : World} {M : Nat} {v : Value} {zs : List Int} {wv : World} (hg1 : w0.grownBy w1 v.ownBlock) (hg2 : w1.grownBy w2 (some M)) (hM : M ≤ w0.heap.size) (ho : OVI wv (M + 1) v zs) : Below M w0 w2 :=
  (((Below.refl M w0).grown hg1 hM (fun j hj => by have := ho.blk hj; omega)).grown hg2 (by have := hg1.size; omega) (fun j hj => by cases hj; exact Nat.le_refl _))
end Go.Proofs.Ytgppjlbocppjlaa
