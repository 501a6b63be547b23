/-
  Lists of bytes copied by an append, at a step of a region that draws its order.
-/
import Derived.Test.YtbkmdgceobilkaaBApp
namespace Go.Proofs.Ytbkmdgceobilkaa
open Go.RowKit
set_option linter.unusedVariables false

theorem heap_new (w : World) (o : Obj) : (w.alloc o).heap[w.heap.size]? = some o := by simp only [World.alloc, Array.getElem?_push_size]
theorem run_append_byt (w : World) (ty : TypeId) (B : Nat) (v : Value) (zs : List Int) (hown : OVB w B v zs) (xa : Option Addr) (c : Nat) (ys : List Int) (hy : Byt w xa ys) (hb1 : zs.length + ys.length ≤ 1000000) (hbase : B ≤ w.heap.size) :
    ∃ v' w', (Builtin.append_ #[22, 22] ty #[v, .slice xa ys.length c]).run Try.prog w = .ok v' w' ∧ OVB w' B v' (zs ++ ys) ∧ w.grownBy w' v.ownBlock := by
  obtain ⟨i0, hi, hz0, hz1, hz2⟩ := info_parts Try.infoU8
  have hr : ∀ z ∈ zs ++ ys, 0 ≤ z ∧ z ≤ 255 := fun z hz => (List.mem_append.1 hz).elim (hown.2 z) (hy.1 z)
  cases xa with
  | none =>
    have hy0 : ys = [] := by
      rcases Nat.eq_zero_or_pos ys.length with h0 | h0
      · exact List.eq_nil_of_length_eq_zero h0
      · obtain ⟨b, off, e, _⟩ := hy.2 h0
        cases e
    subst hy0
    exact ⟨v, w, run_append_none (P := Try.prog) w 22 ty 5 i0 Try.underlying22 hi B 1 zs.length v _ hown.1 c, by simpa using hown, World.grownBy.refl w _⟩
  | some ad =>
    have hnews : ∀ j u, (ys.map (Value.int .u8))[j]? = some u → w.cell? (ad.add j) = some u := by
      intro j u hu
      have hj : j < ys.length := by
        rcases Nat.lt_or_ge j ys.length with h | h
        · exact h
        · rw [List.getElem?_eq_none (by simpa using h)] at hu; cases hu
      obtain ⟨b, off, e, _, hc⟩ := hy.2 (by omega)
      obtain rfl : ad = ⟨b, off, none⟩ := by simpa using e
      exact news_of hc j u hu
    obtain ⟨v', w', hrun, h2, h3, _, _⟩ := run_append_own_at (P := Try.prog) w B 22 ty 5 i0 (.int .u8 0) 1 1 Try.underlying22 hi hz0 hz1 hz2 rfl (by decide) v zs.length _ hown.1 ad ys.length c (ys.map (Value.int .u8)) (by simp) hnews (oneCells ys) (by unfold maxLen; omega) (by omega) hbase
    refine ⟨v', w', hrun, ⟨?_, hr⟩, h3⟩
    rw [List.length_append, List.map_append]
    exact h2
theorem wanted_step {P : Program} {ops : Array Oper} {o : Oper} {a : Act} {w : World} {K : Act → World → Prop} {Q : Exit → Act → World → Prop} {E : Prop} (hg : o.guard = none) (h : Oper.wp P o a w K Q) :
    if Region.wanted o (yielded ops a.tmps) = true then Oper.wp P o a w K Q else E := by
  rw [if_pos (by simp [Region.wanted, hg])]
  exact h
theorem OVB.empty (w : World) (B : Nat) (hB : B ≤ w.heap.size) : OVB (w.alloc (Obj.cells #[] 5)) B (.slice (some ⟨w.heap.size, 0, none⟩) 0 0) [] :=
  ⟨⟨rfl, .inr ⟨w.heap.size, 0, #[], rfl, hB, heap_new w _, Nat.le_refl _, by simp, rfl, rfl⟩⟩, by simp⟩
theorem wp_append_byt {o : Oper} {a : Act} {w : World} {K : Act → World → Prop} {Q : Exit → Act → World → Prop} (s x : Operand) (ho : o.op = .call { callee := .builtin .append, args := #[s, x], argTypes := #[22, 22] })
    (B : Nat) (v : Value) (zs : List Int) (hs : a.eval s = v) (hown : OVB w B v zs) (xa : Option Addr) (c : Nat) (ys : List Int) (hx : a.eval x = .slice xa ys.length c) (hy : Byt w xa ys) (hb1 : zs.length + ys.length ≤ 1000000) (hbase : B ≤ w.heap.size)
    (h : ∀ v' w', OVB w' B v' (zs ++ ys) → w.grownBy w' v.ownBlock → K (a.put o.dst v') w') : o.wp Try.prog a w K Q := by
  obtain ⟨v', w', hr, h2, h3⟩ := run_append_byt w o.type B v zs hown xa c ys hy hb1 hbase
  unfold Oper.wp execOp
  simp only [ho, resolve, invoke, builtin, Sem.run_bind, Sem.run_pure, Result.andThen_ok, List.map_toArray, List.map_cons, List.map_nil, hs, hx, hr]
  exact h v' w' h2 h3
end Go.Proofs.Ytbkmdgceobilkaa
