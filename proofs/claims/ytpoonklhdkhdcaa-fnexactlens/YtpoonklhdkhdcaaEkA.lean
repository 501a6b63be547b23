/-
  The model's packs in memory: what each weighs, and the symbols that it has.
-/
import Derived.Maps.AppendAt
import Derived.Test.YtpoonklhdkhdcaaPcU
namespace Go.Proofs.Ytpoonklhdkhdcaa
open Go.RowKit
set_option linter.unusedVariables false
set_option linter.unusedSimpArgs false

def Pc.sy : Pc → List Int
  | .coin s c => [(s : Int)]
  | .pack a b n => a.sy ++ b.sy
theorem sy_len (p : Pc) : p.sy.length = p.sz := by
  induction p with
  | coin s c => rfl
  | pack a b n iha ihb => simp [Pc.sy, Pc.sz, iha, ihb]
/-- A pack, and where its symbols lie. -/
structure Ek where
  p : Pc
  a : Option Addr
  c : Nat
def dek : Ek := ⟨dpc, none, 0⟩
def Ek.cells (e : Ek) : List Value := [.int .i64 e.p.wt, .slice e.a e.p.sy.length e.c]
theorem ek_flat (es : List Ek) (i : Nat) (hi : i < es.length) (j : Nat) (hj : j < 2) : (es.flatMap Ek.cells)[i * 2 + j]? = ((es.getD i dek).cells)[j]? := by
  induction es generalizing i with
  | nil => simp at hi
  | cons e es ih =>
    cases i with
    | zero =>
      simp only [List.flatMap_cons, Nat.zero_mul, Nat.zero_add]
      rw [List.getElem?_append_left (by simp [Ek.cells]; exact hj)]
      rfl
    | succ i =>
      simp only [List.flatMap_cons]
      rw [List.getElem?_append_right (by simp [Ek.cells]; omega)]
      have h := ih i (by simpa using hi)
      rw [show (i + 1) * 2 + j - e.cells.length = i * 2 + j by simp [Ek.cells]; omega, h]
      rfl
theorem ek_flen (es : List Ek) : (es.flatMap Ek.cells).length = es.length * 2 := by
  induction es with
  | nil => rfl
  | cons e es ih => simp [List.flatMap_cons, ih, Ek.cells]; omega
theorem ek_one (es : List Ek) : ∀ u ∈ es.flatMap Ek.cells, u.oneCell' = true := fun u hu => by
  obtain ⟨e, _, he⟩ := List.mem_flatMap.1 hu
  simp only [Ek.cells, List.mem_cons, List.not_mem_nil, or_false] at he
  rcases he with rfl | rfl <;> rfl
/-- The slice at a has the packs es. -/
def Eks (w : World) (a : Option Addr) (es : List Ek) : Prop :=
  0 < es.length → ∃ b off, a = some ⟨b, off, none⟩ ∧ b < w.heap.size ∧ ∀ i, i < es.length → w.cell? ⟨b, off + i * 2, none⟩ = some (.int .i64 (es.getD i dek).p.wt) ∧ w.cell? ⟨b, off + i * 2 + 1, none⟩ = some (.slice (es.getD i dek).a (es.getD i dek).p.sy.length (es.getD i dek).c)
theorem Eks.below {w w' : World} {a : Option Addr} {es : List Ek} (h : Eks w a es) (hb : Below w.heap.size w w') : Eks w' a es := fun h0 => by
  obtain ⟨b, o, e, hl, hc⟩ := h h0
  exact ⟨b, o, e, Nat.lt_of_lt_of_le hl hb.size, fun i hi => ⟨keep hb hl (hc i hi).1, keep hb hl (hc i hi).2⟩⟩
/-- A slice value (nil, or a row of the call's own from block B on) that has the packs es. -/
def OVk (w : World) (B : Nat) (v : Value) (es : List Ek) : Prop := w.ownsRow B 41 2 v es.length (es.flatMap Ek.cells)
theorem OVk.nil (w : World) (B : Nat) : OVk w B (.slice none 0 0) [] := ⟨rfl, .inl ⟨rfl, rfl⟩⟩
theorem OVk.slice {w : World} {B : Nat} {v : Value} {es : List Ek} (h : OVk w B v es) : ∃ a c, v = .slice a es.length c ∧ Eks w a es ∧ es.length ≤ c ∧ ((a = none ∧ es = [] ∧ c = 0) ∨ ∃ g, a = some ⟨g, 0, none⟩) := by
  rcases h.2 with ⟨rfl, h1⟩ | ⟨g, cap, cur, rfl, hg, hh, h4, h5, h6, h7⟩
  · have : es = [] := List.length_eq_zero_iff.1 h1
    subst this
    exact ⟨none, 0, rfl, fun h => by simp at h, Nat.le_refl _, .inl ⟨rfl, rfl, rfl⟩⟩
  · refine ⟨_, cap, rfl, fun h0 => ⟨g, 0, rfl, (Array.getElem?_eq_some_iff.1 hh).1, fun i hi => ?_⟩, h4, .inr ⟨g, rfl⟩⟩
    have e0 := ek_flat es i hi 0 (by omega)
    have e1 := ek_flat es i hi 1 (by omega)
    have c0 := World.ownsRow.cellAt h (i * 2 + 0) (by omega)
    have c1 := World.ownsRow.cellAt h (i * 2 + 1) (by omega)
    rw [e0] at c0
    rw [e1] at c1
    simp only [Nat.zero_add, Nat.add_zero] at c0 c1 ⊢
    exact ⟨by rw [c0]; rfl, by rw [c1]; rfl⟩
theorem OVk.below {w w' : World} {B : Nat} {v : Value} {es : List Ek} (h : OVk w B v es) (hb : Below w.heap.size w w') : OVk w' B v es := by
  have hg : w.grownBy w' none := ⟨hb.os, hb.tape, hb.output, hb.size, fun k hk _ => hb.block k hk⟩
  exact World.ownsRow.kept h hg (by cases v.ownBlock <;> simp)
theorem OVk.mono {w : World} {B B' : Nat} {v : Value} {es : List Ek} (h : OVk w B v es) (hB : B' ≤ B) : OVk w B' v es := by
  refine ⟨h.1, ?_⟩
  rcases h.2 with h' | ⟨g, cap, cur, h', hg, r⟩
  · exact .inl h'
  · exact .inr ⟨g, cap, cur, h', by omega, r⟩
theorem OVk.onlyS {S : Nat → Prop} {w w' : World} {B : Nat} {v : Value} {es : List Ek} (h : OVk w B v es) (ho : Only S w w') (hs : ∀ k, v.ownBlock = some k → ¬ S k) : OVk w' B v es := by
  refine ⟨h.1, ?_⟩
  rcases h.2 with h' | ⟨g, cap, cur, rfl, hg, hh, r⟩
  · exact .inl h'
  · exact .inr ⟨g, cap, cur, rfl, hg, (ho.block g (Array.getElem?_eq_some_iff.1 hh).1 (hs g rfl)).trans hh, r⟩
theorem OVk.tag {w : World} {B : Nat} {v : Value} {es : List Ek} (h : OVk w B v es) {k : Nat} (hk : v.ownBlock = some k) : ∃ cur, w.heap[k]? = some (.cells cur 41 (0, 0)) := by
  rcases h.2 with ⟨rfl, _⟩ | ⟨g, cap, cur, rfl, hg, hh, r⟩
  · simp [Value.ownBlock] at hk
  · simp [Value.ownBlock] at hk
    subst hk
    exact ⟨cur, hh⟩
theorem Try.infoEk : (Try.prog.info? 41).map (fun i => (i.zero, i.size, i.bytes)) = some (some (.agg #[.int .i64 0, .slice none 0 0]), 2, 32) := by kernel_rfl
theorem run_append_ek {w : World} {ty : TypeId} {B : Nat} {v : Value} {es fs : List Ek} {a : Option Addr} {c : Nat} (h : OVk w B v es) (hq : Eks w a fs) (hl : es.length + fs.length ≤ 100000) (hB : B ≤ w.heap.size) :
    ∃ v' w', (Builtin.append_ #[39, 39] ty #[v, .slice a fs.length c]).run Try.prog w = .ok v' w' ∧ OVk w' B v' (es ++ fs) ∧ w.grownBy w' v.ownBlock ∧ (v'.ownBlock = v.ownBlock ∨ v'.ownBlock = some w.heap.size) := by
  obtain ⟨i0, hi, hz0, hz1, hz2⟩ := info_parts Try.infoEk
  have h1 := Try.underlying39
  by_cases h0 : fs.length = 0
  · obtain rfl : fs = [] := List.length_eq_zero_iff.1 h0
    refine ⟨v, w, ?_, by simpa using h, ⟨rfl, rfl, rfl, Nat.le_refl _, fun _ _ _ => rfl⟩, .inl rfl⟩
    obtain ⟨a', c', rfl, _, hc, _⟩ := h.slice
    simp [Builtin.append_, run_underlying h1, sizeOf, typeInfo, hi, Builtin.lenOf, Builtin.firstCells, loadCells, loadCellsFrom, hc]
    cases a <;> cases a' <;> simp [Result.andThen, storeCells]
  · obtain ⟨b, off, rfl, hbl, hc⟩ := hq (by omega)
    obtain ⟨v', w', hr, ho, hg, _, hat⟩ := run_append_own_at (P := Try.prog) w B 39 ty 41 i0 _ 2 32 h1 hi hz0 hz1 hz2 rfl (by decide) v es.length (es.flatMap Ek.cells) h ⟨b, off, none⟩ fs.length c (fs.flatMap Ek.cells) (ek_flen fs) (by
      intro j u hu
      have hj : j < fs.length * 2 := by rw [← ek_flen fs]; exact (List.getElem?_eq_some_iff.1 hu).1
      have h2 : (⟨b, off, none⟩ : Addr).add j = ⟨b, off + j, none⟩ := by
        cases j with
        | zero => simp [Addr.add]
        | succ j => simp [Addr.add]
      rw [h2]
      have hcj := hc (j / 2) (by omega)
      have hf := ek_flat fs (j / 2) (by omega) (j % 2) (by omega)
      rw [show j / 2 * 2 + j % 2 = j by omega, hu] at hf
      rcases Nat.mod_two_eq_zero_or_one j with hm | hm
      · rw [hm] at hf
        rw [show off + j = off + j / 2 * 2 by omega, hcj.1]
        simpa [Ek.cells] using hf.symm
      · rw [hm] at hf
        rw [show off + j = off + j / 2 * 2 + 1 by omega, hcj.2]
        simpa [Ek.cells] using hf.symm) (ek_one fs) (by unfold maxLen; omega) (by omega) hB
    refine ⟨v', w', hr, ?_, hg, hat⟩
    unfold OVk
    rw [List.length_append, List.flatMap_append]
    exact ho
theorem wp_append_ek {o : Oper} {act : Act} {w : World} {K : Act → World → Prop} {Q : Exit → Act → World → Prop} (s x : Operand) (ho : o.op = .call { callee := .builtin .append, args := #[s, x], argTypes := #[39, 39] })
    {B : Nat} {v : Value} {es fs : List Ek} {a : Option Addr} {c n : Nat} (hs : act.eval s = v) (hx : act.eval x = .slice a n c) (hn : n = fs.length) (h : OVk w B v es) (hq : Eks w a fs) (hl : es.length + fs.length ≤ 100000) (hB : B ≤ w.heap.size)
    (hk : ∀ v' w', OVk w' B v' (es ++ fs) → w.grownBy w' v.ownBlock → (v'.ownBlock = v.ownBlock ∨ v'.ownBlock = some w.heap.size) → K (act.put o.dst v') w') : o.wp Try.prog act w K Q := by
  subst hn
  obtain ⟨v', w', hr, r1, r2, r3⟩ := run_append_ek (ty := o.type) (c := c) h hq hl hB
  unfold Oper.wp execOp
  simp only [ho, resolve, invoke, builtin, Sem.run_bind, Sem.run_pure, Result.andThen_ok, List.map_toArray, List.map_cons, List.map_nil, hs, hx, hr]
  exact hk v' w' r1 r2 r3
theorem wpList_append_ek {ops : Array Oper} {rest : List Oper} {o : Oper} {act : Act} {w : World} {Q : Exit → Act → World → Prop} (hgd : o.guard = none) (s x : Operand) (ho : o.op = .call { callee := .builtin .append, args := #[s, x], argTypes := #[39, 39] })
    {B : Nat} {v : Value} {es fs : List Ek} {a : Option Addr} {c n : Nat} (hs : act.eval s = v) (hx : act.eval x = .slice a n c) (hn : n = fs.length) (h : OVk w B v es) (hq : Eks w a fs) (hl : es.length + fs.length ≤ 100000) (hB : B ≤ w.heap.size)
    (hk : ∀ v' w', OVk w' B v' (es ++ fs) → w.grownBy w' v.ownBlock → (v'.ownBlock = v.ownBlock ∨ v'.ownBlock = some w.heap.size) → wpList Try.prog ops Q rest (act.put o.dst v') w') : wpList Try.prog ops Q (o :: rest) act w := by
  refine wpList_plain hgd fun K hK => ?_
  exact wp_append_ek s x ho hs hx hn h hq hl hB (fun v' w' r1 r2 r3 => hK _ _ (hk v' w' r1 r2 r3))
theorem eks_one (w : World) (e : Ek) : Eks (w.alloc (Obj.cells #[.int .i64 e.p.wt, .slice e.a e.p.sy.length e.c] 41)) (some ⟨w.heap.size, 0, none⟩) [e] := fun _ =>
  ⟨w.heap.size, 0, rfl, by simp, fun i hi => by
    have hi0 : i = 0 := by simpa using hi
    subst hi0
    exact ⟨cell_blk (heap_alloc_new w _) rfl, cell_blk (heap_alloc_new w _) rfl⟩⟩
end Go.Proofs.Ytpoonklhdkhdcaa
