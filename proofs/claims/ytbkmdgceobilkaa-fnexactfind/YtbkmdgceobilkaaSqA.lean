/-
  Rows of sequences that grow by an append.
-/
import Derived.Test.YtbkmdgceobilkaaSqT0
import Derived.Test.YtbkmdgceobilkaaBApp
import Derived.Maps.AppendAt
namespace Go.Proofs.Ytbkmdgceobilkaa
open Go.RowKit
set_option linter.unusedVariables false

/-- A slice value (nil, or a row of the call's own from block B on) that has the sequences ss; their letters may lie anywhere. -/
structure OVq (w : World) (B : Nat) (v : Value) (ss : List Sq) : Prop where
  own : w.ownsRow B 43 3 v ss.length (ss.flatMap Sq.cells)
/-- The letters of all of them are the call's own, each in a block of its own. -/
structure DeepQ (w : World) (B : Nat) (ss : List Sq) : Prop where
  mine : ∀ s ∈ ss, Mine w B w.heap.size s.a s.c s.ls
  apart : (ss.map Sq.a).Pairwise (fun x y => ∀ k, rowOf x k → ¬ rowOf y k)
section
variable {w w' : World} {B : Nat} {v : Value} {ss : List Sq}
theorem OVq.nil (w : World) (B : Nat) : OVq w B (.slice none 0 0) [] := ⟨⟨by simp, .inl ⟨rfl, rfl⟩⟩⟩
theorem OVq.form (h : OVq w B v ss) : ∃ (a : Option Addr) (c : Nat), v = .slice a ss.length c := by
  rcases h.own.2 with ⟨rfl, h0⟩ | ⟨g, cap, cur, rfl, _⟩
  · exact ⟨none, 0, by rw [h0]⟩
  · exact ⟨_, _, rfl⟩
theorem OVq.blk (h : OVq w B v ss) {k : Nat} (hk : v.ownBlock = some k) : B ≤ k ∧ k < w.heap.size := by
  rcases h.own.2 with ⟨rfl, h0⟩ | ⟨g, cap, cur, rfl, hg, hh, _⟩
  · simp [Value.ownBlock] at hk
  · simp [Value.ownBlock] at hk
    subst hk
    exact ⟨hg, (Array.getElem?_eq_some_iff.1 hh).1⟩
theorem OVq.stay {S : Nat → Prop} (h : OVq w B v ss) (ho : Only S w w') (hs : ∀ k, v.ownBlock = some k → ¬ S k) : OVq w' B v ss := by
  refine ⟨⟨h.own.1, ?_⟩⟩
  rcases h.own.2 with h' | ⟨g, cap, cur, rfl, hg, hh, r⟩
  · exact .inl h'
  · exact .inr ⟨g, cap, cur, rfl, hg, (ho.block g (Array.getElem?_eq_some_iff.1 hh).1 (hs g rfl)).trans hh, r⟩
theorem OVq.below (h : OVq w B v ss) (hb : Below w.heap.size w w') : OVq w' B v ss := h.stay (Only.ofBelow (S := fun _ => False) hb (Nat.le_refl _)) (by simp)
theorem OVq.weak {B' : Nat} (h : OVq w B v ss) (hB : B' ≤ B) : OVq w B' v ss := by
  refine ⟨⟨h.own.1, ?_⟩⟩
  rcases h.own.2 with h' | ⟨g, cap, cur, h', hg, r⟩
  · exact .inl h'
  · exact .inr ⟨g, cap, cur, h', by omega, r⟩
/-- The row lies in another block than one of another type. -/
theorem OVq.ne (h : OVq w B v ss) {Q : Nat} {cur : Array Value} {T : TypeId} (hQ : w.heap[Q]? = some (.cells cur T (0, 0))) (hT : T ≠ 43) : v.ownBlock ≠ some Q := by
  rcases h.own.2 with ⟨rfl, h0⟩ | ⟨g, cap, cur', rfl, hg, hh, _⟩
  · simp [Value.ownBlock]
  · simp only [Value.ownBlock, ne_eq, Option.some.injEq]
    rintro rfl
    rw [hQ] at hh
    simp at hh
    exact hT hh.2
theorem OVq.sqs {a : Option Addr} {n c : Nat} (h : OVq w B (.slice a n c) ss) (hr : ∀ s ∈ ss, (rI s.n ∧ rI s.d ∧ s.ls.length ≤ maxLen) ∧ Byt w s.a s.ls) : Sqs w a ss := by
  refine ⟨fun s hs => (hr s hs).1, fun hz => ?_⟩
  rcases h.own.2 with ⟨_, h0⟩ | ⟨g, cap, cur, e, hg, hh, r⟩
  · omega
  · simp at e
    obtain ⟨rfl, rfl, rfl⟩ := e
    refine ⟨g, 0, rfl, (Array.getElem?_eq_some_iff.1 hh).1, fun i hi => ?_⟩
    obtain ⟨f0, f1, f2⟩ := flat_get ss i hi
    refine ⟨?_, ?_, ?_, (hr _ (getD_memS hi)).2⟩
    · rw [Nat.zero_add, h.own.cellAt (i * 3) (by omega), f0]
    · rw [Nat.zero_add, h.own.cellAt (i * 3 + 1) (by omega), f1]
    · rw [Nat.zero_add, h.own.cellAt (i * 3 + 2) (by omega), f2]
theorem DeepQ.nil (w : World) (B : Nat) : DeepQ w B [] := ⟨by simp, by simp⟩
theorem Mine.stayQ {S : Nat → Prop} {a : Option Addr} {U c : Nat} {zs : List Int} (h : Mine w B U a c zs) (ho : Only S w w') (hs : ∀ k, rowOf a k → ¬ S k) : Mine w' B U a c zs := by
  rcases h with h | ⟨g, rfl, h1, h2, h⟩
  · exact .inl h
  · exact .inr ⟨g, rfl, h1, h2, h.only ho (hs g ⟨_, rfl, rfl⟩)⟩
theorem DeepQ.stay {S : Nat → Prop} (h : DeepQ w B ss) (ho : Only S w w') (hs : ∀ s ∈ ss, ∀ k, rowOf s.a k → ¬ S k) : DeepQ w' B ss :=
  ⟨fun s hm => ((h.mine s hm).stayQ ho (hs s hm)).mono (Nat.le_refl _) ho.size, h.apart⟩
theorem DeepQ.below (h : DeepQ w B ss) (hb : Below w.heap.size w w') : DeepQ w' B ss := h.stay (Only.ofBelow (S := fun _ => False) hb (Nat.le_refl _)) (by simp)
theorem DeepQ.snoc {s : Sq} (h : DeepQ w B ss) (hm : Mine w B w.heap.size s.a s.c s.ls) (hap : ∀ x ∈ ss, ∀ k, rowOf x.a k → ¬ rowOf s.a k) : DeepQ w B (ss ++ [s]) := by
  refine ⟨fun x hx => ?_, ?_⟩
  · rcases List.mem_append.1 hx with hx | hx
    · exact h.mine x hx
    · obtain rfl : x = s := by simpa using hx
      exact hm
  · rw [List.map_append, List.pairwise_append]
    refine ⟨h.apart, by simp, fun x hx y hy => ?_⟩
    obtain ⟨z, hz, rfl⟩ := List.mem_map.1 hx
    obtain rfl : y = s.a := by simpa using hy
    exact hap z hz
theorem bytes_ne {a : Option Addr} {B' U c : Nat} {zs : List Int} (hm : Mine w B' U a c zs) {Q : Nat} {cur : Array Value} {T : TypeId} (hQ : w.heap[Q]? = some (.cells cur T (0, 0))) (hT : T ≠ 5) : ¬ rowOf a Q := by
  rintro ⟨x, hx, hxg⟩
  rcases hm with ⟨h', _⟩ | ⟨g', h', g1, g2, ho⟩
  · rw [h'] at hx; cases hx
  · rw [h'] at hx
    simp at hx
    rw [← hx] at hxg
    simp at hxg
    subst hxg
    rcases ho.1.2 with ⟨e, _⟩ | ⟨k, cap1, cur1, e, _, hh, _⟩
    · simp at e
    · obtain rfl : g' = k := by simp at e; exact e.1
      rw [hQ] at hh
      simp at hh
      exact hT hh.2
/-- The letters lie in other blocks than the row. -/
theorem OVq.other (h : OVq w B v ss) {a : Option Addr} {B' U c : Nat} {zs : List Int} (hm : Mine w B' U a c zs) {g : Nat} (hg : v.ownBlock = some g) : ¬ rowOf a g := by
  rcases h.own.2 with ⟨e2, _⟩ | ⟨k2, cap2, cur2, e2, _, hh2, _⟩
  · subst e2; simp [Value.ownBlock] at hg
  · subst e2
    obtain rfl : k2 = g := by simpa [Value.ownBlock] using hg
    exact bytes_ne hm hh2 (by decide)
theorem Only.ofGrownQ {row : Option Nat} (hg : w.grownBy w' row) : Only (fun k => row = some k) w w' := (Only.refl (fun k => row = some k) w).grown hg (fun k hk => .inl hk)
theorem DeepQ.grown {ts : List Sq} (hd : DeepQ w B ts) (h : OVq w B v ss) (hg : w.grownBy w' v.ownBlock) : DeepQ w' B ts :=
  hd.stay (Only.ofGrownQ hg) (fun x hx k hk e => h.other (hd.mine x hx) e hk)
theorem DeepQ.byt (h : DeepQ w B ss) {s : Sq} (hs : s ∈ ss) : Byt w s.a s.ls := (h.mine s hs).byt
end
theorem oneCellQ (s : Sq) : ∀ u ∈ s.cells, u.oneCell' = true := by
  intro u hu
  simp [Sq.cells] at hu
  rcases hu with rfl | rfl | rfl <;> rfl
theorem newsQ (w : World) (a : Option Addr) (L c : Nat) (n d : Int) (T : TypeId) (s : Sq) (h1 : s.a = a) (h2 : s.ls.length = L) (h3 : s.c = c) (h4 : s.n = n) (h5 : s.d = d) : ∀ j u, s.cells[j]? = some u → (w.alloc (Obj.cells #[.slice a L c, .int .i64 n, .int .i64 d] T)).cell? ⟨w.heap.size, j, none⟩ = some u := by
  intro j u hu
  subst h1 h2 h3 h4 h5
  match j with
  | 0 => simp [Sq.cells] at hu; simp [hu]
  | 1 => simp [Sq.cells] at hu; simp [hu]
  | 2 => simp [Sq.cells] at hu; simp [hu]
  | j + 3 => simp [Sq.cells] at hu
/-- append(l, s): one more, and where it lies. -/
theorem wpList_append_sq {ops : Array Oper} {rest : List Oper} {o : Oper} {a : Act} {Q : Exit → Act → World → Prop} {w : World} (hgd : o.guard = none) (s x : Operand)
    (ho : o.op = .call { callee := .builtin .append, args := #[s, x], argTypes := #[28, 28] })
    (B : Nat) (v : Value) (ss : List Sq) (hs : a.eval s = v) (hown : OVq w B v ss) (X c : Nat) (e : Sq) (hx : a.eval x = .slice (some ⟨X, 0, none⟩) 1 c) (hX : ∀ j u, e.cells[j]? = some u → w.cell? ⟨X, j, none⟩ = some u) (hb1 : ss.length ≤ 1000000) (hbase : B ≤ w.heap.size)
    (h : ∀ v' w', OVq w' B v' (ss ++ [e]) → w.grownBy w' v.ownBlock → wpList Try.prog ops Q rest (a.put o.dst v') w') : wpList Try.prog ops Q (o :: rest) a w := by
  obtain ⟨i0, hi, hz0, hz1, hz2⟩ := info_parts Try.infoSeq
  obtain ⟨v', w', hr, h2, h3, _, _⟩ := run_append_own_at (P := Try.prog) w B 28 o.type 43 i0 (.agg #[.slice none 0 0, .int .i64 0, .int .i64 0]) 3 40 Try.underlying28 hi hz0 hz1 hz2 rfl (by decide) v ss.length _ hown.own ⟨X, 0, none⟩ 1 c e.cells rfl (fun j u hu => by rw [show (⟨X, 0, none⟩ : Addr).add j = ⟨X, j, none⟩ from by unfold Addr.add; split <;> simp_all]; exact hX j u hu) (oneCellQ e) (by unfold maxLen; omega) (by omega) hbase
  refine wpList_plain hgd fun K hK' => ?_
  unfold Oper.wp execOp
  simp only [ho, resolve, invoke, builtin, Sem.run_bind, Sem.run_pure, Result.andThen_ok, List.map_toArray, List.map_cons, List.map_nil, hs, hx, hr]
  refine hK' _ _ (h v' w' ⟨?_⟩ h3)
  rw [List.length_append, List.flatMap_append]
  simpa using h2
/-- append(l, s), at a step of a region that draws its order. -/
theorem wp_append_sq {o : Oper} {a : Act} {w : World} {K : Act → World → Prop} {Q : Exit → Act → World → Prop} (s x : Operand)
    (ho : o.op = .call { callee := .builtin .append, args := #[s, x], argTypes := #[28, 28] })
    (B : Nat) (v : Value) (ss : List Sq) (hs : a.eval s = v) (hown : OVq w B v ss) (X c : Nat) (e : Sq) (hx : a.eval x = .slice (some ⟨X, 0, none⟩) 1 c) (hX : ∀ j u, e.cells[j]? = some u → w.cell? ⟨X, j, none⟩ = some u) (hb1 : ss.length ≤ 1000000) (hbase : B ≤ w.heap.size)
    (h : ∀ v' w', OVq w' B v' (ss ++ [e]) → w.grownBy w' v.ownBlock → K (a.put o.dst v') w') : o.wp Try.prog a w K Q := by
  obtain ⟨i0, hi, hz0, hz1, hz2⟩ := info_parts Try.infoSeq
  obtain ⟨v', w', hr, h2, h3, _, _⟩ := run_append_own_at (P := Try.prog) w B 28 o.type 43 i0 (.agg #[.slice none 0 0, .int .i64 0, .int .i64 0]) 3 40 Try.underlying28 hi hz0 hz1 hz2 rfl (by decide) v ss.length _ hown.own ⟨X, 0, none⟩ 1 c e.cells rfl (fun j u hu => by rw [show (⟨X, 0, none⟩ : Addr).add j = ⟨X, j, none⟩ from by unfold Addr.add; split <;> simp_all]; exact hX j u hu) (oneCellQ e) (by unfold maxLen; omega) (by omega) hbase
  unfold Oper.wp execOp
  simp only [ho, resolve, invoke, builtin, Sem.run_bind, Sem.run_pure, Result.andThen_ok, List.map_toArray, List.map_cons, List.map_nil, hs, hx, hr]
  refine h v' w' ⟨?_⟩ h3
  rw [List.length_append, List.flatMap_append]
  simpa using h2
/-- append(b, z): one byte more, and where it lies. -/
theorem wpList_append_b1 {ops : Array Oper} {rest : List Oper} {o : Oper} {a : Act} {Q : Exit → Act → World → Prop} {w : World} (hgd : o.guard = none) (s x : Operand)
    (ho : o.op = .call { callee := .builtin .append, args := #[s, x], argTypes := #[22, 22] })
    (B : Nat) (v : Value) (zs : List Int) (hs : a.eval s = v) (hown : OVB w B v zs) (X c : Nat) (z : Int) (hx : a.eval x = .slice (some ⟨X, 0, none⟩) 1 c) (hX : w.cell? ⟨X, 0, none⟩ = some (.int .u8 z)) (hz : 0 ≤ z ∧ z ≤ 255) (hb1 : zs.length ≤ 1000000) (hbase : B ≤ w.heap.size)
    (h : ∀ v' w', OVB w' B v' (zs ++ [z]) → w.grownBy w' v.ownBlock → (v'.ownBlock = v.ownBlock ∨ v'.ownBlock = some w.heap.size) → wpList Try.prog ops Q rest (a.put o.dst v') w') : wpList Try.prog ops Q (o :: rest) a w := by
  obtain ⟨i0, hi, hz0, hz1, hz2⟩ := info_parts Try.infoU8
  obtain ⟨v', w', hr, h2, h3, _, h5⟩ := run_append_own_at (P := Try.prog) w B 22 o.type 5 i0 (.int .u8 0) 1 1 Try.underlying22 hi hz0 hz1 hz2 rfl (by decide) v zs.length _ hown.1 ⟨X, 0, none⟩ 1 c [.int .u8 z] rfl (fun j u hu => by
    match j, hu with
    | 0, hu => (simp at hu; subst hu; simpa [Addr.add] using hX)) (by intro u hu; simp at hu; subst hu; rfl) (by unfold maxLen; omega) (by omega) hbase
  refine wpList_plain hgd fun K hK' => ?_
  unfold Oper.wp execOp
  simp only [ho, resolve, invoke, builtin, Sem.run_bind, Sem.run_pure, Result.andThen_ok, List.map_toArray, List.map_cons, List.map_nil, hs, hx, hr]
  refine hK' _ _ (h v' w' ⟨?_, ?_⟩ h3 h5)
  · rw [List.length_append, List.map_append]
    simpa using h2
  · intro y hy
    rcases List.mem_append.1 hy with hy | hy
    · exact hown.2 y hy
    · obtain rfl : y = z := by simpa using hy
      exact hz
theorem appQ_below {w0 wr w1 : World} {B : Nat} {v : Value} {ss : List Sq} (hbel : Below B w0 wr) (hB : B ≤ wr.heap.size) (h : OVq wr B v ss) (hg : wr.grownBy w1 v.ownBlock) : Below B w0 w1 :=
  hbel.grown hg hB (fun k hk => (h.blk hk).1)
end Go.Proofs.Ytbkmdgceobilkaa
