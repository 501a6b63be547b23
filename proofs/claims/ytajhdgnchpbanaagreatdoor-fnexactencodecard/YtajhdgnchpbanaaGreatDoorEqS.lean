/-
  What eqByteS answers.
-/
import Derived.Test.YtajhdgnchpbanaaGreatDoorBApp
import Derived.Maps.AppendAt
import Derived.Test.YtajhdgnchpbanaaGreatDoorIBase
namespace Go.Proofs.YtajhdgnchpbanaaGreatDoor
open Go.RowKit
set_option linter.unusedVariables false

/-- A slice value (nil, or a row of the call's own from block B on) that has the sequences ss; their letters may lie anywhere. -/
structure OVq (w : World) (B : Nat) (v : Value) (ss : List Sq) : Prop where
  own : w.ownsRow B 66 3 v ss.length (ss.flatMap Sq.cells)
/-- The letters of all of them are the call's own, each in a block of its own. -/
structure DeepQ (w : World) (B : Nat) (ss : List Sq) : Prop where
  mine : ∀ s ∈ ss, Mine w B w.heap.size s.a s.c s.ls
  apart : (ss.map Sq.a).Pairwise (fun x y => ∀ k, rowOf x k → ¬ rowOf y k)
section
variable {w w' : World} {B : Nat} {v : Value} {ss : List Sq}
theorem OVq.nil (w : World) (B : Nat) : OVq w B (.slice none 0 0) [] := ⟨⟨by simp, .inl ⟨rfl, rfl⟩⟩⟩
theorem OVq.form (h : OVq w B v ss) : ∃ (a : Option Addr) (c : Nat), v = .slice a ss.length c := by
  rcases h.own.2 with ⟨rfl, h0⟩ | ⟨g, cap, cur, rfl, _⟩
  · exact ⟨none, 0, by rw [h0]⟩
  · exact ⟨_, _, rfl⟩
theorem OVq.blk (h : OVq w B v ss) {k : Nat} (hk : v.ownBlock = some k) : B ≤ k ∧ k < w.heap.size := by
  rcases h.own.2 with ⟨rfl, h0⟩ | ⟨g, cap, cur, rfl, hg, hh, _⟩
  · simp [Value.ownBlock] at hk
  · simp [Value.ownBlock] at hk
    subst hk
    exact ⟨hg, (Array.getElem?_eq_some_iff.1 hh).1⟩
theorem OVq.stay {S : Nat → Prop} (h : OVq w B v ss) (ho : Only S w w') (hs : ∀ k, v.ownBlock = some k → ¬ S k) : OVq w' B v ss := by
  refine ⟨⟨h.own.1, ?_⟩⟩
  rcases h.own.2 with h' | ⟨g, cap, cur, rfl, hg, hh, r⟩
  · exact .inl h'
  · exact .inr ⟨g, cap, cur, rfl, hg, (ho.block g (Array.getElem?_eq_some_iff.1 hh).1 (hs g rfl)).trans hh, r⟩
theorem OVq.below (h : OVq w B v ss) (hb : Below w.heap.size w w') : OVq w' B v ss := h.stay (Only.ofBelow (S := fun _ => False) hb (Nat.le_refl _)) (by simp)
theorem OVq.weak {B' : Nat} (h : OVq w B v ss) (hB : B' ≤ B) : OVq w B' v ss := by
  refine ⟨⟨h.own.1, ?_⟩⟩
  rcases h.own.2 with h' | ⟨g, cap, cur, h', hg, r⟩
  · exact .inl h'
  · exact .inr ⟨g, cap, cur, h', by omega, r⟩
/-- The row lies in another block than one of another type. -/
theorem OVq.ne (h : OVq w B v ss) {Q : Nat} {cur : Array Value} {T : TypeId} (hQ : w.heap[Q]? = some (.cells cur T (0, 0))) (hT : T ≠ 66) : v.ownBlock ≠ some Q := by
  rcases h.own.2 with ⟨rfl, h0⟩ | ⟨g, cap, cur', rfl, hg, hh, _⟩
  · simp [Value.ownBlock]
  · simp only [Value.ownBlock, ne_eq, Option.some.injEq]
    rintro rfl
    rw [hQ] at hh
    simp at hh
    exact hT hh.2
theorem OVq.sqs {a : Option Addr} {n c : Nat} (h : OVq w B (.slice a n c) ss) (hr : ∀ s ∈ ss, (rI s.n ∧ rI s.d ∧ s.ls.length ≤ maxLen) ∧ Byt w s.a s.ls) : Sqs w a ss := by
  refine ⟨fun s hs => (hr s hs).1, fun hz => ?_⟩
  rcases h.own.2 with ⟨_, h0⟩ | ⟨g, cap, cur, e, hg, hh, r⟩
  · omega
  · simp at e
    obtain ⟨rfl, rfl, rfl⟩ := e
    refine ⟨g, 0, rfl, (Array.getElem?_eq_some_iff.1 hh).1, fun i hi => ?_⟩
    obtain ⟨f0, f1, f2⟩ := flat_get ss i hi
    refine ⟨?_, ?_, ?_, (hr _ (getD_memS hi)).2⟩
    · rw [Nat.zero_add, h.own.cellAt (i * 3) (by omega), f0]
    · rw [Nat.zero_add, h.own.cellAt (i * 3 + 1) (by omega), f1]
    · rw [Nat.zero_add, h.own.cellAt (i * 3 + 2) (by omega), f2]
theorem DeepQ.nil (w : World) (B : Nat) : DeepQ w B [] := ⟨by simp, by simp⟩
theorem Mine.stayQ {S : Nat → Prop} {a : Option Addr} {U c : Nat} {zs : List Int} (h : Mine w B U a c zs) (ho : Only S w w') (hs : ∀ k, rowOf a k → ¬ S k) : Mine w' B U a c zs := by
  rcases h with h | ⟨g, rfl, h1, h2, h⟩
  · exact .inl h
  · exact .inr ⟨g, rfl, h1, h2, h.only ho (hs g ⟨_, rfl, rfl⟩)⟩
theorem DeepQ.stay {S : Nat → Prop} (h : DeepQ w B ss) (ho : Only S w w') (hs : ∀ s ∈ ss, ∀ k, rowOf s.a k → ¬ S k) : DeepQ w' B ss :=
  ⟨fun s hm => ((h.mine s hm).stayQ ho (hs s hm)).mono (Nat.le_refl _) ho.size, h.apart⟩
theorem DeepQ.below (h : DeepQ w B ss) (hb : Below w.heap.size w w') : DeepQ w' B ss := h.stay (Only.ofBelow (S := fun _ => False) hb (Nat.le_refl _)) (by simp)
theorem DeepQ.snoc {s : Sq} (h : DeepQ w B ss) (hm : Mine w B w.heap.size s.a s.c s.ls) (hap : ∀ x ∈ ss, ∀ k, rowOf x.a k → ¬ rowOf s.a k) : DeepQ w B (ss ++ [s]) := by
  refine ⟨fun x hx => ?_, ?_⟩
  · rcases List.mem_append.1 hx with hx | hx
    · exact h.mine x hx
    · obtain rfl : x = s := by simpa using hx
      exact hm
  · rw [List.map_append, List.pairwise_append]
    refine ⟨h.apart, by simp, fun x hx y hy => ?_⟩
    obtain ⟨z, hz, rfl⟩ := List.mem_map.1 hx
    obtain rfl : y = s.a := by simpa using hy
    exact hap z hz
theorem bytes_ne {a : Option Addr} {B' U c : Nat} {zs : List Int} (hm : Mine w B' U a c zs) {Q : Nat} {cur : Array Value} {T : TypeId} (hQ : w.heap[Q]? = some (.cells cur T (0, 0))) (hT : T ≠ 5) : ¬ rowOf a Q := by
  rintro ⟨x, hx, hxg⟩
  rcases hm with ⟨h', _⟩ | ⟨g', h', g1, g2, ho⟩
  · rw [h'] at hx; cases hx
  · rw [h'] at hx
    simp at hx
    rw [← hx] at hxg
    simp at hxg
    subst hxg
    rcases ho.1.2 with ⟨e, _⟩ | ⟨k, cap1, cur1, e, _, hh, _⟩
    · simp at e
    · obtain rfl : g' = k := by simp at e; exact e.1
      rw [hQ] at hh
      simp at hh
      exact hT hh.2
/-- The letters lie in other blocks than the row. -/
theorem OVq.other (h : OVq w B v ss) {a : Option Addr} {B' U c : Nat} {zs : List Int} (hm : Mine w B' U a c zs) {g : Nat} (hg : v.ownBlock = some g) : ¬ rowOf a g := by
  rcases h.own.2 with ⟨e2, _⟩ | ⟨k2, cap2, cur2, e2, _, hh2, _⟩
  · subst e2; simp [Value.ownBlock] at hg
  · subst e2
    obtain rfl : k2 = g := by simpa [Value.ownBlock] using hg
    exact bytes_ne hm hh2 (by decide)
theorem Only.ofGrownQ {row : Option Nat} (hg : w.grownBy w' row) : Only (fun k => row = some k) w w' := (Only.refl (fun k => row = some k) w).grown hg (fun k hk => .inl hk)
theorem DeepQ.grown {ts : List Sq} (hd : DeepQ w B ts) (h : OVq w B v ss) (hg : w.grownBy w' v.ownBlock) : DeepQ w' B ts :=
  hd.stay (Only.ofGrownQ hg) (fun x hx k hk e => h.other (hd.mine x hx) e hk)
theorem DeepQ.byt (h : DeepQ w B ss) {s : Sq} (hs : s ∈ ss) : Byt w s.a s.ls := (h.mine s hs).byt
end
theorem oneCellQ (s : Sq) : ∀ u ∈ s.cells, u.oneCell' = true := by
  intro u hu
  simp [Sq.cells] at hu
  rcases hu with rfl | rfl | rfl <;> rfl
theorem newsQ (w : World) (a : Option Addr) (L c : Nat) (n d : Int) (T : TypeId) (s : Sq) (h1 : s.a = a) (h2 : s.ls.length = L) (h3 : s.c = c) (h4 : s.n = n) (h5 : s.d = d) : ∀ j u, s.cells[j]? = some u → (w.alloc (Obj.cells #[.slice a L c, .int .i64 n, .int .i64 d] T)).cell? ⟨w.heap.size, j, none⟩ = some u := by
  intro j u hu
  subst h1 h2 h3 h4 h5
  match j with
  | 0 => simp [Sq.cells] at hu; simp [hu]
  | 1 => simp [Sq.cells] at hu; simp [hu]
  | 2 => simp [Sq.cells] at hu; simp [hu]
  | j + 3 => simp [Sq.cells] at hu
/-- append(l, s): one more, and where it lies. -/
theorem wpList_append_sq {ops : Array Oper} {rest : List Oper} {o : Oper} {a : Act} {Q : Exit → Act → World → Prop} {w : World} (hgd : o.guard = none) (s x : Operand)
    (ho : o.op = .call { callee := .builtin .append, args := #[s, x], argTypes := #[32, 32] })
    (B : Nat) (v : Value) (ss : List Sq) (hs : a.eval s = v) (hown : OVq w B v ss) (X c : Nat) (e : Sq) (hx : a.eval x = .slice (some ⟨X, 0, none⟩) 1 c) (hX : ∀ j u, e.cells[j]? = some u → w.cell? ⟨X, j, none⟩ = some u) (hb1 : ss.length ≤ 1000000) (hbase : B ≤ w.heap.size)
    (h : ∀ v' w', OVq w' B v' (ss ++ [e]) → w.grownBy w' v.ownBlock → wpList Tryz.prog ops Q rest (a.put o.dst v') w') : wpList Tryz.prog ops Q (o :: rest) a w := by
  obtain ⟨i0, hi, hz0, hz1, hz2⟩ := info_parts Tryz.infoSeq
  obtain ⟨v', w', hr, h2, h3, _, _⟩ := run_append_own_at (P := Tryz.prog) w B 32 o.type 66 i0 (.agg #[.slice none 0 0, .int .i64 0, .int .i64 0]) 3 40 Tryz.underlying32 hi hz0 hz1 hz2 rfl (by decide) v ss.length _ hown.own ⟨X, 0, none⟩ 1 c e.cells rfl (fun j u hu => by rw [show (⟨X, 0, none⟩ : Addr).add j = ⟨X, j, none⟩ from by unfold Addr.add; split <;> simp_all]; exact hX j u hu) (oneCellQ e) (by unfold maxLen; omega) (by omega) hbase
  refine wpList_plain hgd fun K hK' => ?_
  unfold Oper.wp execOp
  simp only [ho, resolve, invoke, builtin, Sem.run_bind, Sem.run_pure, Result.andThen_ok, List.map_toArray, List.map_cons, List.map_nil, hs, hx, hr]
  refine hK' _ _ (h v' w' ⟨?_⟩ h3)
  rw [List.length_append, List.flatMap_append]
  simpa using h2
/-- append(l, s), at a step of a region that draws its order. -/
theorem wp_append_sq {o : Oper} {a : Act} {w : World} {K : Act → World → Prop} {Q : Exit → Act → World → Prop} (s x : Operand)
    (ho : o.op = .call { callee := .builtin .append, args := #[s, x], argTypes := #[32, 32] })
    (B : Nat) (v : Value) (ss : List Sq) (hs : a.eval s = v) (hown : OVq w B v ss) (X c : Nat) (e : Sq) (hx : a.eval x = .slice (some ⟨X, 0, none⟩) 1 c) (hX : ∀ j u, e.cells[j]? = some u → w.cell? ⟨X, j, none⟩ = some u) (hb1 : ss.length ≤ 1000000) (hbase : B ≤ w.heap.size)
    (h : ∀ v' w', OVq w' B v' (ss ++ [e]) → w.grownBy w' v.ownBlock → K (a.put o.dst v') w') : o.wp Tryz.prog a w K Q := by
  obtain ⟨i0, hi, hz0, hz1, hz2⟩ := info_parts Tryz.infoSeq
  obtain ⟨v', w', hr, h2, h3, _, _⟩ := run_append_own_at (P := Tryz.prog) w B 32 o.type 66 i0 (.agg #[.slice none 0 0, .int .i64 0, .int .i64 0]) 3 40 Tryz.underlying32 hi hz0 hz1 hz2 rfl (by decide) v ss.length _ hown.own ⟨X, 0, none⟩ 1 c e.cells rfl (fun j u hu => by rw [show (⟨X, 0, none⟩ : Addr).add j = ⟨X, j, none⟩ from by unfold Addr.add; split <;> simp_all]; exact hX j u hu) (oneCellQ e) (by unfold maxLen; omega) (by omega) hbase
  unfold Oper.wp execOp
  simp only [ho, resolve, invoke, builtin, Sem.run_bind, Sem.run_pure, Result.andThen_ok, List.map_toArray, List.map_cons, List.map_nil, hs, hx, hr]
  refine h v' w' ⟨?_⟩ h3
  rw [List.length_append, List.flatMap_append]
  simpa using h2
/-- append(b, z): one byte more, and where it lies. -/
theorem wpList_append_b1 {ops : Array Oper} {rest : List Oper} {o : Oper} {a : Act} {Q : Exit → Act → World → Prop} {w : World} (hgd : o.guard = none) (s x : Operand)
    (ho : o.op = .call { callee := .builtin .append, args := #[s, x], argTypes := #[22, 22] })
    (B : Nat) (v : Value) (zs : List Int) (hs : a.eval s = v) (hown : OVB w B v zs) (X c : Nat) (z : Int) (hx : a.eval x = .slice (some ⟨X, 0, none⟩) 1 c) (hX : w.cell? ⟨X, 0, none⟩ = some (.int .u8 z)) (hz : 0 ≤ z ∧ z ≤ 255) (hb1 : zs.length ≤ 1000000) (hbase : B ≤ w.heap.size)
    (h : ∀ v' w', OVB w' B v' (zs ++ [z]) → w.grownBy w' v.ownBlock → (v'.ownBlock = v.ownBlock ∨ v'.ownBlock = some w.heap.size) → wpList Tryz.prog ops Q rest (a.put o.dst v') w') : wpList Tryz.prog ops Q (o :: rest) a w := by
  obtain ⟨i0, hi, hz0, hz1, hz2⟩ := info_parts Tryz.infoU8
  obtain ⟨v', w', hr, h2, h3, _, h5⟩ := run_append_own_at (P := Tryz.prog) w B 22 o.type 5 i0 (.int .u8 0) 1 1 Tryz.underlying22 hi hz0 hz1 hz2 rfl (by decide) v zs.length _ hown.1 ⟨X, 0, none⟩ 1 c [.int .u8 z] rfl (fun j u hu => by
    match j, hu with
    | 0, hu => (simp at hu; subst hu; simpa [Addr.add] using hX)) (by intro u hu; simp at hu; subst hu; rfl) (by unfold maxLen; omega) (by omega) hbase
  refine wpList_plain hgd fun K hK' => ?_
  unfold Oper.wp execOp
  simp only [ho, resolve, invoke, builtin, Sem.run_bind, Sem.run_pure, Result.andThen_ok, List.map_toArray, List.map_cons, List.map_nil, hs, hx, hr]
  refine hK' _ _ (h v' w' ⟨?_, ?_⟩ h3 h5)
  · rw [List.length_append, List.map_append]
    simpa using h2
  · intro y hy
    rcases List.mem_append.1 hy with hy | hy
    · exact hown.2 y hy
    · obtain rfl : y = z := by simpa using hy
      exact hz
theorem appQ_below {w0 wr w1 : World} {B : Nat} {v : Value} {ss : List Sq} (hbel : Below B w0 wr) (hB : B ≤ wr.heap.size) (h : OVq wr B v ss) (hg : wr.grownBy w1 v.ownBlock) : Below B w0 w1 :=
  hbel.grown hg hB (fun k hk => (h.blk hk).1)
set_option linter.unusedSimpArgs false
/-- Sequences that were read: what they say lies within bounds. -/
def Sml (ss : List Sq) : Prop := ∀ s ∈ ss, 0 ≤ s.n ∧ s.n ≤ 10000 ∧ 0 ≤ s.d ∧ s.d ≤ 10000 ∧ s.ls.length ≤ 300
theorem Sml.nil : Sml [] := by intro s hs; cases hs
theorem Sml.snoc {ss : List Sq} {s : Sq} (h : Sml ss) (hs : 0 ≤ s.n ∧ s.n ≤ 10000 ∧ 0 ≤ s.d ∧ s.d ≤ 10000 ∧ s.ls.length ≤ 300) : Sml (ss ++ [s]) := by
  intro x hx
  rcases List.mem_append.1 hx with hx | hx
  · exact h x hx
  · obtain rfl : x = s := by simpa using hx
    exact hs
theorem Sml.rng {ss : List Sq} (h : Sml ss) : ∀ s ∈ ss, rI s.n ∧ rI s.d ∧ s.ls.length ≤ maxLen := fun s hs => by
  obtain ⟨h1, h2, h3, h4, h5⟩ := h s hs
  refine ⟨⟨by omega, by omega⟩, ⟨by omega, by omega⟩, by unfold maxLen; omega⟩
/-- A row of letters lies apart from those of sequences. -/
def Aprt (ss : List Sq) (v : Value) : Prop := ∀ s ∈ ss, ∀ k, rowOf s.a k → v.ownBlock ≠ some k
theorem Aprt.none (ss : List Sq) : Aprt ss (.slice none 0 0) := by intro s hs k hk; simp [Value.ownBlock]
theorem Aprt.app {w : World} {B : Nat} {ss : List Sq} {v v' : Value} {H : Nat} (h : Aprt ss v) (hd : DeepQ w B ss) (hv : v'.ownBlock = v.ownBlock ∨ v'.ownBlock = some H) (hH : w.heap.size ≤ H) : Aprt ss v' := by
  intro s hs k hk
  rcases hv with hv | hv
  · rw [hv]; exact h s hs k hk
  · rw [hv]
    have := ((hd.mine s hs).rowB hk).2
    simp only [ne_eq, Option.some.injEq]
    omega
/-- The letters of all stay where a row of letters that lies apart grows. -/
theorem DeepQ.grownB {w w' : World} {B : Nat} {ss : List Sq} {v : Value} (hd : DeepQ w B ss) (h : Aprt ss v) (hg : w.grownBy w' v.ownBlock) : DeepQ w' B ss :=
  hd.stay (Only.ofGrownQ hg) (fun s hs k hk e => h s hs k hk e)
/-- A row of sequences stays where a row of letters grows. -/
theorem OVq.grownB {w w' : World} {B B' : Nat} {v lv : Value} {ss : List Sq} {ls : List Int} (h : OVq w B v ss) (hb : OVB w B' lv ls) (hg : w.grownBy w' lv.ownBlock) : OVq w' B v ss := by
  refine h.stay (Only.ofGrownQ hg) (fun k hk e => ?_)
  rcases h.own.2 with ⟨rfl, h0⟩ | ⟨g, cap, cur, rfl, hg, hh, _⟩
  · simp [Value.ownBlock] at hk
  · obtain rfl : g = k := by simpa [Value.ownBlock] using hk
    exact hb.blk_ne hh (by decide) e.symm
theorem DeepQ.weak {w : World} {B B' : Nat} {ss : List Sq} (h : DeepQ w B ss) (hB : B' ≤ B) : DeepQ w B' ss := ⟨fun s hs => (h.mine s hs).mono hB (Nat.le_refl _), h.apart⟩
theorem OVB.mineAt {w : World} {B : Nat} {v : Value} {zs : List Int} (h : OVB w B v zs) : ∃ (a : Option Addr) (cp : Nat), v = .slice a zs.length cp ∧ Mine w B w.heap.size a cp zs ∧ ∀ k, rowOf a k → v.ownBlock = some k := by
  obtain ⟨a, cp, e, hm⟩ := h.mine
  refine ⟨a, cp, e, hm, fun k hk => ?_⟩
  obtain ⟨x, rfl, rfl⟩ := hk
  rw [e]
  rfl
theorem heap_new (w : World) (o : Obj) : (w.alloc o).heap[w.heap.size]? = some o := by simp only [World.alloc, Array.getElem?_push_size]
theorem run_append_byt (w : World) (ty : TypeId) (B : Nat) (v : Value) (zs : List Int) (hown : OVB w B v zs) (xa : Option Addr) (c : Nat) (ys : List Int) (hy : Byt w xa ys) (hb1 : zs.length + ys.length ≤ 1000000) (hbase : B ≤ w.heap.size) :
    ∃ v' w', (Builtin.append_ #[22, 22] ty #[v, .slice xa ys.length c]).run Tryz.prog w = .ok v' w' ∧ OVB w' B v' (zs ++ ys) ∧ w.grownBy w' v.ownBlock := by
  obtain ⟨i0, hi, hz0, hz1, hz2⟩ := info_parts Tryz.infoU8
  have hr : ∀ z ∈ zs ++ ys, 0 ≤ z ∧ z ≤ 255 := fun z hz => (List.mem_append.1 hz).elim (hown.2 z) (hy.1 z)
  cases xa with
  | none =>
    have hy0 : ys = [] := by
      rcases Nat.eq_zero_or_pos ys.length with h0 | h0
      · exact List.eq_nil_of_length_eq_zero h0
      · obtain ⟨b, off, e, _⟩ := hy.2 h0
        cases e
    subst hy0
    exact ⟨v, w, run_append_none (P := Tryz.prog) w 22 ty 5 i0 Tryz.underlying22 hi B 1 zs.length v _ hown.1 c, by simpa using hown, World.grownBy.refl w _⟩
  | some ad =>
    have hnews : ∀ j u, (ys.map (Value.int .u8))[j]? = some u → w.cell? (ad.add j) = some u := by
      intro j u hu
      have hj : j < ys.length := by
        rcases Nat.lt_or_ge j ys.length with h | h
        · exact h
        · rw [List.getElem?_eq_none (by simpa using h)] at hu; cases hu
      obtain ⟨b, off, e, _, hc⟩ := hy.2 (by omega)
      obtain rfl : ad = ⟨b, off, none⟩ := by simpa using e
      exact news_of hc j u hu
    obtain ⟨v', w', hrun, h2, h3, _, _⟩ := run_append_own_at (P := Tryz.prog) w B 22 ty 5 i0 (.int .u8 0) 1 1 Tryz.underlying22 hi hz0 hz1 hz2 rfl (by decide) v zs.length _ hown.1 ad ys.length c (ys.map (Value.int .u8)) (by simp) hnews (oneCells ys) (by unfold maxLen; omega) (by omega) hbase
    refine ⟨v', w', hrun, ⟨?_, hr⟩, h3⟩
    rw [List.length_append, List.map_append]
    exact h2
theorem wanted_step {P : Program} {ops : Array Oper} {o : Oper} {a : Act} {w : World} {K : Act → World → Prop} {Q : Exit → Act → World → Prop} {E : Prop} (hg : o.guard = none) (h : Oper.wp P o a w K Q) :
    if Region.wanted o (yielded ops a.tmps) = true then Oper.wp P o a w K Q else E := by
  rw [if_pos (by simp [Region.wanted, hg])]
  exact h
theorem OVB.empty (w : World) (B : Nat) (hB : B ≤ w.heap.size) : OVB (w.alloc (Obj.cells #[] 5)) B (.slice (some ⟨w.heap.size, 0, none⟩) 0 0) [] :=
  ⟨⟨rfl, .inr ⟨w.heap.size, 0, #[], rfl, hB, heap_new w _, Nat.le_refl _, by simp, rfl, rfl⟩⟩, by simp⟩
theorem wp_append_byt {o : Oper} {a : Act} {w : World} {K : Act → World → Prop} {Q : Exit → Act → World → Prop} (s x : Operand) (ho : o.op = .call { callee := .builtin .append, args := #[s, x], argTypes := #[22, 22] })
    (B : Nat) (v : Value) (zs : List Int) (hs : a.eval s = v) (hown : OVB w B v zs) (xa : Option Addr) (c : Nat) (ys : List Int) (hx : a.eval x = .slice xa ys.length c) (hy : Byt w xa ys) (hb1 : zs.length + ys.length ≤ 1000000) (hbase : B ≤ w.heap.size)
    (h : ∀ v' w', OVB w' B v' (zs ++ ys) → w.grownBy w' v.ownBlock → K (a.put o.dst v') w') : o.wp Tryz.prog a w K Q := by
  obtain ⟨v', w', hr, h2, h3⟩ := run_append_byt w o.type B v zs hown xa c ys hy hb1 hbase
  unfold Oper.wp execOp
  simp only [ho, resolve, invoke, builtin, Sem.run_bind, Sem.run_pure, Result.andThen_ok, List.map_toArray, List.map_cons, List.map_nil, hs, hx, hr]
  exact h v' w' h2 h3
set_option maxHeartbeats 800000 in
theorem eqByteS_any (a b : Option Addr) (ca cb : Nat) (xs ys : List Int) (w : World) (ha : Byt w a xs) (hb : Byt w b ys) (hx : xs.length ≤ 281474976710656) (hy : ys.length ≤ 281474976710656) :
    Calls Tryz.prog 7 #[.slice a xs.length ca, .slice b ys.length cb] w fun e w' => e = .returned (.bool (decide (xs = ys))) ∧ ∃ n, w' = w.drewN n := by
  by_cases hl : xs.length = ys.length
  · generalize hlx : xs.length = n at *
    have HX : Hid (xs.length = n) := hlx
    have HY : Hid (ys.length = n) := hl.symm
    rw [← hl]
    have hnn : ((n : Int) != (n : Int)) = false := by simp
    clear hlx hl hy
    go_enter Tryz.func7, Tryz.ntmps7
    go_wp2
    go_loopw [5] (fun i wr => ∃ k m : Nat, k ≤ n ∧ i = .int .i64 k ∧ wr = w.drewN m ∧ xs.take k = ys.take k) (fun i _ => n - (intOf i).toNat)
    case atStart => exact ⟨0, 0, Nat.zero_le _, rfl, rfl, by simp⟩
    case round =>
      obtain ⟨k, m, hk, rfl, rfl, htk⟩ := hrel
      have HT : Hid (xs.take k = ys.take k) := htk
      clear htk
      by_cases hlt : k < n
      · obtain ⟨b1, o1, rfl, hb1, hc1⟩ := ha.len_pos k (by rw [HX.out]; exact hlt)
        obtain ⟨b2, o2, rfl, hb2, hc2⟩ := hb.len_pos k (by rw [HY.out]; exact hlt)
        have hs1 := hc1 k (by rw [HX.out]; exact hlt)
        have hs2 := hc2 k (by rw [HY.out]; exact hlt)
        have g1 := getD_rng ha.1 k
        have g2 := getD_rng hb.1 k
        clear hc1 hc2 ha hb
        generalize hx1 : xs.getD k 0 = x1 at *
        generalize hy1 : ys.getD k 0 = y1 at *
        have HX1 : Hid (xs.getD k 0 = x1) := hx1
        have HY1 : Hid (ys.getD k 0 = y1) := hy1
        clear hx1 hy1
        by_cases hxy : x1 = y1
        · subst hxy
          have hq : (x1 != x1) = false := by simp
          have HT' : Hid (xs.take (k + 1) = ys.take (k + 1)) := take_eq_succ HT.out (by rw [HX.out]; exact hlt) (by rw [HY.out]; exact hlt) (by rw [HX1.out, HY1.out])
          go_wp2
          go_quiet (fail)
          go_wp2
          go_roundw
          case rel => exact ⟨k + 1, _, by omega, by go_num, rfl, HT'.out⟩
          case measure => simp [intOf]; omega
        · have hq : (x1 != y1) = true := by rw [bne_iff_ne]; exact hxy
          have HN : Hid (decide (xs = ys) = false) := by
            have : xs ≠ ys := ne_of_getD (k := k) (by rw [HX1.out, HY1.out]; exact hxy)
            simpa [Hid] using this
          clear hxy
          go_wp2
          go_quiet (fail)
          go_wp2
          go_ret
          exact ⟨by rw [HN.out]; rfl, _, World.drewN_drewN ..⟩
      · have HE : Hid (decide (xs = ys) = true) := by
          have h1 := HT.out
          rw [List.take_of_length_le (by rw [HX.out]; omega), List.take_of_length_le (by rw [HY.out]; omega)] at h1
          simpa [Hid] using h1
        go_wp2
        go_ret
        exact ⟨by rw [HE.out]; rfl, _, rfl⟩
  · have hne : decide (xs = ys) = false := by simp; intro h; exact hl (by rw [h])
    have hl' : ((xs.length : Int) != (ys.length : Int)) = true := by rw [bne_iff_ne]; omega
    rw [hne]
    go_enter Tryz.func7, Tryz.ntmps7
    go_wp2
    go_ret
    exact ⟨rfl, 0, rfl⟩

theorem eqByteS_yes (a b : Option Addr) (ca cb : Nat) (xs : List Int) (w : World) (ha : Byt w a xs) (hb : Byt w b xs) (hx : xs.length ≤ 281474976710656) :
    Calls Tryz.prog 7 #[.slice a xs.length ca, .slice b xs.length cb] w fun e w' => e = .returned (.bool true) ∧ ∃ n, w' = w.drewN n := by
  refine (eqByteS_any a b ca cb xs xs w ha hb hx hx).mono ?_
  rintro e w' ⟨rfl, h⟩
  exact ⟨by simp, h⟩

end Go.Proofs.YtajhdgnchpbanaaGreatDoor
