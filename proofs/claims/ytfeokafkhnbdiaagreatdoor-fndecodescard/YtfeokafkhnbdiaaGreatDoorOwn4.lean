/-
  The model's l4own: sequences copied.
-/
import Derived.Test.YtfeokafkhnbdiaaGreatDoorICntI
import Derived.Test.YtfeokafkhnbdiaaGreatDoorSqP
import Derived.Test.YtfeokafkhnbdiaaGreatDoorPut1
import Derived.Maps.AppendAt
import Derived.Deep.RegionHeld3
import Derived.Test.YtfeokafkhnbdiaaGreatDoorPcP
namespace Go.Proofs.YtfeokafkhnbdiaaGreatDoor
open Go.RowKit
set_option linter.unusedVariables false
theorem Tryz.infoSeq : (Tryz.prog.info? 37).map (fun i => (i.zero, i.size, i.bytes)) = some (some (.agg #[.slice none 0 0, .int .i64 0, .int .i64 0]), 3, 40) := by kernel_rfl
theorem made_seqs (n : Nat) : (madeCells (Value.agg #[.slice none 0 0, .int .i64 0, .int .i64 0]).cells (n * 3)).toList = (List.replicate n dq).flatMap Sq.cells := by
  apply List.ext_getElem?
  intro i
  by_cases hi : i < n * 3
  · have hd : i / 3 < (List.replicate n dq).length := by simp; omega
    have hg : (List.replicate n dq).getD (i / 3) dq = dq := by
      rw [List.getD_eq_getElem?_getD, List.getElem?_replicate]; split <;> rfl
    obtain ⟨f0, f1, f2⟩ := flat_get (List.replicate n dq) (i / 3) hd
    rw [hg] at f0 f1 f2
    simp only [madeCells, Array.toList_map, Array.toList_range, List.getElem?_map, List.getElem?_range hi, Option.map_some]
    have h3 : i % 3 = 0 ∨ i % 3 = 1 ∨ i % 3 = 2 := by omega
    rcases h3 with h3 | h3 | h3
    · rw [show i / 3 * 3 = i from by omega] at f0
      rw [f0]
      simp [Value.cells, h3, dq]
    · rw [show i / 3 * 3 + 1 = i from by omega] at f1
      rw [f1]
      simp [Value.cells, h3, dq]
    · rw [show i / 3 * 3 + 2 = i from by omega] at f2
      rw [f2]
      simp [Value.cells, h3, dq]
  · rw [List.getElem?_eq_none (by simp [madeCells]; omega), List.getElem?_eq_none (by rw [flat_len]; simp; omega)]

theorem getD_app_repl (bs : List Sq) (m i : Nat) (h : bs.length ≤ i) : (bs ++ List.replicate m dq).getD i dq = dq := by
  rw [List.getD_eq_getElem?_getD, List.getElem?_append_right h, List.getElem?_replicate]; split <;> rfl
theorem set_app_repl (bs : List Sq) (m k : Nat) (s : Sq) (h : bs.length = k) (hk : 0 < m) : (bs ++ List.replicate m dq).set k s = (bs ++ [s]) ++ List.replicate (m - 1) dq := by
  rw [List.set_append_right _ _ (by omega), h, Nat.sub_self, show m = (m - 1) + 1 from by omega, List.replicate_succ, List.set_cons_zero, List.append_assoc]
  rfl
theorem ct_take_succ (ss : List Sq) (k : Nat) (h : k < ss.length) : (ss.take (k + 1)).map Sq.ct = (ss.take k).map Sq.ct ++ [(ss.getD k dq).ct] := by
  rw [List.take_succ_eq_append_getElem h, List.map_append]
  simp [List.getD_eq_getElem?_getD, List.getElem?_eq_getElem h]
/-- A slice value (nil, or a row of the call's own from block B on) that has the bytes zs. -/
def OVB (w : World) (B : Nat) (v : Value) (zs : List Int) : Prop := w.ownsRow B 5 1 v zs.length (zs.map (Value.int .u8)) ∧ ∀ z ∈ zs, 0 ≤ z ∧ z ≤ 255

theorem OVB.nil (w : World) (B : Nat) : OVB w B (.slice none 0 0) [] := ⟨⟨rfl, .inl ⟨rfl, rfl⟩⟩, by simp⟩
theorem OVB.form {w : World} {B : Nat} {v : Value} {zs : List Int} (h : OVB w B v zs) : ∃ (a : Option Addr) (c : Nat), v = .slice a zs.length c := by
  rcases h.1.2 with ⟨rfl, h0⟩ | ⟨g, cap, cur, rfl, _⟩
  · exact ⟨none, 0, by rw [h0]⟩
  · exact ⟨_, _, rfl⟩
theorem OVB.blk {w : World} {B : Nat} {v : Value} {zs : List Int} (h : OVB w B v zs) {k : Nat} (hk : v.ownBlock = some k) : B ≤ k := by
  rcases h.1.2 with ⟨rfl, h0⟩ | ⟨g, cap, cur, rfl, hg, _⟩
  · simp [Value.ownBlock] at hk
  · simp [Value.ownBlock] at hk
    omega
theorem OVB.mine {w : World} {B : Nat} {v : Value} {zs : List Int} (h : OVB w B v zs) : ∃ (a : Option Addr) (cp : Nat), v = .slice a zs.length cp ∧ Mine w B w.heap.size a cp zs := by
  rcases h.1.2 with ⟨rfl, h0⟩ | ⟨g, cap, cur, rfl, hg, hh, r⟩
  · exact ⟨none, 0, by rw [h0], .inl ⟨rfl, List.eq_nil_of_length_eq_zero h0, rfl⟩⟩
  · exact ⟨some ⟨g, 0, none⟩, cap, rfl, Own.mine (cap := cap) h⟩
theorem OVB.stay {S : Nat → Prop} {w w' : World} {B : Nat} {v : Value} {zs : List Int} (h : OVB w B v zs) (ho : Only S w w') (hs : ∀ k, B ≤ k → ¬ S k) : OVB w' B v zs := by
  refine ⟨⟨h.1.1, ?_⟩, h.2⟩
  rcases h.1.2 with h' | ⟨g, cap, cur, h', hg, hh, r⟩
  · exact .inl h'
  · exact .inr ⟨g, cap, cur, h', hg, (ho.block g (Array.getElem?_eq_some_iff.1 hh).1 (hs g hg)).trans hh, r⟩
theorem OVB.weak {w : World} {B B' : Nat} {v : Value} {zs : List Int} (h : OVB w B v zs) (hB : B' ≤ B) : OVB w B' v zs := by
  refine ⟨⟨h.1.1, ?_⟩, h.2⟩
  rcases h.1.2 with h' | ⟨g, cap, cur, h', hg, r⟩
  · exact .inl h'
  · exact .inr ⟨g, cap, cur, h', by omega, r⟩
theorem OVB.alloc {w : World} {B : Nat} {v : Value} {zs : List Int} (h : OVB w B v zs) (o : Obj) : OVB (w.alloc o) B v zs := ⟨h.1.alloc o, h.2⟩
theorem OVB.byt {w : World} {B : Nat} {a : Option Addr} {n c : Nat} {zs : List Int} (h : OVB w B (.slice a n c) zs) : Byt w a zs := by
  obtain ⟨a', c', e, hm⟩ := h.mine
  obtain ⟨rfl, -, -⟩ : a = a' ∧ n = zs.length ∧ c = c' := by simpa using e
  exact hm.byt
theorem OVB.below {w w' : World} {B : Nat} {v : Value} {zs : List Int} (h : OVB w B v zs) (hb : Below w.heap.size w w') : OVB w' B v zs := h.stay (Only.ofBelow (S := fun _ => False) hb (Nat.le_refl _)) (by simp)

theorem byt_one (w : World) (z : Int) (hz : 0 ≤ z ∧ z ≤ 255) : Byt (w.alloc (.cells #[.int .u8 z] 5)) (some ⟨w.heap.size, 0, none⟩) [z] := by
  refine ⟨by intro y hy; simp at hy; rw [hy]; exact hz, fun _ => ⟨w.heap.size, 0, rfl, by simp, fun i hi => ?_⟩⟩
  obtain rfl : i = 0 := by simp at hi; omega
  simp
theorem run_append_none {P : Program} (w : World) (t ty e : TypeId) (i : TypeInfo) (ht : P.underlying t = some (.slice e)) (hi : P.info? e = some i) (base size n : Nat) (v : Value) (xs : List Value) (hown : w.ownsRow base e size v n xs) (c : Nat) :
    (Builtin.append_ #[t, t] ty #[v, .slice none 0 c]).run P w = .ok v w := by
  rcases hown.2 with ⟨rfl, rfl⟩ | ⟨g, cap, cur, rfl, _, hg, hnc, _⟩
  · simp [Builtin.append_, run_underlying ht, sizeOf, typeInfo, hi, Builtin.lenOf, Builtin.firstCells]
  · simp [Builtin.append_, run_underlying ht, sizeOf, typeInfo, hi, Builtin.lenOf, Builtin.firstCells, hnc, storeCells]

theorem wpList_append_byt {ops : Array Oper} {rest : List Oper} {o : Oper} {a : Act} {Q : Exit → Act → World → Prop} {w : World} (hgd : o.guard = none) (s x : Operand)
    (ho : o.op = .call { callee := .builtin .append, args := #[s, x], argTypes := #[22, 22] })
    (B : Nat) (v : Value) (zs : List Int) (hs : a.eval s = v) (hown : OVB w B v zs) (xa : Option Addr) (c : Nat) (ys : List Int) (hx : a.eval x = .slice xa ys.length c) (hy : Byt w xa ys) (hb1 : zs.length + ys.length ≤ 1000000) (hbase : B ≤ w.heap.size)
    (h : ∀ v' w', OVB w' B v' (zs ++ ys) → w.grownBy w' v.ownBlock → wpList Tryz.prog ops Q rest (a.put o.dst v') w') : wpList Tryz.prog ops Q (o :: rest) a w := by
  obtain ⟨i0, hi, hz0, hz1, hz2⟩ := info_parts Tryz.infoU8
  have hr : ∀ z ∈ zs ++ ys, 0 ≤ z ∧ z ≤ 255 := fun z hz => (List.mem_append.1 hz).elim (hown.2 z) (hy.1 z)
  cases xa with
  | none =>
    have hy0 : ys = [] := by
      rcases Nat.eq_zero_or_pos ys.length with h0 | h0
      · exact List.eq_nil_of_length_eq_zero h0
      · obtain ⟨b, off, e, _⟩ := hy.2 h0
        cases e
    subst hy0
    refine wpList_plain hgd fun K hK' => ?_
    have hrun := run_append_none (P := Tryz.prog) w 22 o.type 5 i0 Tryz.underlying22 hi B 1 zs.length v _ hown.1 c
    unfold Oper.wp execOp
    simp only [List.length_nil] at hx
    simp only [ho, resolve, invoke, builtin, Sem.run_bind, Sem.run_pure, Result.andThen_ok, List.map_toArray, List.map_cons, List.map_nil, hs, hx, hrun]
    exact hK' _ _ (h v w (by simpa using hown) (World.grownBy.refl w _))
  | some ad =>
    have hnews : ∀ j u, (ys.map (Value.int .u8))[j]? = some u → w.cell? (ad.add j) = some u := by
      intro j u hu
      have hj : j < ys.length := by
        rcases Nat.lt_or_ge j ys.length with h | h
        · exact h
        · rw [List.getElem?_eq_none (by simpa using h)] at hu; cases hu
      obtain ⟨b, off, e, _, hc⟩ := hy.2 (by omega)
      obtain rfl : ad = ⟨b, off, none⟩ := by simpa using e
      exact news_of hc j u hu
    refine wpList_append_own w hgd s x 22 ho B 5 i0 (.int .u8 0) 1 1 Tryz.underlying22 hi hz0 hz1 hz2 rfl (by decide) v zs.length _ hs hown.1 ad ys.length c (ys.map (Value.int .u8)) hx (by simp) hnews (oneCells ys) (by unfold maxLen; omega) (by omega) hbase ?_
    intro v' w' h1 h2 _
    refine h v' w' ⟨?_, hr⟩ h2
    rw [List.length_append, List.map_append]
    exact h1
theorem appB_below {w0 wr w1 : World} {B : Nat} {v : Value} {zs : List Int} (hbel : Below B w0 wr) (hB : B ≤ wr.heap.size) (h : OVB wr B v zs) (hg : wr.grownBy w1 v.ownBlock) : Below B w0 w1 :=
  hbel.grown hg hB (fun k hk => h.blk hk)
theorem OVB.blk_ne {w : World} {B : Nat} {v : Value} {zs : List Int} (h : OVB w B v zs) {Q : Nat} {cur : Array Value} {T : TypeId} (hQ : w.heap[Q]? = some (.cells cur T (0, 0))) (hT : T ≠ 5) : some Q ≠ v.ownBlock := by
  rcases h.1.2 with ⟨rfl, h0⟩ | ⟨g, cap, cur', rfl, hg, hh, _⟩
  · simp [Value.ownBlock]
  · simp only [Value.ownBlock, ne_eq, Option.some.injEq]
    rintro rfl
    rw [hQ] at hh
    simp at hh
    exact hT hh.2
theorem grown_blk {w w' : World} {row : Option Nat} (hg : w.grownBy w' row) {Q : Nat} {o : Obj} (hQ : w.heap[Q]? = some o) (hne : some Q ≠ row) : w'.heap[Q]? = some o := (hg.block Q (Array.getElem?_eq_some_iff.1 hQ).1 hne).trans hQ
theorem blk_cell {w : World} {R j : Nat} {cur : Array Value} {T : TypeId} {v : Value} (hR : w.heap[R]? = some (.cells cur T (0, 0))) (hv : cur[j]? = some v) : w.cell? ⟨R, j, none⟩ = some v := by
  rw [cell_of_row w R j cur T (0, 0) hR]; exact hv
/-- A slice value (nil, or a row of the call's own from block B on) that has the sequences ss; their letters may lie anywhere. -/
structure OVq (w : World) (B : Nat) (v : Value) (ss : List Sq) : Prop where
  own : w.ownsRow B 37 3 v ss.length (ss.flatMap Sq.cells)
/-- The letters of all of them are the call's own, each in a block of its own. -/
structure DeepQ (w : World) (B : Nat) (ss : List Sq) : Prop where
  mine : ∀ s ∈ ss, Mine w B w.heap.size s.a s.c s.ls
  apart : (ss.map Sq.a).Pairwise (fun x y => ∀ k, rowOf x k → ¬ rowOf y k)
section
variable {w w' : World} {B : Nat} {v : Value} {ss : List Sq}
theorem OVq.nil (w : World) (B : Nat) : OVq w B (.slice none 0 0) [] := ⟨⟨by simp, .inl ⟨rfl, rfl⟩⟩⟩
theorem OVq.form (h : OVq w B v ss) : ∃ (a : Option Addr) (c : Nat), v = .slice a ss.length c := by
  rcases h.own.2 with ⟨rfl, h0⟩ | ⟨g, cap, cur, rfl, _⟩
  · exact ⟨none, 0, by rw [h0]⟩
  · exact ⟨_, _, rfl⟩
theorem OVq.blk (h : OVq w B v ss) {k : Nat} (hk : v.ownBlock = some k) : B ≤ k ∧ k < w.heap.size := by
  rcases h.own.2 with ⟨rfl, h0⟩ | ⟨g, cap, cur, rfl, hg, hh, _⟩
  · simp [Value.ownBlock] at hk
  · simp [Value.ownBlock] at hk
    subst hk
    exact ⟨hg, (Array.getElem?_eq_some_iff.1 hh).1⟩
theorem OVq.stay {S : Nat → Prop} (h : OVq w B v ss) (ho : Only S w w') (hs : ∀ k, v.ownBlock = some k → ¬ S k) : OVq w' B v ss := by
  refine ⟨⟨h.own.1, ?_⟩⟩
  rcases h.own.2 with h' | ⟨g, cap, cur, rfl, hg, hh, r⟩
  · exact .inl h'
  · exact .inr ⟨g, cap, cur, rfl, hg, (ho.block g (Array.getElem?_eq_some_iff.1 hh).1 (hs g rfl)).trans hh, r⟩
theorem OVq.below (h : OVq w B v ss) (hb : Below w.heap.size w w') : OVq w' B v ss := h.stay (Only.ofBelow (S := fun _ => False) hb (Nat.le_refl _)) (by simp)
theorem OVq.weak {B' : Nat} (h : OVq w B v ss) (hB : B' ≤ B) : OVq w B' v ss := by
  refine ⟨⟨h.own.1, ?_⟩⟩
  rcases h.own.2 with h' | ⟨g, cap, cur, h', hg, r⟩
  · exact .inl h'
  · exact .inr ⟨g, cap, cur, h', by omega, r⟩
/-- The row lies in another block than one of another type. -/
theorem OVq.ne (h : OVq w B v ss) {Q : Nat} {cur : Array Value} {T : TypeId} (hQ : w.heap[Q]? = some (.cells cur T (0, 0))) (hT : T ≠ 37) : v.ownBlock ≠ some Q := by
  rcases h.own.2 with ⟨rfl, h0⟩ | ⟨g, cap, cur', rfl, hg, hh, _⟩
  · simp [Value.ownBlock]
  · simp only [Value.ownBlock, ne_eq, Option.some.injEq]
    rintro rfl
    rw [hQ] at hh
    simp at hh
    exact hT hh.2
theorem OVq.sqs {a : Option Addr} {n c : Nat} (h : OVq w B (.slice a n c) ss) (hr : ∀ s ∈ ss, (rI s.n ∧ rI s.d ∧ s.ls.length ≤ maxLen) ∧ Byt w s.a s.ls) : Sqs w a ss := by
  refine ⟨fun s hs => (hr s hs).1, fun hz => ?_⟩
  rcases h.own.2 with ⟨_, h0⟩ | ⟨g, cap, cur, e, hg, hh, r⟩
  · omega
  · simp at e
    obtain ⟨rfl, rfl, rfl⟩ := e
    refine ⟨g, 0, rfl, (Array.getElem?_eq_some_iff.1 hh).1, fun i hi => ?_⟩
    obtain ⟨f0, f1, f2⟩ := flat_get ss i hi
    refine ⟨?_, ?_, ?_, (hr _ (getD_memS hi)).2⟩
    · rw [Nat.zero_add, h.own.cellAt (i * 3) (by omega), f0]
    · rw [Nat.zero_add, h.own.cellAt (i * 3 + 1) (by omega), f1]
    · rw [Nat.zero_add, h.own.cellAt (i * 3 + 2) (by omega), f2]
theorem DeepQ.nil (w : World) (B : Nat) : DeepQ w B [] := ⟨by simp, by simp⟩
theorem Mine.stayQ {S : Nat → Prop} {a : Option Addr} {U c : Nat} {zs : List Int} (h : Mine w B U a c zs) (ho : Only S w w') (hs : ∀ k, rowOf a k → ¬ S k) : Mine w' B U a c zs := by
  rcases h with h | ⟨g, rfl, h1, h2, h⟩
  · exact .inl h
  · exact .inr ⟨g, rfl, h1, h2, h.only ho (hs g ⟨_, rfl, rfl⟩)⟩
theorem DeepQ.stay {S : Nat → Prop} (h : DeepQ w B ss) (ho : Only S w w') (hs : ∀ s ∈ ss, ∀ k, rowOf s.a k → ¬ S k) : DeepQ w' B ss :=
  ⟨fun s hm => ((h.mine s hm).stayQ ho (hs s hm)).mono (Nat.le_refl _) ho.size, h.apart⟩
theorem DeepQ.below (h : DeepQ w B ss) (hb : Below w.heap.size w w') : DeepQ w' B ss := h.stay (Only.ofBelow (S := fun _ => False) hb (Nat.le_refl _)) (by simp)
theorem DeepQ.snoc {s : Sq} (h : DeepQ w B ss) (hm : Mine w B w.heap.size s.a s.c s.ls) (hap : ∀ x ∈ ss, ∀ k, rowOf x.a k → ¬ rowOf s.a k) : DeepQ w B (ss ++ [s]) := by
  refine ⟨fun x hx => ?_, ?_⟩
  · rcases List.mem_append.1 hx with hx | hx
    · exact h.mine x hx
    · obtain rfl : x = s := by simpa using hx
      exact hm
  · rw [List.map_append, List.pairwise_append]
    refine ⟨h.apart, by simp, fun x hx y hy => ?_⟩
    obtain ⟨z, hz, rfl⟩ := List.mem_map.1 hx
    obtain rfl : y = s.a := by simpa using hy
    exact hap z hz
theorem bytes_ne {a : Option Addr} {B' U c : Nat} {zs : List Int} (hm : Mine w B' U a c zs) {Q : Nat} {cur : Array Value} {T : TypeId} (hQ : w.heap[Q]? = some (.cells cur T (0, 0))) (hT : T ≠ 5) : ¬ rowOf a Q := by
  rintro ⟨x, hx, hxg⟩
  rcases hm with ⟨h', _⟩ | ⟨g', h', g1, g2, ho⟩
  · rw [h'] at hx; cases hx
  · rw [h'] at hx
    simp at hx
    rw [← hx] at hxg
    simp at hxg
    subst hxg
    rcases ho.1.2 with ⟨e, _⟩ | ⟨k, cap1, cur1, e, _, hh, _⟩
    · simp at e
    · obtain rfl : g' = k := by simp at e; exact e.1
      rw [hQ] at hh
      simp at hh
      exact hT hh.2
/-- The letters lie in other blocks than the row. -/
theorem OVq.other (h : OVq w B v ss) {a : Option Addr} {B' U c : Nat} {zs : List Int} (hm : Mine w B' U a c zs) {g : Nat} (hg : v.ownBlock = some g) : ¬ rowOf a g := by
  rcases h.own.2 with ⟨e2, _⟩ | ⟨k2, cap2, cur2, e2, _, hh2, _⟩
  · subst e2; simp [Value.ownBlock] at hg
  · subst e2
    obtain rfl : k2 = g := by simpa [Value.ownBlock] using hg
    exact bytes_ne hm hh2 (by decide)
theorem Only.ofGrownQ {row : Option Nat} (hg : w.grownBy w' row) : Only (fun k => row = some k) w w' := (Only.refl (fun k => row = some k) w).grown hg (fun k hk => .inl hk)
theorem DeepQ.grown {ts : List Sq} (hd : DeepQ w B ts) (h : OVq w B v ss) (hg : w.grownBy w' v.ownBlock) : DeepQ w' B ts :=
  hd.stay (Only.ofGrownQ hg) (fun x hx k hk e => h.other (hd.mine x hx) e hk)
theorem DeepQ.byt (h : DeepQ w B ss) {s : Sq} (hs : s ∈ ss) : Byt w s.a s.ls := (h.mine s hs).byt
end
theorem oneCellQ (s : Sq) : ∀ u ∈ s.cells, u.oneCell' = true := by
  intro u hu
  simp [Sq.cells] at hu
  rcases hu with rfl | rfl | rfl <;> rfl
theorem newsQ (w : World) (a : Option Addr) (L c : Nat) (n d : Int) (T : TypeId) (s : Sq) (h1 : s.a = a) (h2 : s.ls.length = L) (h3 : s.c = c) (h4 : s.n = n) (h5 : s.d = d) : ∀ j u, s.cells[j]? = some u → (w.alloc (Obj.cells #[.slice a L c, .int .i64 n, .int .i64 d] T)).cell? ⟨w.heap.size, j, none⟩ = some u := by
  intro j u hu
  subst h1 h2 h3 h4 h5
  match j with
  | 0 => simp [Sq.cells] at hu; simp [hu]
  | 1 => simp [Sq.cells] at hu; simp [hu]
  | 2 => simp [Sq.cells] at hu; simp [hu]
  | j + 3 => simp [Sq.cells] at hu
/-- append(l, s): one more, and where it lies. -/
theorem wpList_append_sq {ops : Array Oper} {rest : List Oper} {o : Oper} {a : Act} {Q : Exit → Act → World → Prop} {w : World} (hgd : o.guard = none) (s x : Operand)
    (ho : o.op = .call { callee := .builtin .append, args := #[s, x], argTypes := #[24, 24] })
    (B : Nat) (v : Value) (ss : List Sq) (hs : a.eval s = v) (hown : OVq w B v ss) (X c : Nat) (e : Sq) (hx : a.eval x = .slice (some ⟨X, 0, none⟩) 1 c) (hX : ∀ j u, e.cells[j]? = some u → w.cell? ⟨X, j, none⟩ = some u) (hb1 : ss.length ≤ 1000000) (hbase : B ≤ w.heap.size)
    (h : ∀ v' w', OVq w' B v' (ss ++ [e]) → w.grownBy w' v.ownBlock → wpList Tryz.prog ops Q rest (a.put o.dst v') w') : wpList Tryz.prog ops Q (o :: rest) a w := by
  obtain ⟨i0, hi, hz0, hz1, hz2⟩ := info_parts Tryz.infoSeq
  obtain ⟨v', w', hr, h2, h3, _, _⟩ := run_append_own_at (P := Tryz.prog) w B 24 o.type 37 i0 (.agg #[.slice none 0 0, .int .i64 0, .int .i64 0]) 3 40 Tryz.underlying24 hi hz0 hz1 hz2 rfl (by decide) v ss.length _ hown.own ⟨X, 0, none⟩ 1 c e.cells rfl (fun j u hu => by rw [show (⟨X, 0, none⟩ : Addr).add j = ⟨X, j, none⟩ from by unfold Addr.add; split <;> simp_all]; exact hX j u hu) (oneCellQ e) (by unfold maxLen; omega) (by omega) hbase
  refine wpList_plain hgd fun K hK' => ?_
  unfold Oper.wp execOp
  simp only [ho, resolve, invoke, builtin, Sem.run_bind, Sem.run_pure, Result.andThen_ok, List.map_toArray, List.map_cons, List.map_nil, hs, hx, hr]
  refine hK' _ _ (h v' w' ⟨?_⟩ h3)
  rw [List.length_append, List.flatMap_append]
  simpa using h2
/-- append(l, s), at a step of a region that draws its order. -/
theorem wp_append_sq {o : Oper} {a : Act} {w : World} {K : Act → World → Prop} {Q : Exit → Act → World → Prop} (s x : Operand)
    (ho : o.op = .call { callee := .builtin .append, args := #[s, x], argTypes := #[24, 24] })
    (B : Nat) (v : Value) (ss : List Sq) (hs : a.eval s = v) (hown : OVq w B v ss) (X c : Nat) (e : Sq) (hx : a.eval x = .slice (some ⟨X, 0, none⟩) 1 c) (hX : ∀ j u, e.cells[j]? = some u → w.cell? ⟨X, j, none⟩ = some u) (hb1 : ss.length ≤ 1000000) (hbase : B ≤ w.heap.size)
    (h : ∀ v' w', OVq w' B v' (ss ++ [e]) → w.grownBy w' v.ownBlock → K (a.put o.dst v') w') : o.wp Tryz.prog a w K Q := by
  obtain ⟨i0, hi, hz0, hz1, hz2⟩ := info_parts Tryz.infoSeq
  obtain ⟨v', w', hr, h2, h3, _, _⟩ := run_append_own_at (P := Tryz.prog) w B 24 o.type 37 i0 (.agg #[.slice none 0 0, .int .i64 0, .int .i64 0]) 3 40 Tryz.underlying24 hi hz0 hz1 hz2 rfl (by decide) v ss.length _ hown.own ⟨X, 0, none⟩ 1 c e.cells rfl (fun j u hu => by rw [show (⟨X, 0, none⟩ : Addr).add j = ⟨X, j, none⟩ from by unfold Addr.add; split <;> simp_all]; exact hX j u hu) (oneCellQ e) (by unfold maxLen; omega) (by omega) hbase
  unfold Oper.wp execOp
  simp only [ho, resolve, invoke, builtin, Sem.run_bind, Sem.run_pure, Result.andThen_ok, List.map_toArray, List.map_cons, List.map_nil, hs, hx, hr]
  refine h v' w' ⟨?_⟩ h3
  rw [List.length_append, List.flatMap_append]
  simpa using h2
/-- append(b, z): one byte more, and where it lies. -/
theorem wpList_append_b1 {ops : Array Oper} {rest : List Oper} {o : Oper} {a : Act} {Q : Exit → Act → World → Prop} {w : World} (hgd : o.guard = none) (s x : Operand)
    (ho : o.op = .call { callee := .builtin .append, args := #[s, x], argTypes := #[22, 22] })
    (B : Nat) (v : Value) (zs : List Int) (hs : a.eval s = v) (hown : OVB w B v zs) (X c : Nat) (z : Int) (hx : a.eval x = .slice (some ⟨X, 0, none⟩) 1 c) (hX : w.cell? ⟨X, 0, none⟩ = some (.int .u8 z)) (hz : 0 ≤ z ∧ z ≤ 255) (hb1 : zs.length ≤ 1000000) (hbase : B ≤ w.heap.size)
    (h : ∀ v' w', OVB w' B v' (zs ++ [z]) → w.grownBy w' v.ownBlock → (v'.ownBlock = v.ownBlock ∨ v'.ownBlock = some w.heap.size) → wpList Tryz.prog ops Q rest (a.put o.dst v') w') : wpList Tryz.prog ops Q (o :: rest) a w := by
  obtain ⟨i0, hi, hz0, hz1, hz2⟩ := info_parts Tryz.infoU8
  obtain ⟨v', w', hr, h2, h3, _, h5⟩ := run_append_own_at (P := Tryz.prog) w B 22 o.type 5 i0 (.int .u8 0) 1 1 Tryz.underlying22 hi hz0 hz1 hz2 rfl (by decide) v zs.length _ hown.1 ⟨X, 0, none⟩ 1 c [.int .u8 z] rfl (fun j u hu => by
    match j, hu with
    | 0, hu => (simp at hu; subst hu; simpa [Addr.add] using hX)) (by intro u hu; simp at hu; subst hu; rfl) (by unfold maxLen; omega) (by omega) hbase
  refine wpList_plain hgd fun K hK' => ?_
  unfold Oper.wp execOp
  simp only [ho, resolve, invoke, builtin, Sem.run_bind, Sem.run_pure, Result.andThen_ok, List.map_toArray, List.map_cons, List.map_nil, hs, hx, hr]
  refine hK' _ _ (h v' w' ⟨?_, ?_⟩ h3 h5)
  · rw [List.length_append, List.map_append]
    simpa using h2
  · intro y hy
    rcases List.mem_append.1 hy with hy | hy
    · exact hown.2 y hy
    · obtain rfl : y = z := by simpa using hy
      exact hz
theorem appQ_below {w0 wr w1 : World} {B : Nat} {v : Value} {ss : List Sq} (hbel : Below B w0 wr) (hB : B ≤ wr.heap.size) (h : OVq wr B v ss) (hg : wr.grownBy w1 v.ownBlock) : Below B w0 w1 :=
  hbel.grown hg hB (fun k hk => (h.blk hk).1)
set_option linter.unusedSimpArgs false
/-- Sequences that were read: what they say lies within bounds. -/
def Sml (ss : List Sq) : Prop := ∀ s ∈ ss, 0 ≤ s.n ∧ s.n ≤ 10000 ∧ 0 ≤ s.d ∧ s.d ≤ 10000 ∧ s.ls.length ≤ 300
theorem Sml.nil : Sml [] := by intro s hs; cases hs
theorem Sml.snoc {ss : List Sq} {s : Sq} (h : Sml ss) (hs : 0 ≤ s.n ∧ s.n ≤ 10000 ∧ 0 ≤ s.d ∧ s.d ≤ 10000 ∧ s.ls.length ≤ 300) : Sml (ss ++ [s]) := by
  intro x hx
  rcases List.mem_append.1 hx with hx | hx
  · exact h x hx
  · obtain rfl : x = s := by simpa using hx
    exact hs
theorem Sml.rng {ss : List Sq} (h : Sml ss) : ∀ s ∈ ss, rI s.n ∧ rI s.d ∧ s.ls.length ≤ maxLen := fun s hs => by
  obtain ⟨h1, h2, h3, h4, h5⟩ := h s hs
  refine ⟨⟨by omega, by omega⟩, ⟨by omega, by omega⟩, by unfold maxLen; omega⟩
/-- A row of letters lies apart from those of sequences. -/
def Aprt (ss : List Sq) (v : Value) : Prop := ∀ s ∈ ss, ∀ k, rowOf s.a k → v.ownBlock ≠ some k
theorem Aprt.none (ss : List Sq) : Aprt ss (.slice none 0 0) := by intro s hs k hk; simp [Value.ownBlock]
theorem Aprt.app {w : World} {B : Nat} {ss : List Sq} {v v' : Value} {H : Nat} (h : Aprt ss v) (hd : DeepQ w B ss) (hv : v'.ownBlock = v.ownBlock ∨ v'.ownBlock = some H) (hH : w.heap.size ≤ H) : Aprt ss v' := by
  intro s hs k hk
  rcases hv with hv | hv
  · rw [hv]; exact h s hs k hk
  · rw [hv]
    have := ((hd.mine s hs).rowB hk).2
    simp only [ne_eq, Option.some.injEq]
    omega
/-- The letters of all stay where a row of letters that lies apart grows. -/
theorem DeepQ.grownB {w w' : World} {B : Nat} {ss : List Sq} {v : Value} (hd : DeepQ w B ss) (h : Aprt ss v) (hg : w.grownBy w' v.ownBlock) : DeepQ w' B ss :=
  hd.stay (Only.ofGrownQ hg) (fun s hs k hk e => h s hs k hk e)
/-- A row of sequences stays where a row of letters grows. -/
theorem OVq.grownB {w w' : World} {B B' : Nat} {v lv : Value} {ss : List Sq} {ls : List Int} (h : OVq w B v ss) (hb : OVB w B' lv ls) (hg : w.grownBy w' lv.ownBlock) : OVq w' B v ss := by
  refine h.stay (Only.ofGrownQ hg) (fun k hk e => ?_)
  rcases h.own.2 with ⟨rfl, h0⟩ | ⟨g, cap, cur, rfl, hg, hh, _⟩
  · simp [Value.ownBlock] at hk
  · obtain rfl : g = k := by simpa [Value.ownBlock] using hk
    exact hb.blk_ne hh (by decide) e.symm
theorem DeepQ.weak {w : World} {B B' : Nat} {ss : List Sq} (h : DeepQ w B ss) (hB : B' ≤ B) : DeepQ w B' ss := ⟨fun s hs => (h.mine s hs).mono hB (Nat.le_refl _), h.apart⟩
theorem OVB.mineAt {w : World} {B : Nat} {v : Value} {zs : List Int} (h : OVB w B v zs) : ∃ (a : Option Addr) (cp : Nat), v = .slice a zs.length cp ∧ Mine w B w.heap.size a cp zs ∧ ∀ k, rowOf a k → v.ownBlock = some k := by
  obtain ⟨a, cp, e, hm⟩ := h.mine
  refine ⟨a, cp, e, hm, fun k hk => ?_⟩
  obtain ⟨x, rfl, rfl⟩ := hk
  rw [e]
  rfl
theorem heap_new (w : World) (o : Obj) : (w.alloc o).heap[w.heap.size]? = some o := by simp only [World.alloc, Array.getElem?_push_size]
theorem run_append_byt (w : World) (ty : TypeId) (B : Nat) (v : Value) (zs : List Int) (hown : OVB w B v zs) (xa : Option Addr) (c : Nat) (ys : List Int) (hy : Byt w xa ys) (hb1 : zs.length + ys.length ≤ 1000000) (hbase : B ≤ w.heap.size) :
    ∃ v' w', (Builtin.append_ #[22, 22] ty #[v, .slice xa ys.length c]).run Tryz.prog w = .ok v' w' ∧ OVB w' B v' (zs ++ ys) ∧ w.grownBy w' v.ownBlock := by
  obtain ⟨i0, hi, hz0, hz1, hz2⟩ := info_parts Tryz.infoU8
  have hr : ∀ z ∈ zs ++ ys, 0 ≤ z ∧ z ≤ 255 := fun z hz => (List.mem_append.1 hz).elim (hown.2 z) (hy.1 z)
  cases xa with
  | none =>
    have hy0 : ys = [] := by
      rcases Nat.eq_zero_or_pos ys.length with h0 | h0
      · exact List.eq_nil_of_length_eq_zero h0
      · obtain ⟨b, off, e, _⟩ := hy.2 h0
        cases e
    subst hy0
    exact ⟨v, w, run_append_none (P := Tryz.prog) w 22 ty 5 i0 Tryz.underlying22 hi B 1 zs.length v _ hown.1 c, by simpa using hown, World.grownBy.refl w _⟩
  | some ad =>
    have hnews : ∀ j u, (ys.map (Value.int .u8))[j]? = some u → w.cell? (ad.add j) = some u := by
      intro j u hu
      have hj : j < ys.length := by
        rcases Nat.lt_or_ge j ys.length with h | h
        · exact h
        · rw [List.getElem?_eq_none (by simpa using h)] at hu; cases hu
      obtain ⟨b, off, e, _, hc⟩ := hy.2 (by omega)
      obtain rfl : ad = ⟨b, off, none⟩ := by simpa using e
      exact news_of hc j u hu
    obtain ⟨v', w', hrun, h2, h3, _, _⟩ := run_append_own_at (P := Tryz.prog) w B 22 ty 5 i0 (.int .u8 0) 1 1 Tryz.underlying22 hi hz0 hz1 hz2 rfl (by decide) v zs.length _ hown.1 ad ys.length c (ys.map (Value.int .u8)) (by simp) hnews (oneCells ys) (by unfold maxLen; omega) (by omega) hbase
    refine ⟨v', w', hrun, ⟨?_, hr⟩, h3⟩
    rw [List.length_append, List.map_append]
    exact h2
theorem wanted_step {P : Program} {ops : Array Oper} {o : Oper} {a : Act} {w : World} {K : Act → World → Prop} {Q : Exit → Act → World → Prop} {E : Prop} (hg : o.guard = none) (h : Oper.wp P o a w K Q) :
    if Region.wanted o (yielded ops a.tmps) = true then Oper.wp P o a w K Q else E := by
  rw [if_pos (by simp [Region.wanted, hg])]
  exact h
theorem OVB.empty (w : World) (B : Nat) (hB : B ≤ w.heap.size) : OVB (w.alloc (Obj.cells #[] 5)) B (.slice (some ⟨w.heap.size, 0, none⟩) 0 0) [] :=
  ⟨⟨rfl, .inr ⟨w.heap.size, 0, #[], rfl, hB, heap_new w _, Nat.le_refl _, by simp, rfl, rfl⟩⟩, by simp⟩
theorem wp_append_byt {o : Oper} {a : Act} {w : World} {K : Act → World → Prop} {Q : Exit → Act → World → Prop} (s x : Operand) (ho : o.op = .call { callee := .builtin .append, args := #[s, x], argTypes := #[22, 22] })
    (B : Nat) (v : Value) (zs : List Int) (hs : a.eval s = v) (hown : OVB w B v zs) (xa : Option Addr) (c : Nat) (ys : List Int) (hx : a.eval x = .slice xa ys.length c) (hy : Byt w xa ys) (hb1 : zs.length + ys.length ≤ 1000000) (hbase : B ≤ w.heap.size)
    (h : ∀ v' w', OVB w' B v' (zs ++ ys) → w.grownBy w' v.ownBlock → K (a.put o.dst v') w') : o.wp Tryz.prog a w K Q := by
  obtain ⟨v', w', hr, h2, h3⟩ := run_append_byt w o.type B v zs hown xa c ys hy hb1 hbase
  unfold Oper.wp execOp
  simp only [ho, resolve, invoke, builtin, Sem.run_bind, Sem.run_pure, Result.andThen_ok, List.map_toArray, List.map_cons, List.map_nil, hs, hx, hr]
  exact h v' w' h2 h3
theorem below_dSq {B : Nat} {a b : World} (h : Below B a b) (n : Nat) : Below B a (b.drewN n) := ⟨h.os, h.tape, h.output, h.size, h.block⟩

theorem ct_get {ss ts : List Sq} (h : ss.map Sq.ct = ts.map Sq.ct) (k : Nat) : (ss.getD k dq).ct = (ts.getD k dq).ct := by
  have : (ss.map Sq.ct).getD k dq.ct = (ts.map Sq.ct).getD k dq.ct := by rw [h]
  simpa [List.getD_eq_getElem?_getD, List.getElem?_map, Option.getD_map] using this

set_option maxRecDepth 20000 in
set_option maxHeartbeats 4000000 in
theorem l4own_any (a : Option Addr) (cap : Nat) (ss : List Sq) (w : World) (hb : Sqs w a ss) (hn : ss.length ≤ 1000) (hl : ∀ s ∈ ss, s.ls.length ≤ 1000000) :
    Calls Tryz.prog 70 #[.slice a ss.length cap] w fun e w' => (∃ v ts, e = .returned v ∧ ts.map Sq.ct = ss.map Sq.ct ∧ OVq w' w.heap.size v ts ∧ DeepQ w' w.heap.size ts) ∧ Below w.heap.size w w' := by
  have HB : Hid (Sqs w a ss ∧ ∀ s ∈ ss, s.ls.length ≤ 1000000) := ⟨hb, hl⟩
  clear hb hl
  generalize hlen : ss.length = n at *
  have HLN : Hid (ss.length = n ∧ True) := ⟨hlen, trivial⟩
  clear hlen
  go_enter Tryz.func70, Tryz.ntmps70
  go_wp2
  go_loopw [3, 4] (fun o i wr => ∃ (k : Nat) (ts : List Sq) (oa : Option Addr) (oc : Nat), k ≤ n ∧ i = .int .i64 k ∧ o = .slice oa ts.length oc ∧ ts.map Sq.ct = (ss.take k).map Sq.ct ∧ OVq wr w.heap.size (.slice oa ts.length oc) ts ∧ DeepQ wr w.heap.size ts ∧ Below w.heap.size w wr) (fun _ i _ => n - (intOf i).toNat)
  case atStart => exact ⟨0, [], none, 0, Nat.zero_le _, rfl, rfl, by simp, OVq.nil _ _, DeepQ.nil _ _, Below.refl _ _⟩
  case round =>
    obtain ⟨k, ts, oa, oc, hk, rfl, rfl, hct, hoq, hdq, hbel⟩ := hrel
    have hes : ts.length = k := by
      have := congrArg List.length hct
      simp only [List.length_map, List.length_take, HLN.out.1] at this
      omega
    have HST : Hid (ts.map Sq.ct = (ss.take k).map Sq.ct ∧ ts.length = k) := ⟨hct, hes⟩
    have HO : Hid (OVq wr w.heap.size (.slice oa ts.length oc) ts ∧ DeepQ wr w.heap.size ts) := ⟨hoq, hdq⟩
    have HBB : Hid (Below w.heap.size w wr) := hbel
    clear hct hoq hdq
    by_cases hlt : k < n
    · obtain ⟨b, off, rfl, hbw, hly⟩ := HB.out.1.len_pos k (by rw [HLN.out.1]; exact hlt)
      have hk3 := (hly k (by rw [HLN.out.1]; exact hlt)).below hbel (Nat.le_refl _) hbw
      have d0 := hk3.c0
      have d1 := hk3.c1
      have d2 := hk3.c2
      have hby := hk3.byt
      have hll := HB.out.2 _ (getD_memS (k := k) (by rw [HLN.out.1]; exact hlt))
      have HCS : Hid ((ss.take (k + 1)).map Sq.ct = (ss.take k).map Sq.ct ++ [(ss.getD k dq).ct] ∧ True) := ⟨ct_take_succ ss k (by rw [HLN.out.1]; exact hlt), trivial⟩
      have hbl : b < wr.heap.size := Nat.lt_of_lt_of_le hbw hbel.size
      clear hk3 hly hbel
      generalize ss.getD k dq = s at *
      obtain ⟨a2, c2, sl, sn, sd⟩ := s
      simp only at d0 d1 d2 hby hll
      have HBY : Hid (Byt wr a2 sl) := hby
      clear hby
      have hk1 : ts.length ≤ 1000 := by omega
      have hwz : w.heap.size ≤ wr.heap.size := HBB.out.size
      clear hes
      go_wp2
      have HE1 : Hid (OVB (wr.drew.alloc (Obj.cells #[] 5)) wr.heap.size (.slice (some ⟨wr.heap.size, 0, none⟩) 0 0) [] ∧ Byt (wr.drew.alloc (Obj.cells #[] 5)) a2 sl ∧ Below wr.heap.size wr (wr.drew.alloc (Obj.cells #[] 5))) := ⟨OVB.empty wr.drew _ (Nat.le_refl _), (HBY.out.drewN 1).alloc _, Below.drewS ((Below.refl wr.heap.size wr.drew).alloc (Nat.le_refl _) _)⟩
      refine wp_region_cut (S := fun W => W.cell? ⟨b, off + k * 3, none⟩ = some (.slice a2 sl.length c2) ∧ W.cell? ⟨b, off + k * 3 + 1, none⟩ = some (.int .i64 sn) ∧ W.cell? ⟨b, off + k * 3 + 2, none⟩ = some (.int .i64 sd)) 21 (by kernel_rfl) (by kernel_rfl) (by exact ⟨d0, d1, d2⟩) (fun hHeld => ?_)
      refine tk 0 (v := ?_) ?_ ?_
      rotate_left 1
      · (intro w hSw; (try dsimp only at hSw); go_simp; try (with_reducible rfl))
      try simp only [tkS]
      refine tk 2 (v := ?_) ?_ ?_
      rotate_left 1
      · (intro w hSw; (try dsimp only at hSw); go_simp; try (with_reducible rfl))
      try simp only [tkS]
      refine tk 3 (v := ?_) ?_ ?_
      rotate_left 1
      · (intro w hSw; (try dsimp only at hSw); go_simp; try (with_reducible rfl))
      try simp only [tkS]
      refine tk 4 (v := ?_) ?_ ?_
      rotate_left 1
      · (intro w hSw; (try dsimp only at hSw); go_simp; try (with_reducible rfl))
      try simp only [tkS]
      refine tk 5 (v := ?_) ?_ ?_
      rotate_left 1
      · (intro w hSw; (try dsimp only at hSw); go_simp; try (with_reducible rfl))
      try simp only [tkS]
      refine tk 6 (v := ?_) ?_ ?_
      rotate_left 1
      · (intro w hSw; (try dsimp only at hSw); go_simp; try (with_reducible rfl))
      try simp only [tkS]
      refine tk 8 (v := ?_) ?_ ?_
      rotate_left 1
      · (intro w hSw; (try dsimp only at hSw); go_simp; try (with_reducible rfl))
      try simp only [tkS]
      refine tk 9 (v := ?_) ?_ ?_
      rotate_left 1
      · (intro w hSw; (try dsimp only at hSw); go_simp; try (with_reducible rfl))
      try simp only [tkS]
      refine tk 10 (v := ?_) ?_ ?_
      rotate_left 1
      · (intro w hSw; (try dsimp only at hSw); go_simp; try (with_reducible rfl))
      try simp only [tkS]
      refine tk 11 (v := ?_) ?_ ?_
      rotate_left 1
      · (intro w hSw; (try dsimp only at hSw); go_simp; try (with_reducible rfl))
      try simp only [tkS]
      refine tk 12 (v := ?_) ?_ ?_
      rotate_left 1
      · (intro w hSw; (try dsimp only at hSw); go_simp; try (with_reducible rfl))
      try simp only [tkS]
      refine tk 13 (v := ?_) ?_ ?_
      rotate_left 1
      · (intro w hSw; (try dsimp only at hSw); go_simp; try (with_reducible rfl))
      try simp only [tkS]
      refine tk 14 (v := ?_) ?_ ?_
      rotate_left 1
      · (intro w hSw; (try dsimp only at hSw); go_simp; try (with_reducible rfl))
      try simp only [tkS]
      refine tk 15 (v := ?_) ?_ ?_
      rotate_left 1
      · (intro w hSw; (try dsimp only at hSw); go_simp; try (with_reducible rfl))
      try simp only [tkS]
      refine tk 16 (v := ?_) ?_ ?_
      rotate_left 1
      · (intro w hSw; (try dsimp only at hSw); go_simp; try (with_reducible rfl))
      try simp only [tkS]
      refine tk 17 (v := ?_) ?_ ?_
      rotate_left 1
      · (intro w hSw; (try dsimp only at hSw); go_simp; try (with_reducible rfl))
      try simp only [tkS]
      refine wpAnyH_ready (rs := [1]) (by kernel_rfl) (by simp) ?_
      refine AllReadyH.cons rfl (fun K hK => ?_) AllReadyH.nil
      go_simp
      refine hK.out _ _ (by exact ⟨keepA _ hbl d0, keepA _ hbl d1, keepA _ hbl d2⟩) (fun hHeld => ?_)
      clear hK K
      try simp only [tkS]
      refine wpAnyH_ready (rs := [7]) (by kernel_rfl) (by simp) ?_
      refine AllReadyH.cons rfl (fun K hK => ?_) AllReadyH.nil
      refine wanted_step rfl (wp_append_byt (.tmp 12) (.tmp 17) rfl wr.heap.size (.slice (some ⟨wr.heap.size, 0, none⟩) 0 0) [] (by simp [Act.eval]) (HE1.out.1) a2 c2 sl (by simp [Act.eval]) (HE1.out.2.1) (by simp; omega) (by simp) ?_)
      intro v2 w2 hov2 hg2
      have hb2 : Below wr.heap.size wr w2 := appB_below HE1.out.2.2 (by simp) HE1.out.1 hg2
      rw [List.nil_append] at hov2
      obtain ⟨ua, uc, rfl, hm2⟩ := hov2.mine
      have HM2 : Hid (Mine w2 wr.heap.size w2.heap.size ua uc sl ∧ Below wr.heap.size wr w2) := ⟨hm2, hb2⟩
      have k0 := keep hb2 hbl d0
      have k1 := keep hb2 hbl d1
      have k2 := keep hb2 hbl d2
      have hbl2 : b < w2.heap.size := by have := hb2.size; omega
      clear hm2 hb2 hov2 hg2
      refine hK.out _ _ (by exact ⟨k0, k1, k2⟩) (fun hHeld => ?_)
      clear hK K
      try simp only [tkS]
      refine tk 18 (v := ?_) ?_ ?_
      rotate_left 1
      · (intro w hSw; (try dsimp only at hSw); go_simp; try (with_reducible rfl))
      try simp only [tkS]
      refine wpAnyH_ready (rs := [19]) (by kernel_rfl) (by simp) ?_
      refine AllReadyH.cons rfl (fun K hK => ?_) AllReadyH.nil
      go_simp
      refine hK.out _ _ (by exact ⟨keepA _ hbl2 k0, keepA _ hbl2 k1, keepA _ hbl2 k2⟩) (fun hHeld => ?_)
      clear hK K
      try simp only [tkS]
      refine wpAnyH_ready (rs := [20]) (by kernel_rfl) (by simp) ?_
      refine AllReadyH.cons rfl (fun K hK => ?_) AllReadyH.nil
      have hA2 : Below w2.heap.size w2 (w2.alloc (Obj.cells #[.slice ua sl.length uc, .int .i64 sn, .int .i64 sd] 37)) := (Below.refl _ _).alloc (Nat.le_refl _) _
      have HO2 : Hid (OVq (w2.alloc (Obj.cells #[.slice ua sl.length uc, .int .i64 sn, .int .i64 sd] 37)) w.heap.size (.slice oa ts.length oc) ts) := (HO.out.1.below HM2.out.2).below hA2
      refine wanted_step rfl (wp_append_sq (.tmp 11) (.tmp 30) rfl w.heap.size (.slice oa ts.length oc) ts (by simp [Act.eval]) HO2.out w2.heap.size 1 ⟨ua, uc, sl, sn, sd⟩ (by simp [Act.eval]) (newsQ w2 ua sl.length uc sn sd 37 ⟨ua, uc, sl, sn, sd⟩ rfl rfl rfl rfl rfl) (by omega) (by have := HM2.out.2.size; simp; omega) ?_)
      intro v3 w3 hov3 hg3
      obtain ⟨sa3, sc3, hv3⟩ := hov3.form
      rw [List.length_append, List.length_singleton] at hv3
      subst hv3
      have hd3 : DeepQ w2 w.heap.size (ts ++ [⟨ua, uc, sl, sn, sd⟩]) := (HO.out.2.below HM2.out.2).snoc (HM2.out.1.mono (by omega) (Nat.le_refl _)) (fun z hz q hq hq2 => by
        have h1 := ((HO.out.2.mine z hz).rowB hq).2
        have h2 := (HM2.out.1.rowB hq2).1
        omega)
      have HM : Hid (OVq w3 w.heap.size (.slice sa3 (ts.length + 1) sc3) (ts ++ [⟨ua, uc, sl, sn, sd⟩]) ∧ DeepQ w3 w.heap.size (ts ++ [⟨ua, uc, sl, sn, sd⟩]) ∧ Below w.heap.size w w3) := ⟨hov3, (hd3.below hA2).grown HO2.out hg3, appQ_below ((HBB.out.trans (HM2.out.2.mono HBB.out.size)).trans (hA2.mono (by have := HBB.out.size; have := HM2.out.2.size; omega))) (by have := HBB.out.size; have := HM2.out.2.size; simp; omega) HO2.out hg3⟩
      have hne : ¬ (Value.slice oa ts.length oc).ownBlock = some b := fun he => by have := (HO2.out.blk he).1; omega
      have e0 := (Only.ofGrownQ hg3).cell (b := b) (o := off + k * 3) (by simp; omega) hne (keepA _ hbl2 k0)
      have e1 := (Only.ofGrownQ hg3).cell (b := b) (o := off + k * 3 + 1) (by simp; omega) hne (keepA _ hbl2 k1)
      have e2 := (Only.ofGrownQ hg3).cell (b := b) (o := off + k * 3 + 2) (by simp; omega) hne (keepA _ hbl2 k2)
      clear hov3 hg3 hd3 hA2
      refine hK.out _ _ (by exact ⟨e0, e1, e2⟩) (fun hHeld => ?_)
      clear hK K
      try simp only [tkS]
      refine wpAnyH_done (by kernel_rfl) ?_ _
      simp only [cutQ, List.drop_succ_cons, List.drop_zero]
      have HCT2 : Hid ((ts ++ [(⟨ua, uc, sl, sn, sd⟩ : Sq)]).map Sq.ct = (ss.take (k + 1)).map Sq.ct ∧ True) := ⟨by rw [List.map_append, HST.out.1, HCS.out.1]; rfl, trivial⟩
      have HL9 : Hid ((ts ++ [(⟨ua, uc, sl, sn, sd⟩ : Sq)]).length = ts.length + 1 ∧ True) := ⟨by simp, trivial⟩
      clear HM2 d0 d1 d2 HO HCS HST k0 k1 k2 e0 e1 e2 HE1 HO2
      go_wp2
      go_roundw
      case rel => exact ⟨k + 1, _, sa3, sc3, by omega, by go_num, by rw [HL9.out.1], HCT2.out.1, by rw [HL9.out.1]; exact HM.out.1, HM.out.2.1, HM.out.2.2⟩
      case measure => simp [intOf]; omega
    · have hkn : k = n := by omega
      subst hkn
      have HF : Hid (ts.map Sq.ct = ss.map Sq.ct ∧ True) := ⟨by rw [HST.out.1, List.take_of_length_le (by rw [HLN.out.1]; exact Nat.le_refl _)], trivial⟩
      clear hes
      go_wp2
      go_ret
      exact ⟨⟨_, ts, rfl, HF.out.1, HO.out.1, HO.out.2⟩, HBB.out⟩
end Go.Proofs.YtfeokafkhnbdiaaGreatDoor
