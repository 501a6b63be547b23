/-
  Small functions of the program over places: sectorOk, isNowhere, right, has, placeOf.
-/
import Derived.Test.YtennmikgehidiaaGreatDoorPlP
import Derived.Deep.AppendLies
import Derived.Deep.RegionLaw
import Derived.BigRegion
import Derived.Deep.RegionHeld3
import Derived.Maps.AppendAt
import Derived.Lib.SliceRun
namespace Go.Proofs.YtennmikgehidiaaGreatDoor
open Go.RowKit
set_option linter.unusedVariables false

theorem addr_add (b off j : Nat) : (⟨b, off, none⟩ : Addr).add j = ⟨b, off + j, none⟩ := by unfold Addr.add; split <;> simp_all

theorem news_of {w : World} {b off : Nat} {zs : List Int} (hc : ∀ i, i < zs.length → w.cell? ⟨b, off + i, none⟩ = some (.int .u8 (zs.getD i 0))) :
    ∀ j u, (zs.map (Value.int .u8))[j]? = some u → w.cell? ((⟨b, off, none⟩ : Addr).add j) = some u := by
  intro j u hu
  have hj : j < zs.length := by
    rcases Nat.lt_or_ge j zs.length with h | h
    · exact h
    · rw [List.getElem?_eq_none (by simpa using h)] at hu; cases hu
  rw [addr_add, hc j hj]
  simp [hj] at hu
  simp [hj, ← hu]

theorem oneCells (zs : List Int) : ∀ u ∈ zs.map (Value.int .u8), u.oneCell' = true := by
  intro u hu
  simp only [List.mem_map] at hu
  obtain ⟨z, _, rfl⟩ := hu
  rfl

end Go.Proofs.YtennmikgehidiaaGreatDoor
namespace Go.Proofs.YtennmikgehidiaaGreatDoor
open Go.RowKit
set_option linter.unusedVariables false

/-- A slice value (nil, or a row of the call's own from block B on) that has the bytes zs. -/
def OVB (w : World) (B : Nat) (v : Value) (zs : List Int) : Prop := w.ownsRow B 5 1 v zs.length (zs.map (Value.int .u8)) ∧ ∀ z ∈ zs, 0 ≤ z ∧ z ≤ 255

theorem OVB.nil (w : World) (B : Nat) : OVB w B (.slice none 0 0) [] := ⟨⟨rfl, .inl ⟨rfl, rfl⟩⟩, by simp⟩
theorem OVB.form {w : World} {B : Nat} {v : Value} {zs : List Int} (h : OVB w B v zs) : ∃ (a : Option Addr) (c : Nat), v = .slice a zs.length c := by
  rcases h.1.2 with ⟨rfl, h0⟩ | ⟨g, cap, cur, rfl, _⟩
  · exact ⟨none, 0, by rw [h0]⟩
  · exact ⟨_, _, rfl⟩
theorem OVB.blk {w : World} {B : Nat} {v : Value} {zs : List Int} (h : OVB w B v zs) {k : Nat} (hk : v.ownBlock = some k) : B ≤ k := by
  rcases h.1.2 with ⟨rfl, h0⟩ | ⟨g, cap, cur, rfl, hg, _⟩
  · simp [Value.ownBlock] at hk
  · simp [Value.ownBlock] at hk
    omega
theorem OVB.mine {w : World} {B : Nat} {v : Value} {zs : List Int} (h : OVB w B v zs) : ∃ (a : Option Addr) (cp : Nat), v = .slice a zs.length cp ∧ Mine w B w.heap.size a cp zs := by
  rcases h.1.2 with ⟨rfl, h0⟩ | ⟨g, cap, cur, rfl, hg, hh, r⟩
  · exact ⟨none, 0, by rw [h0], .inl ⟨rfl, List.eq_nil_of_length_eq_zero h0, rfl⟩⟩
  · exact ⟨some ⟨g, 0, none⟩, cap, rfl, Own.mine (cap := cap) h⟩
theorem OVB.stay {S : Nat → Prop} {w w' : World} {B : Nat} {v : Value} {zs : List Int} (h : OVB w B v zs) (ho : Only S w w') (hs : ∀ k, B ≤ k → ¬ S k) : OVB w' B v zs := by
  refine ⟨⟨h.1.1, ?_⟩, h.2⟩
  rcases h.1.2 with h' | ⟨g, cap, cur, h', hg, hh, r⟩
  · exact .inl h'
  · exact .inr ⟨g, cap, cur, h', hg, (ho.block g (Array.getElem?_eq_some_iff.1 hh).1 (hs g hg)).trans hh, r⟩
theorem OVB.weak {w : World} {B B' : Nat} {v : Value} {zs : List Int} (h : OVB w B v zs) (hB : B' ≤ B) : OVB w B' v zs := by
  refine ⟨⟨h.1.1, ?_⟩, h.2⟩
  rcases h.1.2 with h' | ⟨g, cap, cur, h', hg, r⟩
  · exact .inl h'
  · exact .inr ⟨g, cap, cur, h', by omega, r⟩
theorem OVB.alloc {w : World} {B : Nat} {v : Value} {zs : List Int} (h : OVB w B v zs) (o : Obj) : OVB (w.alloc o) B v zs := ⟨h.1.alloc o, h.2⟩
theorem OVB.byt {w : World} {B : Nat} {a : Option Addr} {n c : Nat} {zs : List Int} (h : OVB w B (.slice a n c) zs) : Byt w a zs := by
  obtain ⟨a', c', e, hm⟩ := h.mine
  obtain ⟨rfl, -, -⟩ : a = a' ∧ n = zs.length ∧ c = c' := by simpa using e
  exact hm.byt
theorem OVB.below {w w' : World} {B : Nat} {v : Value} {zs : List Int} (h : OVB w B v zs) (hb : Below w.heap.size w w') : OVB w' B v zs := h.stay (Only.ofBelow (S := fun _ => False) hb (Nat.le_refl _)) (by simp)

theorem byt_one (w : World) (z : Int) (hz : 0 ≤ z ∧ z ≤ 255) : Byt (w.alloc (.cells #[.int .u8 z] 5)) (some ⟨w.heap.size, 0, none⟩) [z] := by
  refine ⟨by intro y hy; simp at hy; rw [hy]; exact hz, fun _ => ⟨w.heap.size, 0, rfl, by simp, fun i hi => ?_⟩⟩
  obtain rfl : i = 0 := by simp at hi; omega
  simp
theorem run_append_none {P : Program} (w : World) (t ty e : TypeId) (i : TypeInfo) (ht : P.underlying t = some (.slice e)) (hi : P.info? e = some i) (base size n : Nat) (v : Value) (xs : List Value) (hown : w.ownsRow base e size v n xs) (c : Nat) :
    (Builtin.append_ #[t, t] ty #[v, .slice none 0 c]).run P w = .ok v w := by
  rcases hown.2 with ⟨rfl, rfl⟩ | ⟨g, cap, cur, rfl, _, hg, hnc, _⟩
  · simp [Builtin.append_, run_underlying ht, sizeOf, typeInfo, hi, Builtin.lenOf, Builtin.firstCells]
  · simp [Builtin.append_, run_underlying ht, sizeOf, typeInfo, hi, Builtin.lenOf, Builtin.firstCells, hnc, storeCells]

theorem wpList_append_byt {ops : Array Oper} {rest : List Oper} {o : Oper} {a : Act} {Q : Exit → Act → World → Prop} {w : World} (hgd : o.guard = none) (s x : Operand)
    (ho : o.op = .call { callee := .builtin .append, args := #[s, x], argTypes := #[68, 68] })
    (B : Nat) (v : Value) (zs : List Int) (hs : a.eval s = v) (hown : OVB w B v zs) (xa : Option Addr) (c : Nat) (ys : List Int) (hx : a.eval x = .slice xa ys.length c) (hy : Byt w xa ys) (hb1 : zs.length + ys.length ≤ 1000000) (hbase : B ≤ w.heap.size)
    (h : ∀ v' w', OVB w' B v' (zs ++ ys) → w.grownBy w' v.ownBlock → wpList Tryz.prog ops Q rest (a.put o.dst v') w') : wpList Tryz.prog ops Q (o :: rest) a w := by
  obtain ⟨i0, hi, hz0, hz1, hz2⟩ := info_parts Tryz.infoU8
  have hr : ∀ z ∈ zs ++ ys, 0 ≤ z ∧ z ≤ 255 := fun z hz => (List.mem_append.1 hz).elim (hown.2 z) (hy.1 z)
  cases xa with
  | none =>
    have hy0 : ys = [] := by
      rcases Nat.eq_zero_or_pos ys.length with h0 | h0
      · exact List.eq_nil_of_length_eq_zero h0
      · obtain ⟨b, off, e, _⟩ := hy.2 h0
        cases e
    subst hy0
    refine wpList_plain hgd fun K hK' => ?_
    have hrun := run_append_none (P := Tryz.prog) w 68 o.type 5 i0 Tryz.underlying68 hi B 1 zs.length v _ hown.1 c
    unfold Oper.wp execOp
    simp only [List.length_nil] at hx
    simp only [ho, resolve, invoke, builtin, Sem.run_bind, Sem.run_pure, Result.andThen_ok, List.map_toArray, List.map_cons, List.map_nil, hs, hx, hrun]
    exact hK' _ _ (h v w (by simpa using hown) (World.grownBy.refl w _))
  | some ad =>
    have hnews : ∀ j u, (ys.map (Value.int .u8))[j]? = some u → w.cell? (ad.add j) = some u := by
      intro j u hu
      have hj : j < ys.length := by
        rcases Nat.lt_or_ge j ys.length with h | h
        · exact h
        · rw [List.getElem?_eq_none (by simpa using h)] at hu; cases hu
      obtain ⟨b, off, e, _, hc⟩ := hy.2 (by omega)
      obtain rfl : ad = ⟨b, off, none⟩ := by simpa using e
      exact news_of hc j u hu
    refine wpList_append_own w hgd s x 68 ho B 5 i0 (.int .u8 0) 1 1 Tryz.underlying68 hi hz0 hz1 hz2 rfl (by decide) v zs.length _ hs hown.1 ad ys.length c (ys.map (Value.int .u8)) hx (by simp) hnews (oneCells ys) (by unfold maxLen; omega) (by omega) hbase ?_
    intro v' w' h1 h2 _
    refine h v' w' ⟨?_, hr⟩ h2
    rw [List.length_append, List.map_append]
    exact h1
theorem appB_below {w0 wr w1 : World} {B : Nat} {v : Value} {zs : List Int} (hbel : Below B w0 wr) (hB : B ≤ wr.heap.size) (h : OVB wr B v zs) (hg : wr.grownBy w1 v.ownBlock) : Below B w0 w1 :=
  hbel.grown hg hB (fun k hk => h.blk hk)
theorem OVB.blk_ne {w : World} {B : Nat} {v : Value} {zs : List Int} (h : OVB w B v zs) {Q : Nat} {cur : Array Value} {T : TypeId} (hQ : w.heap[Q]? = some (.cells cur T (0, 0))) (hT : T ≠ 5) : some Q ≠ v.ownBlock := by
  rcases h.1.2 with ⟨rfl, h0⟩ | ⟨g, cap, cur', rfl, hg, hh, _⟩
  · simp [Value.ownBlock]
  · simp only [Value.ownBlock, ne_eq, Option.some.injEq]
    rintro rfl
    rw [hQ] at hh
    simp at hh
    exact hT hh.2
theorem grown_blk {w w' : World} {row : Option Nat} (hg : w.grownBy w' row) {Q : Nat} {o : Obj} (hQ : w.heap[Q]? = some o) (hne : some Q ≠ row) : w'.heap[Q]? = some o := (hg.block Q (Array.getElem?_eq_some_iff.1 hQ).1 hne).trans hQ
theorem blk_cell {w : World} {R j : Nat} {cur : Array Value} {T : TypeId} {v : Value} (hR : w.heap[R]? = some (.cells cur T (0, 0))) (hv : cur[j]? = some v) : w.cell? ⟨R, j, none⟩ = some v := by
  rw [cell_of_row w R j cur T (0, 0) hR]; exact hv
end Go.Proofs.YtennmikgehidiaaGreatDoor
namespace Go.Proofs.YtennmikgehidiaaGreatDoor
open Go.RowKit
set_option linter.unusedVariables false

theorem heap_new (w : World) (o : Obj) : (w.alloc o).heap[w.heap.size]? = some o := by simp only [World.alloc, Array.getElem?_push_size]
theorem run_append_byt (w : World) (ty : TypeId) (B : Nat) (v : Value) (zs : List Int) (hown : OVB w B v zs) (xa : Option Addr) (c : Nat) (ys : List Int) (hy : Byt w xa ys) (hb1 : zs.length + ys.length ≤ 1000000) (hbase : B ≤ w.heap.size) :
    ∃ v' w', (Builtin.append_ #[68, 68] ty #[v, .slice xa ys.length c]).run Tryz.prog w = .ok v' w' ∧ OVB w' B v' (zs ++ ys) ∧ w.grownBy w' v.ownBlock := by
  obtain ⟨i0, hi, hz0, hz1, hz2⟩ := info_parts Tryz.infoU8
  have hr : ∀ z ∈ zs ++ ys, 0 ≤ z ∧ z ≤ 255 := fun z hz => (List.mem_append.1 hz).elim (hown.2 z) (hy.1 z)
  cases xa with
  | none =>
    have hy0 : ys = [] := by
      rcases Nat.eq_zero_or_pos ys.length with h0 | h0
      · exact List.eq_nil_of_length_eq_zero h0
      · obtain ⟨b, off, e, _⟩ := hy.2 h0
        cases e
    subst hy0
    exact ⟨v, w, run_append_none (P := Tryz.prog) w 68 ty 5 i0 Tryz.underlying68 hi B 1 zs.length v _ hown.1 c, by simpa using hown, World.grownBy.refl w _⟩
  | some ad =>
    have hnews : ∀ j u, (ys.map (Value.int .u8))[j]? = some u → w.cell? (ad.add j) = some u := by
      intro j u hu
      have hj : j < ys.length := by
        rcases Nat.lt_or_ge j ys.length with h | h
        · exact h
        · rw [List.getElem?_eq_none (by simpa using h)] at hu; cases hu
      obtain ⟨b, off, e, _, hc⟩ := hy.2 (by omega)
      obtain rfl : ad = ⟨b, off, none⟩ := by simpa using e
      exact news_of hc j u hu
    obtain ⟨v', w', hrun, h2, h3, _, _⟩ := run_append_own_at (P := Tryz.prog) w B 68 ty 5 i0 (.int .u8 0) 1 1 Tryz.underlying68 hi hz0 hz1 hz2 rfl (by decide) v zs.length _ hown.1 ad ys.length c (ys.map (Value.int .u8)) (by simp) hnews (oneCells ys) (by unfold maxLen; omega) (by omega) hbase
    refine ⟨v', w', hrun, ⟨?_, hr⟩, h3⟩
    rw [List.length_append, List.map_append]
    exact h2
theorem wanted_step {P : Program} {ops : Array Oper} {o : Oper} {a : Act} {w : World} {K : Act → World → Prop} {Q : Exit → Act → World → Prop} {E : Prop} (hg : o.guard = none) (h : Oper.wp P o a w K Q) :
    if Region.wanted o (yielded ops a.tmps) = true then Oper.wp P o a w K Q else E := by
  rw [if_pos (by simp [Region.wanted, hg])]
  exact h
theorem OVB.empty (w : World) (B : Nat) (hB : B ≤ w.heap.size) : OVB (w.alloc (Obj.cells #[] 5)) B (.slice (some ⟨w.heap.size, 0, none⟩) 0 0) [] :=
  ⟨⟨rfl, .inr ⟨w.heap.size, 0, #[], rfl, hB, heap_new w _, Nat.le_refl _, by simp, rfl, rfl⟩⟩, by simp⟩
theorem wp_append_byt {o : Oper} {a : Act} {w : World} {K : Act → World → Prop} {Q : Exit → Act → World → Prop} (s x : Operand) (ho : o.op = .call { callee := .builtin .append, args := #[s, x], argTypes := #[68, 68] })
    (B : Nat) (v : Value) (zs : List Int) (hs : a.eval s = v) (hown : OVB w B v zs) (xa : Option Addr) (c : Nat) (ys : List Int) (hx : a.eval x = .slice xa ys.length c) (hy : Byt w xa ys) (hb1 : zs.length + ys.length ≤ 1000000) (hbase : B ≤ w.heap.size)
    (h : ∀ v' w', OVB w' B v' (zs ++ ys) → w.grownBy w' v.ownBlock → K (a.put o.dst v') w') : o.wp Tryz.prog a w K Q := by
  obtain ⟨v', w', hr, h2, h3⟩ := run_append_byt w o.type B v zs hown xa c ys hy hb1 hbase
  unfold Oper.wp execOp
  simp only [ho, resolve, invoke, builtin, Sem.run_bind, Sem.run_pure, Result.andThen_ok, List.map_toArray, List.map_cons, List.map_nil, hs, hx, hr]
  exact h v' w' h2 h3
end Go.Proofs.YtennmikgehidiaaGreatDoor
namespace Go.Proofs.YtennmikgehidiaaGreatDoor
open Go.RowKit
set_option linter.unusedVariables false
set_option linter.unusedSimpArgs false

theorem OVp.empty (w : World) (B : Nat) (hB : B ≤ w.heap.size) : OVp (w.alloc (Obj.cells #[] 72)) B (.slice (some ⟨w.heap.size, 0, none⟩) 0 0) [] :=
  ⟨⟨by simp, .inr ⟨w.heap.size, 0, #[], rfl, hB, heap_new w _, Nat.le_refl _, by simp, by simp, by simp⟩⟩, by simp⟩
theorem oneCellP (p : Int × Int) : ∀ u ∈ pcs p, u.oneCell' = true := by
  intro u hu
  simp [pcs] at hu
  rcases hu with rfl | rfl <;> rfl

/-- append(s, qs...), where S is a type of slices of places. -/
theorem wp_append_pls (S : TypeId) (hS : Tryz.prog.underlying S = some (.slice 72)) {o : Oper} {a : Act} {w : World} {K : Act → World → Prop} {Q : Exit → Act → World → Prop} (s x : Operand) (ho : o.op = .call { callee := .builtin .append, args := #[s, x], argTypes := #[S, S] })
    (B : Nat) (v : Value) (ps qs : List (Int × Int)) (hs : a.eval s = v) (hown : OVp w B v ps) (xa : Addr) (c : Nat) (hx : a.eval x = .slice (some xa) qs.length c) (hX : Pls w (some xa) qs) (hb1 : ps.length + qs.length ≤ 1000000) (hbase : B ≤ w.heap.size)
    (h : ∀ v' w', OVp w' B v' (ps ++ qs) → w.grownBy w' v.ownBlock → K (a.put o.dst v') w') : o.wp Tryz.prog a w K Q := by
  obtain ⟨i0, hi, hz0', hz1', hz2⟩ := info_parts Tryz.infoPl
  have hnews : ∀ j u, (qs.flatMap pcs)[j]? = some u → w.cell? (xa.add j) = some u := by
    intro j u hu
    have hj : j < qs.length * 2 := by
      rcases Nat.lt_or_ge j (qs.length * 2) with h | h
      · exact h
      · rw [List.getElem?_eq_none (by rw [flatP_len]; exact h)] at hu; cases hu
    have hi1 : j / 2 < qs.length := by omega
    obtain ⟨b, off, e, hb, hc⟩ := hX.2 (Nat.lt_of_le_of_lt (Nat.zero_le _) hi1)
    obtain rfl : xa = ⟨b, off, none⟩ := by simpa using e
    have hg := flatP_get qs (j / 2) hi1
    have hl := hc (j / 2) hi1
    rw [addr_add]
    have h2 : j = j / 2 * 2 ∨ j = j / 2 * 2 + 1 := by omega
    rcases h2 with h2 | h2
    · rw [← h2] at hg hl
      rw [hl.1, ← hg.1, hu]
    · rw [← h2] at hg
      rw [show off + j = off + j / 2 * 2 + 1 from by omega, hl.2, ← hg.2, hu]
  have hone : ∀ u ∈ qs.flatMap pcs, u.oneCell' = true := by
    intro u hu
    obtain ⟨e, _, he⟩ := List.mem_flatMap.1 hu
    exact oneCellP e u he
  obtain ⟨v', w', hr, h2, h3, _, _⟩ := run_append_own_at (P := Tryz.prog) w B S o.type 72 i0 (.agg #[.int .i64 0, .int .i64 0]) 2 16 hS hi hz0' hz1' hz2 rfl (by decide) v ps.length _ hown.1 xa qs.length c (qs.flatMap pcs) (flatP_len qs) hnews hone (by unfold maxLen; omega) (by omega) hbase
  unfold Oper.wp execOp
  simp only [ho, resolve, invoke, builtin, Sem.run_bind, Sem.run_pure, Result.andThen_ok, List.map_toArray, List.map_cons, List.map_nil, hs, hx, hr]
  refine h v' w' ⟨?_, fun q hq => ?_⟩ h3
  · rw [List.length_append, List.flatMap_append]
    exact h2
  · rcases List.mem_append.1 hq with hq | hq
    · exact hown.2 q hq
    · exact hX.1 q hq
theorem wpList_append_pls (S : TypeId) (hS : Tryz.prog.underlying S = some (.slice 72)) {ops : Array Oper} {rest : List Oper} {o : Oper} {a : Act} {Q : Exit → Act → World → Prop} {w : World} (hgd : o.guard = none) (s x : Operand) (ho : o.op = .call { callee := .builtin .append, args := #[s, x], argTypes := #[S, S] })
    (B : Nat) (v : Value) (ps qs : List (Int × Int)) (hs : a.eval s = v) (hown : OVp w B v ps) (xa : Addr) (c : Nat) (hx : a.eval x = .slice (some xa) qs.length c) (hX : Pls w (some xa) qs) (hb1 : ps.length + qs.length ≤ 1000000) (hbase : B ≤ w.heap.size)
    (h : ∀ v' w', OVp w' B v' (ps ++ qs) → w.grownBy w' v.ownBlock → wpList Tryz.prog ops Q rest (a.put o.dst v') w') : wpList Tryz.prog ops Q (o :: rest) a w :=
  wpList_plain hgd fun _ hK => wp_append_pls S hS s x ho B v ps qs hs hown xa c hx hX hb1 hbase fun v' w' h1 h2 => hK _ _ (h v' w' h1 h2)
theorem pls_none {w : World} {ps : List (Int × Int)} (h : Pls w none ps) : ps = [] := by
  rcases Nat.eq_zero_or_pos ps.length with h0 | h0
  · exact List.eq_nil_of_length_eq_zero h0
  · obtain ⟨b, off, e, _⟩ := h.2 h0
    cases e
theorem appP_below {w0 wr w1 : World} {B : Nat} {v : Value} {ps : List (Int × Int)} (hbel : Below B w0 wr) (hB : B ≤ wr.heap.size) (h : OVp wr B v ps) (hg : wr.grownBy w1 v.ownBlock) : Below B w0 w1 :=
  hbel.grown hg hB (fun k hk => (h.blk hk).1)

set_option maxHeartbeats 800000 in
theorem clonePl_any (a : Option Addr) (cap : Nat) (ps : List (Int × Int)) (w : World) (hb : Pls w a ps) (hn : ps.length ≤ 1000000) :
    Calls Tryz.prog 43 #[.slice a ps.length cap] w fun e w' => (∃ v, e = .returned v ∧ OVp w' w.heap.size v ps) ∧ Below w.heap.size w w' := by
  cases a with
  | none =>
    have hz := pls_none hb
    subst hz
    have heq : (binOp .eql 58 (.slice none 0 cap) (.slice none 0 0)).run Tryz.prog w = .ok (.bool true) w := Lib.run_eql_slice_nil w _ _ none 0 cap 0 0 Tryz.underlying58
    go_enter Tryz.func43, Tryz.ntmps43
    go_wp2
    go_ret
    exact ⟨⟨_, rfl, OVp.nil _ _⟩, Below.refl _ _⟩
  | some ad =>
    have HO : Hid (OVp (w.alloc (Obj.cells #[] 72)) w.heap.size (.slice (some ⟨w.heap.size, 0, none⟩) 0 0) []) := OVp.empty w _ (Nat.le_refl _)
    have HB : Hid (Below w.heap.size w (w.alloc (Obj.cells #[] 72))) := (Below.refl _ _).alloc (Nat.le_refl _) _
    have HY : Hid (Pls (w.alloc (Obj.cells #[] 72)) (some ad) ps) := hb.below HB.out (Nat.le_refl _)
    clear hb
    have heq : (binOp .eql 58 (.slice (some ad) ps.length cap) (.slice none 0 0)).run Tryz.prog w = .ok (.bool false) w := Lib.run_eql_slice_nil w _ _ (some ad) ps.length cap 0 0 Tryz.underlying58
    go_enter Tryz.func43, Tryz.ntmps43
    go_wp2_with (at_builtin; (refine wpList_append_pls 58 Tryz.underlying58 rfl (.tmp 5) (.tmp 6) rfl w.heap.size (.slice (some ⟨w.heap.size, 0, none⟩) 0 0) [] ps rfl HO.out ad cap rfl HY.out (by simp; omega) (by simp) ?_; intro v1 w1 hov1 hgr1; have HB1 : Hid (Below w.heap.size w w1) := appP_below HB.out (by simp) HO.out hgr1; have HV1 : Hid (OVp w1 w.heap.size v1 ps) := (by rw [List.nil_append] at hov1; exact hov1); clear hov1 hgr1))
    go_ret
    exact ⟨⟨_, rfl, HV1.out⟩, HB1.out⟩
end Go.Proofs.YtennmikgehidiaaGreatDoor
namespace Go.Proofs.YtennmikgehidiaaGreatDoor
open Go.RowKit
set_option linter.unusedVariables false

def nwh (p : Int × Int) : Bool := p.1 == 0 && p.2 == 0
def rgt (p : Int × Int) : Bool := decide (2 ≤ p.1 ∧ p.1 ≤ 23 ∧ 0 ≤ p.2 ∧ p.2 ≤ 15)
/-- One of the first k is p. -/
def tkn (ps : List (Int × Int)) (p : Int × Int) : Nat → Bool
  | 0 => false
  | k + 1 => tkn ps p k || (ps.getD k dp == p)
def stpP (ps : List (Int × Int)) (i : Nat) : Bool := nwh (ps.getD i dp) || (rgt (ps.getD i dp) && !tkn ps (ps.getD i dp) i)
def okT (ps : List (Int × Int)) : Nat → Bool
  | 0 => true
  | k + 1 => okT ps k && stpP ps k
/-- Is it a right map? -/
def mapB (ps : List (Int × Int)) : Bool := decide (1 ≤ ps.length ∧ ps.length ≤ 16) && okT ps ps.length

theorem okT_le (ps : List (Int × Int)) (n k : Nat) (h : okT ps n = true) (hk : k ≤ n) : okT ps k = true := by
  induction n with
  | zero => obtain rfl : k = 0 := by omega
            exact h
  | succ n ih =>
    simp only [okT, Bool.and_eq_true] at h
    rcases Nat.lt_or_ge k (n + 1) with hk' | hk'
    · exact ih h.1 (by omega)
    · obtain rfl : k = n + 1 := by omega
      simp only [okT, Bool.and_eq_true]; exact h
theorem okT_no (ps : List (Int × Int)) (n k : Nat) (h : stpP ps k = false) (hk : k < n) : okT ps n = false := by
  cases hh : okT ps n
  · rfl
  · have := okT_le ps n (k + 1) hh (by omega)
    simp only [okT, h, Bool.and_false] at this
    cases this
theorem mapB_no (ps : List (Int × Int)) (k : Nat) (h : stpP ps k = false) (hk : k < ps.length) : mapB ps = false := by
  unfold mapB
  rw [okT_no ps _ k h hk, Bool.and_false]
theorem mapB_short (ps : List (Int × Int)) (h : ¬ (1 ≤ ps.length ∧ ps.length ≤ 16)) : mapB ps = false := by
  unfold mapB
  rw [decide_eq_false h, Bool.false_and]
theorem mapB_yes (ps : List (Int × Int)) (h : 1 ≤ ps.length ∧ ps.length ≤ 16) (h2 : okT ps ps.length = true) : mapB ps = true := by
  unfold mapB
  rw [decide_eq_true h, h2]; rfl
theorem mapB_len (ps : List (Int × Int)) (h : mapB ps = true) : 1 ≤ ps.length ∧ ps.length ≤ 16 := by
  unfold mapB at h
  simp only [Bool.and_eq_true, decide_eq_true_eq] at h
  exact h.1
theorem mapB_okT (ps : List (Int × Int)) (h : mapB ps = true) : okT ps ps.length = true := by
  unfold mapB at h
  simp only [Bool.and_eq_true, decide_eq_true_eq] at h
  exact h.2
theorem tkn_iff (ps : List (Int × Int)) (p : Int × Int) (k : Nat) : tkn ps p k = true ↔ ∃ i, i < k ∧ ps.getD i dp = p := by
  induction k with
  | zero => simp [tkn]
  | succ k ih =>
    simp only [tkn, Bool.or_eq_true, ih, beq_iff_eq]
    constructor
    · rintro (⟨i, hi, h⟩ | h)
      · exact ⟨i, by omega, h⟩
      · exact ⟨k, by omega, h⟩
    · rintro ⟨i, hi, h⟩
      rcases Nat.lt_or_ge i k with h' | h'
      · exact .inl ⟨i, h', h⟩
      · obtain rfl : i = k := by omega
        exact .inr h
theorem tkn_mono (ps : List (Int × Int)) (p : Int × Int) {k n : Nat} (h : tkn ps p k = true) (hk : k ≤ n) : tkn ps p n = true := by
  obtain ⟨i, hi, e⟩ := (tkn_iff ps p k).1 h
  exact (tkn_iff ps p n).2 ⟨i, by omega, e⟩
theorem below_dP {B : Nat} {a b : World} (h : Below B a b) (n : Nat) : Below B a (b.drewN n) := ⟨h.os, h.tape, h.output, h.size, h.block⟩
end Go.Proofs.YtennmikgehidiaaGreatDoor
namespace Go.Proofs.YtennmikgehidiaaGreatDoor
open Go.RowKit
set_option linter.unusedVariables false
set_option linter.unusedSimpArgs false

theorem sectorOk_any (x : Int) (w : World) :
    Calls Tryz.prog 25 #[.int .i64 x] w fun e w' => e = .returned (.bool (decide (2 ≤ x ∧ x ≤ 23))) ∧ w' = w := by
  have key : (2 ≤ x ∧ x < 24) ∨ x < 2 ∨ (2 ≤ x ∧ 24 ≤ x) := by omega
  rcases key with ⟨h1, h2⟩ | h1 | ⟨h1, h2⟩
  · rw [decide_eq_true (show 2 ≤ x ∧ x ≤ 23 by omega)]
    go_enter Tryz.func25, Tryz.ntmps25
    go_wp2
    go_ret
    exact ⟨by simp [h1, h2], rfl⟩
  · rw [decide_eq_false (show ¬ (2 ≤ x ∧ x ≤ 23) by omega)]
    go_enter Tryz.func25, Tryz.ntmps25
    go_wp2
    go_ret
    exact ⟨rfl, rfl⟩
  · rw [decide_eq_false (show ¬ (2 ≤ x ∧ x ≤ 23) by omega)]
    have h3 : ¬ x < 24 := by omega
    go_enter Tryz.func25, Tryz.ntmps25
    go_wp2
    go_ret
    exact ⟨by simp [h3], rfl⟩

set_option maxHeartbeats 800000 in
theorem isNowhere_any (x y : Int) (w : World) :
    Calls Tryz.prog 52 #[.agg #[.int .i64 x, .int .i64 y]] w fun e w' => e = .returned (.bool (nwh (x, y))) ∧ Below w.heap.size w w' := by
  have key : (x = 0 ∧ y = 0) ∨ (x = 0 ∧ ¬ y = 0) ∨ ¬ x = 0 := by omega
  rcases key with ⟨rfl, rfl⟩ | ⟨rfl, h⟩ | h
  · go_enter Tryz.func52, Tryz.ntmps52
    go_wp2
    go_ret
    exact ⟨rfl, (Below.refl _ _).alloc (Nat.le_refl _) _⟩
  · rw [show nwh (0, y) = false from by unfold nwh; simp [h]]
    go_enter Tryz.func52, Tryz.ntmps52
    go_wp2
    go_ret
    exact ⟨rfl, (Below.refl _ _).alloc (Nat.le_refl _) _⟩
  · rw [show nwh (x, y) = false from by unfold nwh; simp [h]]
    go_enter Tryz.func52, Tryz.ntmps52
    go_wp2
    go_ret
    exact ⟨rfl, (Below.refl _ _).alloc (Nat.le_refl _) _⟩

set_option maxHeartbeats 800000 in
theorem right_any (x y : Int) (w : World) :
    Calls Tryz.prog 53 #[.agg #[.int .i64 x, .int .i64 y]] w fun e w' => e = .returned (.bool (rgt (x, y))) ∧ Below w.heap.size w w' := by
  have hw : Below w.heap.size w (w.alloc (Obj.cells #[Value.int IntKind.i64 x, Value.int IntKind.i64 y] 72)) := (Below.refl _ _).alloc (Nat.le_refl _) _
  have key : (2 ≤ x ∧ x ≤ 23) ∨ ¬ (2 ≤ x ∧ x ≤ 23) := by omega
  rcases key with h | h
  · have kk : (0 ≤ y ∧ y < 16) ∨ ¬ (0 ≤ y) ∨ (0 ≤ y ∧ ¬ y < 16) := by omega
    rcases kk with ⟨h1, h2⟩ | h1 | ⟨h1, h2⟩
    · rw [show rgt (x, y) = true from decide_eq_true ⟨h.1, h.2, h1, by simp only; omega⟩]
      go_enter Tryz.func53, Tryz.ntmps53
      go_wp2_with fail
      refine (sectorOk_any x _).mono ?_
      rintro e w1 ⟨rfl, rfl⟩
      rw [decide_eq_true h]
      go_wp2
      go_ret
      exact ⟨by simp [h1, h2], hw⟩
    · rw [show rgt (x, y) = false from decide_eq_false (fun hh => h1 hh.2.2.1)]
      go_enter Tryz.func53, Tryz.ntmps53
      go_wp2_with fail
      refine (sectorOk_any x _).mono ?_
      rintro e w1 ⟨rfl, rfl⟩
      rw [decide_eq_true h]
      go_wp2
      go_ret
      exact ⟨by simp [h1], hw⟩
    · rw [show rgt (x, y) = false from decide_eq_false (fun hh => h2 (by have := hh.2.2.2; simp only at this; omega))]
      go_enter Tryz.func53, Tryz.ntmps53
      go_wp2_with fail
      refine (sectorOk_any x _).mono ?_
      rintro e w1 ⟨rfl, rfl⟩
      rw [decide_eq_true h]
      go_wp2
      go_ret
      exact ⟨by simp [h1, h2], hw⟩
  · rw [show rgt (x, y) = false from decide_eq_false (fun hh => h ⟨hh.1, hh.2.1⟩)]
    go_enter Tryz.func53, Tryz.ntmps53
    go_wp2_with fail
    refine (sectorOk_any x _).mono ?_
    rintro e w1 ⟨rfl, rfl⟩
    rw [decide_eq_false h]
    go_wp2
    go_ret
    exact ⟨rfl, hw⟩

theorem hasP_any (a : Option Addr) (n c : Nat) (x : Int) (w : World) (hn : n ≤ 1048576) :
    Calls Tryz.prog 44 #[.slice a n c, .int .i64 x] w fun e w' => e = .returned (.bool (decide (0 ≤ x ∧ x < n))) ∧ w' = w := by
  have key : (0 ≤ x ∧ x < n) ∨ ¬ 0 ≤ x ∨ (0 ≤ x ∧ ¬ x < n) := by omega
  rcases key with ⟨h1, h2⟩ | h1 | ⟨h1, h2⟩
  · rw [decide_eq_true ⟨h1, h2⟩]
    go_enter Tryz.func44, Tryz.ntmps44
    go_wp2
    go_ret
    exact ⟨by simp [h1, h2], rfl⟩
  · rw [decide_eq_false (fun hh => h1 hh.1)]
    go_enter Tryz.func44, Tryz.ntmps44
    go_wp2
    go_ret
    exact ⟨by simp [h1], rfl⟩
  · rw [decide_eq_false (fun hh => h2 hh.2)]
    go_enter Tryz.func44, Tryz.ntmps44
    go_wp2
    go_ret
    exact ⟨by simp [h1, h2], rfl⟩

/-- The place of an address; nowhere for who is none. -/
def plcO (ps : List (Int × Int)) (x : Int) : Int × Int := if 0 ≤ x ∧ x < ps.length then ps.getD x.toNat dp else dp

set_option maxHeartbeats 800000 in
theorem placeOf_any (a : Option Addr) (c : Nat) (ps : List (Int × Int)) (x : Int) (w : World) (hb : Pls w a ps) (hn : ps.length ≤ 1048576) :
    Calls Tryz.prog 51 #[.slice a ps.length c, .int .i64 x] w fun e w' => e = .returned (.agg #[.int .i64 (plcO ps x).1, .int .i64 (plcO ps x).2]) ∧ Below w.heap.size w w' := by
  have hw : Below w.heap.size w (w.alloc (Obj.cells #[Value.int IntKind.i64 0, Value.int IntKind.i64 0] 72)) := (Below.refl _ _).alloc (Nat.le_refl _) _
  by_cases h : 0 ≤ x ∧ x < ps.length
  · obtain ⟨k, rfl⟩ := Int.eq_ofNat_of_zero_le h.1
    have hk : k < ps.length := by omega
    have he : plcO ps (k : Nat) = ps.getD k dp := by unfold plcO; rw [if_pos h, Int.toNat_natCast]
    rw [he]
    obtain ⟨b, off, rfl, hb1, hc1⟩ := (hb.alloc (Obj.cells #[Value.int IntKind.i64 0, Value.int IntKind.i64 0] 72)).len_pos k hk
    obtain ⟨c0, c1⟩ := hc1 k hk
    have hbw : b < w.heap.size := by
      obtain ⟨b', off', e, hb', _⟩ := hb.2 (by omega)
      simp at e
      omega
    clear hc1 he hb
    generalize ps.getD k dp = p at *
    generalize ps.length = n at *
    obtain ⟨x, y⟩ := p
    simp only at c0 c1 ⊢
    go_enter Tryz.func51, Tryz.ntmps51
    go_wp2_with fail
    refine (hasP_any _ n c k _ hn).mono ?_
    rintro e w1 ⟨rfl, rfl⟩
    rw [decide_eq_true h]
    go_wp2
    refine bodyPost_ret (v := .agg #[.int .i64 x, .int .i64 y]) (by simp [results, Tryz.results51, go_sem]) rfl ⟨rfl, ?_⟩
    repeat (refine Below.setCell ?_ (by first | (simp; done) | (simp; omega)) _)
    first | exact hw | exact (Below.refl _ _).alloc (Nat.le_refl _) _
  · have he : plcO ps x = dp := by unfold plcO; rw [if_neg h]
    rw [he]
    clear he hb
    go_enter Tryz.func51, Tryz.ntmps51
    go_wp2_with fail
    refine (hasP_any a ps.length c x _ hn).mono ?_
    rintro e w1 ⟨rfl, rfl⟩
    rw [decide_eq_false h]
    go_wp2
    refine bodyPost_ret (v := .agg #[.int .i64 0, .int .i64 0]) (by simp [results, Tryz.results51, go_sem]) rfl ⟨rfl, ?_⟩
    repeat (refine Below.setCell ?_ (by first | (simp; done) | (simp; omega)) _)
    first | exact hw | exact (Below.refl _ _).alloc (Nat.le_refl _) _
theorem plcO_in (ps : List (Int × Int)) (k : Nat) (h : k < ps.length) : plcO ps k = ps.getD k dp := by unfold plcO; rw [if_pos (by omega), Int.toNat_natCast]
theorem plcO_out (ps : List (Int × Int)) (x : Int) (h : ¬ (0 ≤ x ∧ x < ps.length)) : plcO ps x = dp := by unfold plcO; rw [if_neg h]
theorem plcO_rng {ps : List (Int × Int)} (h : ∀ p ∈ ps, rP p) (x : Int) : rP (plcO ps x) := by
  unfold plcO
  split
  · rename_i hx
    exact h _ (getD_memP (by omega))
  · exact rP_dp
end Go.Proofs.YtennmikgehidiaaGreatDoor
