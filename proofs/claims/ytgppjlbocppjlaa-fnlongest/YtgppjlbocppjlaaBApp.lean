/-
  Rows of bytes that grow by an append, of whatever bytes.
-/
import Derived.Test.YtgppjlbocppjlaaNews
namespace Go.Proofs.Ytgppjlbocppjlaa
open Go.RowKit
set_option linter.unusedVariables false

/-- A slice value (nil, or a row of the call's own from block B on) that has the bytes zs. -/
def OVB (w : World) (B : Nat) (v : Value) (zs : List Int) : Prop := w.ownsRow B 5 1 v zs.length (zs.map (Value.int .u8)) ∧ ∀ z ∈ zs, 0 ≤ z ∧ z ≤ 255

theorem OVB.nil (w : World) (B : Nat) : OVB w B (.slice none 0 0) [] := ⟨⟨rfl, .inl ⟨rfl, rfl⟩⟩, by simp⟩
theorem OVB.form {w : World} {B : Nat} {v : Value} {zs : List Int} (h : OVB w B v zs) : ∃ (a : Option Addr) (c : Nat), v = .slice a zs.length c := by
  rcases h.1.2 with ⟨rfl, h0⟩ | ⟨g, cap, cur, rfl, _⟩
  · exact ⟨none, 0, by rw [h0]⟩
  · exact ⟨_, _, rfl⟩
theorem OVB.blk {w : World} {B : Nat} {v : Value} {zs : List Int} (h : OVB w B v zs) {k : Nat} (hk : v.ownBlock = some k) : B ≤ k := by
  rcases h.1.2 with ⟨rfl, h0⟩ | ⟨g, cap, cur, rfl, hg, _⟩
  · simp [Value.ownBlock] at hk
  · simp [Value.ownBlock] at hk
    omega
theorem OVB.mine {w : World} {B : Nat} {v : Value} {zs : List Int} (h : OVB w B v zs) : ∃ (a : Option Addr) (cp : Nat), v = .slice a zs.length cp ∧ Mine w B w.heap.size a cp zs := by
  rcases h.1.2 with ⟨rfl, h0⟩ | ⟨g, cap, cur, rfl, hg, hh, r⟩
  · exact ⟨none, 0, by rw [h0], .inl ⟨rfl, List.eq_nil_of_length_eq_zero h0, rfl⟩⟩
  · exact ⟨some ⟨g, 0, none⟩, cap, rfl, Own.mine (cap := cap) h⟩
theorem OVB.stay {S : Nat → Prop} {w w' : World} {B : Nat} {v : Value} {zs : List Int} (h : OVB w B v zs) (ho : Only S w w') (hs : ∀ k, B ≤ k → ¬ S k) : OVB w' B v zs := by
  refine ⟨⟨h.1.1, ?_⟩, h.2⟩
  rcases h.1.2 with h' | ⟨g, cap, cur, h', hg, hh, r⟩
  · exact .inl h'
  · exact .inr ⟨g, cap, cur, h', hg, (ho.block g (Array.getElem?_eq_some_iff.1 hh).1 (hs g hg)).trans hh, r⟩
theorem OVB.weak {w : World} {B B' : Nat} {v : Value} {zs : List Int} (h : OVB w B v zs) (hB : B' ≤ B) : OVB w B' v zs := by
  refine ⟨⟨h.1.1, ?_⟩, h.2⟩
  rcases h.1.2 with h' | ⟨g, cap, cur, h', hg, r⟩
  · exact .inl h'
  · exact .inr ⟨g, cap, cur, h', by omega, r⟩
theorem OVB.alloc {w : World} {B : Nat} {v : Value} {zs : List Int} (h : OVB w B v zs) (o : Obj) : OVB (w.alloc o) B v zs := ⟨h.1.alloc o, h.2⟩
theorem OVB.byt {w : World} {B : Nat} {a : Option Addr} {n c : Nat} {zs : List Int} (h : OVB w B (.slice a n c) zs) : Byt w a zs := by
  obtain ⟨a', c', e, hm⟩ := h.mine
  obtain ⟨rfl, -, -⟩ : a = a' ∧ n = zs.length ∧ c = c' := by simpa using e
  exact hm.byt
theorem OVB.below {w w' : World} {B : Nat} {v : Value} {zs : List Int} (h : OVB w B v zs) (hb : Below w.heap.size w w') : OVB w' B v zs := h.stay (Only.ofBelow (S := fun _ => False) hb (Nat.le_refl _)) (by simp)

theorem byt_one (w : World) (z : Int) (hz : 0 ≤ z ∧ z ≤ 255) : Byt (w.alloc (.cells #[.int .u8 z] 5)) (some ⟨w.heap.size, 0, none⟩) [z] := by
  refine ⟨by intro y hy; simp at hy; rw [hy]; exact hz, fun _ => ⟨w.heap.size, 0, rfl, by simp, fun i hi => ?_⟩⟩
  obtain rfl : i = 0 := by simp at hi; omega
  simp
theorem run_append_none {P : Program} (w : World) (t ty e : TypeId) (i : TypeInfo) (ht : P.underlying t = some (.slice e)) (hi : P.info? e = some i) (base size n : Nat) (v : Value) (xs : List Value) (hown : w.ownsRow base e size v n xs) (c : Nat) :
    (Builtin.append_ #[t, t] ty #[v, .slice none 0 c]).run P w = .ok v w := by
  rcases hown.2 with ⟨rfl, rfl⟩ | ⟨g, cap, cur, rfl, _, hg, hnc, _⟩
  · simp [Builtin.append_, run_underlying ht, sizeOf, typeInfo, hi, Builtin.lenOf, Builtin.firstCells]
  · simp [Builtin.append_, run_underlying ht, sizeOf, typeInfo, hi, Builtin.lenOf, Builtin.firstCells, hnc, storeCells]

theorem wpList_append_byt {ops : Array Oper} {rest : List Oper} {o : Oper} {a : Act} {Q : Exit → Act → World → Prop} {w : World} (hgd : o.guard = none) (s x : Operand)
    (ho : o.op = .call { callee := .builtin .append, args := #[s, x], argTypes := #[22, 22] })
    (B : Nat) (v : Value) (zs : List Int) (hs : a.eval s = v) (hown : OVB w B v zs) (xa : Option Addr) (c : Nat) (ys : List Int) (hx : a.eval x = .slice xa ys.length c) (hy : Byt w xa ys) (hb1 : zs.length + ys.length ≤ 1000000) (hbase : B ≤ w.heap.size)
    (h : ∀ v' w', OVB w' B v' (zs ++ ys) → w.grownBy w' v.ownBlock → wpList Try.prog ops Q rest (a.put o.dst v') w') : wpList Try.prog ops Q (o :: rest) a w := by
  obtain ⟨i0, hi, hz0, hz1, hz2⟩ := info_parts Try.infoU8
  have hr : ∀ z ∈ zs ++ ys, 0 ≤ z ∧ z ≤ 255 := fun z hz => (List.mem_append.1 hz).elim (hown.2 z) (hy.1 z)
  cases xa with
  | none =>
    have hy0 : ys = [] := by
      rcases Nat.eq_zero_or_pos ys.length with h0 | h0
      · exact List.eq_nil_of_length_eq_zero h0
      · obtain ⟨b, off, e, _⟩ := hy.2 h0
        cases e
    subst hy0
    refine wpList_plain hgd fun K hK' => ?_
    have hrun := run_append_none (P := Try.prog) w 22 o.type 5 i0 Try.underlying22 hi B 1 zs.length v _ hown.1 c
    unfold Oper.wp execOp
    simp only [List.length_nil] at hx
    simp only [ho, resolve, invoke, builtin, Sem.run_bind, Sem.run_pure, Result.andThen_ok, List.map_toArray, List.map_cons, List.map_nil, hs, hx, hrun]
    exact hK' _ _ (h v w (by simpa using hown) (World.grownBy.refl w _))
  | some ad =>
    have hnews : ∀ j u, (ys.map (Value.int .u8))[j]? = some u → w.cell? (ad.add j) = some u := by
      intro j u hu
      have hj : j < ys.length := by
        rcases Nat.lt_or_ge j ys.length with h | h
        · exact h
        · rw [List.getElem?_eq_none (by simpa using h)] at hu; cases hu
      obtain ⟨b, off, e, _, hc⟩ := hy.2 (by omega)
      obtain rfl : ad = ⟨b, off, none⟩ := by simpa using e
      exact news_of hc j u hu
    refine wpList_append_own w hgd s x 22 ho B 5 i0 (.int .u8 0) 1 1 Try.underlying22 hi hz0 hz1 hz2 rfl (by decide) v zs.length _ hs hown.1 ad ys.length c (ys.map (Value.int .u8)) hx (by simp) hnews (oneCells ys) (by unfold maxLen; omega) (by omega) hbase ?_
    intro v' w' h1 h2 _
    refine h v' w' ⟨?_, hr⟩ h2
    rw [List.length_append, List.map_append]
    exact h1
theorem appB_below {w0 wr w1 : World} {B : Nat} {v : Value} {zs : List Int} (hbel : Below B w0 wr) (hB : B ≤ wr.heap.size) (h : OVB wr B v zs) (hg : wr.grownBy w1 v.ownBlock) : Below B w0 w1 :=
  hbel.grown hg hB (fun k hk => h.blk hk)
theorem OVB.blk_ne {w : World} {B : Nat} {v : Value} {zs : List Int} (h : OVB w B v zs) {Q : Nat} {cur : Array Value} {T : TypeId} (hQ : w.heap[Q]? = some (.cells cur T (0, 0))) (hT : T ≠ 5) : some Q ≠ v.ownBlock := by
  rcases h.1.2 with ⟨rfl, h0⟩ | ⟨g, cap, cur', rfl, hg, hh, _⟩
  · simp [Value.ownBlock]
  · simp only [Value.ownBlock, ne_eq, Option.some.injEq]
    rintro rfl
    rw [hQ] at hh
    simp at hh
    exact hT hh.2
theorem grown_blk {w w' : World} {row : Option Nat} (hg : w.grownBy w' row) {Q : Nat} {o : Obj} (hQ : w.heap[Q]? = some o) (hne : some Q ≠ row) : w'.heap[Q]? = some o := (hg.block Q (Array.getElem?_eq_some_iff.1 hQ).1 hne).trans hQ
theorem blk_cell {w : World} {R j : Nat} {cur : Array Value} {T : TypeId} {v : Value} (hR : w.heap[R]? = some (.cells cur T (0, 0))) (hv : cur[j]? = some v) : w.cell? ⟨R, j, none⟩ = some v := by
  rw [cell_of_row w R j cur T (0, 0) hR]; exact hv
end Go.Proofs.Ytgppjlbocppjlaa
