/-
  One coin more among the model's coins, in memory.
-/
import Derived.Test.YtkjebacpmmfflaaDoorEkM
namespace Go.Proofs.YtkjebacpmmfflaaDoor
open Go.RowKit
set_option linter.unusedVariables false
set_option linter.unusedSimpArgs false

/-- The symbols of each pack lie in a row of numbers of their own, behind the block M. -/
def SyOk (w : World) (M : Nat) (es : List Ek) : Prop := ∀ e ∈ es, ∃ b cur, e.a = some ⟨b, 0, none⟩ ∧ M < b ∧ e.p.sy.length ≤ e.c ∧ w.heap[b]? = some (.cells cur 3 (0, 0)) ∧ ∀ i, i < e.p.sy.length → cur[i]? = some (.int .i64 (e.p.sy.getD i 0))
theorem SyOk.only {S : Nat → Prop} {w w' : World} {M : Nat} {es : List Ek} (h : SyOk w M es) (ho : Only S w w') (hS : ∀ k, S k → k ≤ M ∨ ∃ cur T, w.heap[k]? = some (.cells cur T (0, 0)) ∧ T ≠ 3) : SyOk w' M es := fun e he => by
  obtain ⟨b, cur, h1, h2, h3, h4, h5⟩ := h e he
  refine ⟨b, cur, h1, h2, h3, (ho.block b (Array.getElem?_eq_some_iff.1 h4).1 (fun hs => ?_)).trans h4, h5⟩
  rcases hS b hs with h | ⟨cur', T, hc, hT⟩
  · omega
  · rw [h4] at hc
    simp at hc
    exact hT hc.2.symm
theorem SyOk.below {w w' : World} {M : Nat} {es : List Ek} (h : SyOk w M es) (hb : Below w.heap.size w w') : SyOk w' M es := h.only (Only.ofBelow (S := fun _ => False) hb (Nat.le_refl _)) (by simp)
theorem SyOk.sub {w : World} {M : Nat} {es fs : List Ek} (h : SyOk w M es) (hs : ∀ e ∈ fs, e ∈ es) : SyOk w M fs := fun e he => h e (hs e he)
theorem SyOk.ins {w : World} {M : Nat} {es : List Ek} (h : SyOk w M es) {e : Ek} (he : e ∈ es) (hr : ∀ z ∈ e.p.sy, -9223372036854775808 ≤ z ∧ z ≤ 9223372036854775807) : Ins w e.a e.p.sy := by
  obtain ⟨b, cur, h1, h2, h3, h4, h5⟩ := h e he
  refine ⟨hr, fun _ => ⟨b, 0, h1, (Array.getElem?_eq_some_iff.1 h4).1, fun i hi => ?_⟩⟩
  rw [Nat.zero_add]
  exact cell_blk h4 (h5 i hi)
theorem ek_made (w : World) {e : Ek} {u : Nat} {ea : Option Addr} {el ec : Nat} (h : Ekc e u ea el ec) : OVk (w.alloc (Obj.cells #[.int .i64 u, .slice ea el ec] 119)) w.heap.size (.slice (some ⟨w.heap.size, 0, none⟩) 1 1) [e] := by
  obtain ⟨rfl, rfl, rfl, rfl⟩ := h
  exact ⟨rfl, .inr ⟨w.heap.size, 1, _, rfl, Nat.le_refl _, heap_alloc_new w _, Nat.le_refl _, by decide, rfl, rfl⟩⟩
theorem OVk.take {w : World} {B : Nat} {a : Option Addr} {n c : Nat} {es : List Ek} (h : OVk w B (.slice a n c) es) (k : Nat) (hk : k ≤ es.length) : OVk w B (.slice a k c) (es.take k) := by
  have hl : (es.take k).length = k := by rw [List.length_take]; omega
  rcases h.2 with ⟨e, h1⟩ | ⟨g, cap, cur, e, hg, hh, h4, h5, h6, h7⟩
  · simp only [Value.slice.injEq] at e
    obtain ⟨rfl, -, rfl⟩ := e
    have hk0 : k = 0 := by omega
    subst hk0
    exact ⟨by rw [List.take_zero]; rfl, .inl ⟨rfl, by rw [List.take_zero]; rfl⟩⟩
  · simp only [Value.slice.injEq] at e
    obtain ⟨rfl, -, rfl⟩ := e
    refine ⟨ek_flen _, .inr ⟨g, c, cur, by rw [hl], hg, hh, by rw [hl]; omega, h5, h6, ?_⟩⟩
    rw [hl]
    have e1 : es.flatMap Ek.cells = (es.take k).flatMap Ek.cells ++ (es.drop k).flatMap Ek.cells := by rw [← List.flatMap_append, List.take_append_drop]
    have e2 : cur.toList.take (k * 2) = (cur.toList.take (es.length * 2)).take (k * 2) := by rw [List.take_take, Nat.min_eq_left (by omega)]
    rw [e2, h7, e1]
    have e3 : ((es.take k).flatMap Ek.cells).length = k * 2 := by rw [ek_flen, hl]
    rw [← e3, List.take_left]
theorem Eks.drop {w : World} {a : Option Addr} {c : Nat} {es : List Ek} (h : Eks w a es) (k : Nat) (hk : k ≤ es.length) (hc : es.length ≤ c) : Eks w (if c = k then a else a.map (·.add (k * 2))) (es.drop k) := fun h0 => by
  rw [List.length_drop] at h0
  obtain ⟨b, o, rfl, hl, hcl⟩ := h (by omega)
  rw [if_neg (by omega)]
  refine ⟨b, o + k * 2, by cases k <;> simp [Addr.add], hl, fun i hi => ?_⟩
  rw [List.length_drop] at hi
  have h1 := hcl (k + i) (by omega)
  have e : (es.drop k).getD i dek = es.getD (k + i) dek := by simp [List.getD_eq_getElem?_getD]
  rw [e, show o + k * 2 + i * 2 = o + (k + i) * 2 by omega]
  exact h1
/-- All that the model has in hand while it puts coins in order. -/
structure CoI (w W : World) (N n : Nat) (zs : List Int) (v : Value) (es : List Ek) : Prop where
  row : OVk W (N + 1) v es
  sy : SyOk W N es
  out : OwI W N N n (List.replicate zs.length 0)
  bel : Below N w W
theorem CoI.drewN {w W : World} {N n : Nat} {zs : List Int} {v : Value} {es : List Ek} (h : CoI w W N n zs v es) (q : Nat) : CoI w (W.drewN q) N n zs v es := ⟨h.row, h.sy, h.out, ⟨h.bel.os, h.bel.tape, h.bel.output, h.bel.size, h.bel.block⟩⟩
theorem CoI.below {w W W' : World} {N n : Nat} {zs : List Int} {v : Value} {es : List Ek} (h : CoI w W N n zs v es) (hb : Below W.heap.size W W') : CoI w W' N n zs v es := ⟨h.row.below hb, h.sy.below hb, h.out.below hb (Nat.le_refl _), h.bel.trans (hb.mono (Nat.le_of_lt h.out.lt.2))⟩
theorem CoI.more {w V w1 w2 : World} {N n D k i z cc : Nat} {zs : List Int} {ca : Option Addr} {v2 : Value} {es : List Ek} {o : Obj} (h : CoI w V N n zs (.slice ca D cc) es) (hk : k ≤ es.length)
    (hg1 : ((V.alloc (Obj.cells #[.int .i64 i] 3)).alloc o).grownBy w1 (some (V.heap.size + 1)))
    (hv2 : OVk w2 (N + 1) v2 (es.take k ++ ([⟨.coin i z, some ⟨V.heap.size, 0, none⟩, 1⟩] ++ es.drop k))) (hg2 : w1.grownBy w2 (Value.slice ca k cc).ownBlock) :
    CoI w w2 N n zs v2 (es.take k ++ ([⟨.coin i z, some ⟨V.heap.size, 0, none⟩, 1⟩] ++ es.drop k)) := by
  have hN := h.out.lt.2
  have hb2 : Below V.heap.size V ((V.alloc (Obj.cells #[.int .i64 i] 3)).alloc o) := ((Below.refl _ _).alloc (Nat.le_refl _) _).alloc (by simp) _
  have hb3 : Below V.heap.size V w1 := hb2.grown hg1 (by simp; omega) (fun j hj => by cases hj; omega)
  have hon : Only (fun b => (Value.slice ca k cc).ownBlock = some b) V w2 := (Only.ofBelow (S := fun b => (Value.slice ca k cc).ownBlock = some b) hb3 (Nat.le_refl _)).grown hg2 (fun b hb => .inl hb)
  have hcb : ∀ b, (Value.slice ca k cc).ownBlock = some b → N < b ∧ ∃ cur, V.heap[b]? = some (.cells cur 119 (0, 0)) := fun b hb => by
    have hb' : (Value.slice ca D cc).ownBlock = some b := by
      cases ca with
      | none => simp [Value.ownBlock] at hb
      | some x => exact hb
    exact ⟨(World.ownsRow.lt h.row b hb').1, h.row.tag hb'⟩
  have hsy : SyOk w2 N es := h.sy.only hon (fun b hb => by
    obtain ⟨_, cur, hc⟩ := hcb b hb
    exact .inr ⟨cur, _, hc, by decide⟩)
  have hnew : (V.alloc (Obj.cells #[.int .i64 i] 3)).heap[V.heap.size]? = some (.cells #[.int .i64 i] 3 (0, 0)) := heap_alloc_new V _
  have hnew2 : ((V.alloc (Obj.cells #[.int .i64 i] 3)).alloc o).heap[V.heap.size]? = some (.cells #[.int .i64 i] 3 (0, 0)) := (Below.heap_alloc _ _ _ (by simp)).trans hnew
  have hnew3 : w1.heap[V.heap.size]? = some (.cells #[.int .i64 i] 3 (0, 0)) := (hg1.block _ (by simp; omega) (by simp)).trans hnew2
  have hnew4 : w2.heap[V.heap.size]? = some (.cells #[.int .i64 i] 3 (0, 0)) := (hg2.block _ (Array.getElem?_eq_some_iff.1 hnew3).1 (fun e => by
    obtain ⟨_, cur, hc⟩ := hcb _ e.symm
    have := (Array.getElem?_eq_some_iff.1 hc).1
    omega)).trans hnew3
  refine ⟨hv2, fun e he => ?_, ?_, h.bel.trans (hon.below (Nat.le_of_lt hN) (fun b hb => by have := (hcb b hb).1; omega))⟩
  · rcases List.mem_append.1 he with he | he
    · exact hsy e (List.mem_of_mem_take he)
    · rcases List.mem_append.1 he with he | he
      · simp only [List.mem_singleton] at he
        subst he
        refine ⟨V.heap.size, _, rfl, hN, by simp [Pc.sy], hnew4, fun j hj => ?_⟩
        have hj0 : j = 0 := by simpa [Pc.sy] using hj
        subst hj0
        rfl
      · exact hsy e (List.mem_of_mem_drop he)
  · exact h.out.only hon (fun hb => by have := (hcb N hb).1; omega)
theorem insP_split (p : Pc) : ∀ (l : List Pc) (k : Nat), k ≤ l.length → (∀ j, j < k → (l.getD j dpc).wt ≤ p.wt) → (k < l.length → ¬ (l.getD k dpc).wt ≤ p.wt) → insP p l = l.take k ++ ([p] ++ l.drop k)
  | [], k, hk, _, _ => by simp at hk; subst hk; rfl
  | q :: l, 0, _, _, h2 => by
    have := h2 (by simp)
    simp only [insP]
    rw [if_neg (by simpa using this)]
    rfl
  | q :: l, k + 1, hk, h1, h2 => by
    have h0 := h1 0 (by omega)
    simp only [insP]
    rw [if_pos (by simpa using h0), insP_split p l k (by simpa using hk) (fun j hj => by simpa using h1 (j + 1) (by omega)) (fun h => by simpa using h2 (by simpa using h))]
    rfl
theorem ek_mapD (es : List Ek) (i : Nat) : (es.map Ek.p).getD i dpc = (es.getD i dek).p := by
  simp only [List.getD_eq_getElem?_getD, List.getElem?_map]
  cases es[i]? <;> rfl
/-- The model's list, one coin more. -/
theorem srt_step {zs : List Int} {es : List Ek} {i k z : Nat} {a : Option Addr} {c : Nat} (hm : es.map Ek.p = srt zs i) (hz : zs.getD i 0 = (z : Int)) (hz0 : 0 < z) (hk : k ≤ es.length) (h1 : ∀ j, j < k → (es.getD j dek).p.wt ≤ z) (h2 : k < es.length → ¬ (es.getD k dek).p.wt ≤ z) :
    (es.take k ++ ([(⟨.coin i z, a, c⟩ : Ek)] ++ es.drop k)).map Ek.p = srt zs (i + 1) := by
  simp only [srt]
  rw [if_pos (by omega), ← hm]
  have e : (zs.getD i 0).toNat = z := by omega
  rw [e, insP_split (.coin i z) (es.map Ek.p) k (by simpa using hk) (fun j hj => by rw [ek_mapD]; exact h1 j hj) (fun h => by rw [ek_mapD]; exact h2 (by simpa using h))]
  simp [List.map_take, List.map_drop]
end Go.Proofs.YtkjebacpmmfflaaDoor
