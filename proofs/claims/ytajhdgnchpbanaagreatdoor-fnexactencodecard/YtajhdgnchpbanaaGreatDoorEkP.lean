/-
  What l2lens of the model needs beside its walk.
-/
import Derived.Test.YtajhdgnchpbanaaGreatDoorEkM
import Derived.Test.YtajhdgnchpbanaaGreatDoorHPut1
import Derived.Test.YtajhdgnchpbanaaGreatDoorPcV
namespace Go.Proofs.YtajhdgnchpbanaaGreatDoor
open Go.RowKit
set_option linter.unusedVariables false
set_option linter.unusedSimpArgs false

/-- The symbols of each pack lie in a row of numbers of their own, behind the block M. -/
def EkSy (w : World) (M : Nat) (es : List Ek) : Prop := ∀ e ∈ es, ∃ b cur, e.a = some ⟨b, 0, none⟩ ∧ M < b ∧ e.p.sy.length ≤ e.c ∧ w.heap[b]? = some (.cells cur 3 (0, 0)) ∧ ∀ i, i < e.p.sy.length → cur[i]? = some (.int .i64 (e.p.sy.getD i 0))
theorem EkSy.only {S : Nat → Prop} {w w' : World} {M : Nat} {es : List Ek} (h : EkSy w M es) (ho : Only S w w') (hS : ∀ k, S k → k ≤ M ∨ ∃ cur T, w.heap[k]? = some (.cells cur T (0, 0)) ∧ T ≠ 3) : EkSy w' M es := fun e he => by
  obtain ⟨b, cur, h1, h2, h3, h4, h5⟩ := h e he
  refine ⟨b, cur, h1, h2, h3, (ho.block b (Array.getElem?_eq_some_iff.1 h4).1 (fun hs => ?_)).trans h4, h5⟩
  rcases hS b hs with h | ⟨cur', T, hc, hT⟩
  · omega
  · rw [h4] at hc
    simp at hc
    exact hT hc.2.symm
theorem EkSy.below {w w' : World} {M : Nat} {es : List Ek} (h : EkSy w M es) (hb : Below w.heap.size w w') : EkSy w' M es := h.only (Only.ofBelow (S := fun _ => False) hb (Nat.le_refl _)) (by simp)
theorem EkSy.sub {w : World} {M : Nat} {es fs : List Ek} (h : EkSy w M es) (hs : ∀ e ∈ fs, e ∈ es) : EkSy w M fs := fun e he => h e (hs e he)
theorem EkSy.ins {w : World} {M : Nat} {es : List Ek} (h : EkSy w M es) {e : Ek} (he : e ∈ es) (hr : ∀ z ∈ e.p.sy, -9223372036854775808 ≤ z ∧ z ≤ 9223372036854775807) : Ins w e.a e.p.sy := by
  obtain ⟨b, cur, h1, h2, h3, h4, h5⟩ := h e he
  refine ⟨hr, fun _ => ⟨b, 0, h1, (Array.getElem?_eq_some_iff.1 h4).1, fun i hi => ?_⟩⟩
  rw [Nat.zero_add]
  exact cell_blk h4 (h5 i hi)
theorem ek_made (w : World) {e : Ek} {u : Nat} {ea : Option Addr} {el ec : Nat} (h : Ekc e u ea el ec) : OVk (w.alloc (Obj.cells #[.int .i64 u, .slice ea el ec] 82)) w.heap.size (.slice (some ⟨w.heap.size, 0, none⟩) 1 1) [e] := by
  obtain ⟨rfl, rfl, rfl, rfl⟩ := h
  exact ⟨rfl, .inr ⟨w.heap.size, 1, _, rfl, Nat.le_refl _, heap_alloc_new w _, Nat.le_refl _, by decide, rfl, rfl⟩⟩
theorem OVk.take {w : World} {B : Nat} {a : Option Addr} {n c : Nat} {es : List Ek} (h : OVk w B (.slice a n c) es) (k : Nat) (hk : k ≤ es.length) : OVk w B (.slice a k c) (es.take k) := by
  have hl : (es.take k).length = k := by rw [List.length_take]; omega
  rcases h.2 with ⟨e, h1⟩ | ⟨g, cap, cur, e, hg, hh, h4, h5, h6, h7⟩
  · simp only [Value.slice.injEq] at e
    obtain ⟨rfl, -, rfl⟩ := e
    have hk0 : k = 0 := by omega
    subst hk0
    exact ⟨by rw [List.take_zero]; rfl, .inl ⟨rfl, by rw [List.take_zero]; rfl⟩⟩
  · simp only [Value.slice.injEq] at e
    obtain ⟨rfl, -, rfl⟩ := e
    refine ⟨ek_flen _, .inr ⟨g, c, cur, by rw [hl], hg, hh, by rw [hl]; omega, h5, h6, ?_⟩⟩
    rw [hl]
    have e1 : es.flatMap Ek.cells = (es.take k).flatMap Ek.cells ++ (es.drop k).flatMap Ek.cells := by rw [← List.flatMap_append, List.take_append_drop]
    have e2 : cur.toList.take (k * 2) = (cur.toList.take (es.length * 2)).take (k * 2) := by rw [List.take_take, Nat.min_eq_left (by omega)]
    rw [e2, h7, e1]
    have e3 : ((es.take k).flatMap Ek.cells).length = k * 2 := by rw [ek_flen, hl]
    rw [← e3, List.take_left]
theorem Eks.drop {w : World} {a : Option Addr} {c : Nat} {es : List Ek} (h : Eks w a es) (k : Nat) (hk : k ≤ es.length) (hc : es.length ≤ c) : Eks w (if c = k then a else a.map (·.add (k * 2))) (es.drop k) := fun h0 => by
  rw [List.length_drop] at h0
  obtain ⟨b, o, rfl, hl, hcl⟩ := h (by omega)
  rw [if_neg (by omega)]
  refine ⟨b, o + k * 2, by cases k <;> simp [Addr.add], hl, fun i hi => ?_⟩
  rw [List.length_drop] at hi
  have h1 := hcl (k + i) (by omega)
  have e : (es.drop k).getD i dek = es.getD (k + i) dek := by simp [List.getD_eq_getElem?_getD]
  rw [e, show o + k * 2 + i * 2 = o + (k + i) * 2 by omega]
  exact h1
/-- All that the model has in hand while it puts coins in order. -/
structure CoI (w W : World) (N n : Nat) (zs : List Int) (v : Value) (es : List Ek) : Prop where
  row : OVk W (N + 1) v es
  sy : EkSy W N es
  out : OwI W N N n (List.replicate zs.length 0)
  bel : Below N w W
theorem CoI.drewN {w W : World} {N n : Nat} {zs : List Int} {v : Value} {es : List Ek} (h : CoI w W N n zs v es) (q : Nat) : CoI w (W.drewN q) N n zs v es := ⟨h.row, h.sy, h.out, ⟨h.bel.os, h.bel.tape, h.bel.output, h.bel.size, h.bel.block⟩⟩
theorem CoI.below {w W W' : World} {N n : Nat} {zs : List Int} {v : Value} {es : List Ek} (h : CoI w W N n zs v es) (hb : Below W.heap.size W W') : CoI w W' N n zs v es := ⟨h.row.below hb, h.sy.below hb, h.out.below hb (Nat.le_refl _), h.bel.trans (hb.mono (Nat.le_of_lt h.out.lt.2))⟩
theorem CoI.more {w V w1 w2 : World} {N n D k i z cc : Nat} {zs : List Int} {ca : Option Addr} {v2 : Value} {es : List Ek} {o : Obj} (h : CoI w V N n zs (.slice ca D cc) es) (hk : k ≤ es.length)
    (hg1 : ((V.alloc (Obj.cells #[.int .i64 i] 3)).alloc o).grownBy w1 (some (V.heap.size + 1)))
    (hv2 : OVk w2 (N + 1) v2 (es.take k ++ ([⟨.coin i z, some ⟨V.heap.size, 0, none⟩, 1⟩] ++ es.drop k))) (hg2 : w1.grownBy w2 (Value.slice ca k cc).ownBlock) :
    CoI w w2 N n zs v2 (es.take k ++ ([⟨.coin i z, some ⟨V.heap.size, 0, none⟩, 1⟩] ++ es.drop k)) := by
  have hN := h.out.lt.2
  have hb2 : Below V.heap.size V ((V.alloc (Obj.cells #[.int .i64 i] 3)).alloc o) := ((Below.refl _ _).alloc (Nat.le_refl _) _).alloc (by simp) _
  have hb3 : Below V.heap.size V w1 := hb2.grown hg1 (by simp; omega) (fun j hj => by cases hj; omega)
  have hon : Only (fun b => (Value.slice ca k cc).ownBlock = some b) V w2 := (Only.ofBelow (S := fun b => (Value.slice ca k cc).ownBlock = some b) hb3 (Nat.le_refl _)).grown hg2 (fun b hb => .inl hb)
  have hcb : ∀ b, (Value.slice ca k cc).ownBlock = some b → N < b ∧ ∃ cur, V.heap[b]? = some (.cells cur 82 (0, 0)) := fun b hb => by
    have hb' : (Value.slice ca D cc).ownBlock = some b := by
      cases ca with
      | none => simp [Value.ownBlock] at hb
      | some x => exact hb
    exact ⟨(World.ownsRow.lt h.row b hb').1, h.row.tag hb'⟩
  have hsy : EkSy w2 N es := h.sy.only hon (fun b hb => by
    obtain ⟨_, cur, hc⟩ := hcb b hb
    exact .inr ⟨cur, _, hc, by decide⟩)
  have hnew : (V.alloc (Obj.cells #[.int .i64 i] 3)).heap[V.heap.size]? = some (.cells #[.int .i64 i] 3 (0, 0)) := heap_alloc_new V _
  have hnew2 : ((V.alloc (Obj.cells #[.int .i64 i] 3)).alloc o).heap[V.heap.size]? = some (.cells #[.int .i64 i] 3 (0, 0)) := (Below.heap_alloc _ _ _ (by simp)).trans hnew
  have hnew3 : w1.heap[V.heap.size]? = some (.cells #[.int .i64 i] 3 (0, 0)) := (hg1.block _ (by simp; omega) (by simp)).trans hnew2
  have hnew4 : w2.heap[V.heap.size]? = some (.cells #[.int .i64 i] 3 (0, 0)) := (hg2.block _ (Array.getElem?_eq_some_iff.1 hnew3).1 (fun e => by
    obtain ⟨_, cur, hc⟩ := hcb _ e.symm
    have := (Array.getElem?_eq_some_iff.1 hc).1
    omega)).trans hnew3
  refine ⟨hv2, fun e he => ?_, ?_, h.bel.trans (hon.below (Nat.le_of_lt hN) (fun b hb => by have := (hcb b hb).1; omega))⟩
  · rcases List.mem_append.1 he with he | he
    · exact hsy e (List.mem_of_mem_take he)
    · rcases List.mem_append.1 he with he | he
      · simp only [List.mem_singleton] at he
        subst he
        refine ⟨V.heap.size, _, rfl, hN, by simp [Pc.sy], hnew4, fun j hj => ?_⟩
        have hj0 : j = 0 := by simpa [Pc.sy] using hj
        subst hj0
        rfl
      · exact hsy e (List.mem_of_mem_drop he)
  · exact h.out.only hon (fun hb => by have := (hcb N hb).1; omega)
theorem insP_split (p : Pc) : ∀ (l : List Pc) (k : Nat), k ≤ l.length → (∀ j, j < k → (l.getD j dpc).wt ≤ p.wt) → (k < l.length → ¬ (l.getD k dpc).wt ≤ p.wt) → insP p l = l.take k ++ ([p] ++ l.drop k)
  | [], k, hk, _, _ => by simp at hk; subst hk; rfl
  | q :: l, 0, _, _, h2 => by
    have := h2 (by simp)
    simp only [insP]
    rw [if_neg (by simpa using this)]
    rfl
  | q :: l, k + 1, hk, h1, h2 => by
    have h0 := h1 0 (by omega)
    simp only [insP]
    rw [if_pos (by simpa using h0), insP_split p l k (by simpa using hk) (fun j hj => by simpa using h1 (j + 1) (by omega)) (fun h => by simpa using h2 (by simpa using h))]
    rfl
theorem ek_mapD (es : List Ek) (i : Nat) : (es.map Ek.p).getD i dpc = (es.getD i dek).p := by
  simp only [List.getD_eq_getElem?_getD, List.getElem?_map]
  cases es[i]? <;> rfl
/-- The model's list, one coin more. -/
theorem srt_step {zs : List Int} {es : List Ek} {i k z : Nat} {a : Option Addr} {c : Nat} (hm : es.map Ek.p = srt zs i) (hz : zs.getD i 0 = (z : Int)) (hz0 : 0 < z) (hk : k ≤ es.length) (h1 : ∀ j, j < k → (es.getD j dek).p.wt ≤ z) (h2 : k < es.length → ¬ (es.getD k dek).p.wt ≤ z) :
    (es.take k ++ ([(⟨.coin i z, a, c⟩ : Ek)] ++ es.drop k)).map Ek.p = srt zs (i + 1) := by
  simp only [srt]
  rw [if_pos (by omega), ← hm]
  have e : (zs.getD i 0).toNat = z := by omega
  rw [e, insP_split (.coin i z) (es.map Ek.p) k (by simpa using hk) (fun j hj => by rw [ek_mapD]; exact h1 j hj) (fun h => by rw [ek_mapD]; exact h2 (by simpa using h))]
  simp [List.map_take, List.map_drop]
theorem wanted_ek {P : Program} {ops : Array Oper} {o : Oper} {a : Act} {w : World} {K : Act → World → Prop} {Q : Exit → Act → World → Prop} {E : Prop} (hg : o.guard = none) (h : Oper.wp P o a w K Q) :
    if Region.wanted o (yielded ops a.tmps) = true then Oper.wp P o a w K Q else E := by
  rw [if_pos (by simp [Region.wanted, hg])]
  exact h

theorem ek_slA {i1 : TypeInfo} (hi : Tryz.prog.info? 82 = some i1) (hs : i1.size = 2) (ca : Option Addr) (D cc k : Nat) (hk : k ≤ cc) : ∀ W, (Instr.slice 80 (.slice ca D cc) none (some (.int .i64 (k : Int))) none).run Tryz.prog W = .ok (.slice ca k cc) W := by
  intro W
  rw [run_slice_h W 80 _ _ _ (by simp [Program.elem, Tryz.underlying80]) .i64 _ (by omega) (by omega)]
  cases ca <;> simp [Program.elem, Tryz.underlying80, Go.sizeOf, typeInfo, hi, hs, Result.andThen, sliced, Addr.add]
theorem ek_slB {i1 : TypeInfo} (hi : Tryz.prog.info? 82 = some i1) (hs : i1.size = 2) (ca : Option Addr) (D cc k : Nat) (hk : k ≤ D) : ∀ W, (Instr.slice 80 (.slice ca D cc) (some (.int .i64 (k : Int))) none none).run Tryz.prog W = .ok (.slice (if cc = k then ca else ca.map (·.add (k * 2))) (D - k) (cc - k)) W := by
  intro W
  rw [run_slice_l W 80 _ _ _ (by simp [Program.elem, Tryz.underlying80]) .i64 _ (by omega) (by omega)]
  simp [Program.elem, Tryz.underlying80, Go.sizeOf, typeInfo, hi, hs, Result.andThen, sliced]

theorem lensV_one {zs : List Int} {L s k : Nat} (h : (coinsS zs).length = 1) (hp : (coinsS zs).getD 0 dpc = .coin s k) (hs : s < zs.length) : lensV zs L = (List.replicate zs.length (0 : Int)).set s 1 := by
  unfold lensV
  rw [if_pos h, hp]
  show bump _ _ = _
  unfold bump
  have e : (List.replicate zs.length (0 : Int)).getD (s : Int).toNat 0 = 0 := by
    simp only [Int.toNat_natCast, List.getD_eq_getElem?_getD, List.getElem?_replicate]
    split <;> rfl
  rw [e]
  simp
/-- What the model has in hand in its rounds. -/
structure RoI (w W : World) (N n : Nat) (zs : List Int) (ca : Option Addr) (es : List Ek) (pa : Option Addr) (ks : List Ek) : Prop where
  coins : Eks W ca es
  sye : EkSy W N es
  packs : Eks W pa ks
  syk : EkSy W N ks
  out : OwI W N N n (List.replicate zs.length 0)
  bel : Below N w W
theorem RoI.below {w W W' : World} {N n : Nat} {zs : List Int} {ca pa : Option Addr} {es ks : List Ek} (h : RoI w W N n zs ca es pa ks) (hb : Below W.heap.size W W') : RoI w W' N n zs ca es pa ks := ⟨h.coins.below hb, h.sye.below hb, h.packs.below hb, h.syk.below hb, h.out.below hb (Nat.le_refl _), h.bel.trans (hb.mono (Nat.le_of_lt h.out.lt.2))⟩

theorem cntP_fold (p : Pc) : ∀ zs : List Int, cntP p zs = p.sy.foldl bump zs := by
  induction p with
  | coin s c => intro zs; rfl
  | pack a b n iha ihb => intro zs; rw [cntP, iha, ihb, Pc.sy, List.foldl_append]
theorem sy_rng {n : Nat} (p : Pc) : p.ok n → ∀ z ∈ p.sy, 0 ≤ z ∧ z < n := by
  induction p with
  | coin s c => intro h z hz; simp [Pc.sy] at hz; have := h.1; omega
  | pack a b m iha ihb =>
    intro h z hz
    rcases List.mem_append.1 hz with hz | hz
    · exact iha h.1 z hz
    · exact ihb h.2 z hz
theorem foldB_len (l : List Int) : ∀ zs : List Int, (l.foldl bump zs).length = zs.length := by
  induction l with
  | nil => intro zs; rfl
  | cons z l ih => intro zs; rw [List.foldl_cons, ih, bump_len]
theorem foldB_rng (l : List Int) : ∀ (zs : List Int) (M : Int), 0 ≤ M → (∀ z ∈ zs, 0 ≤ z ∧ z ≤ M) → ∀ z ∈ l.foldl bump zs, 0 ≤ z ∧ z ≤ M + l.length := by
  induction l with
  | nil => intro zs M h0 h z hz; have := h z hz; simp; omega
  | cons y l ih =>
    intro zs M h0 h z hz
    have := ih (bump zs y) (M + 1) (by omega) (bump_rng h h0) z hz
    simp only [List.length_cons]
    omega
theorem foldB_step (l : List Int) (zs : List Int) (k : Nat) (hk : k < l.length) : (l.take (k + 1)).foldl bump zs = bump ((l.take k).foldl bump zs) (l.getD k 0) := by
  rw [List.take_succ_eq_append_getElem hk, List.foldl_append]
  simp [List.getD_eq_getElem?_getD, hk]

theorem bump_at {cs : List Int} {s : Nat} {x : Int} (h : cs.getD s 0 = x) : bump cs (s : Int) = cs.set s (x + 1) := by
  unfold bump
  rw [Int.toNat_natCast, h]
theorem sz_pos (p : Pc) : 1 ≤ p.sz := by
  induction p with
  | coin s c => exact Nat.le_refl _
  | pack a b n iha ihb => simp only [Pc.sz]; omega
theorem wp_append_iv {o : Oper} {act : Act} {w : World} {K : Act → World → Prop} {Q : Exit → Act → World → Prop} (s x : Operand) (ho : o.op = .call { callee := .builtin .append, args := #[s, x], argTypes := #[35, 35] })
    {B : Nat} {v : Value} {zs ys : List Int} {a : Option Addr} {c n : Nat} (hs : act.eval s = v) (hx : act.eval x = .slice a n c) (hn : n = ys.length) (h : OVI w B v zs) (hq : Ins w a ys) (h0 : 1 ≤ ys.length) (hl : zs.length + ys.length ≤ 100000000000) (hB : B ≤ w.heap.size)
    (hk : ∀ v' w', OVI w' B v' (zs ++ ys) → w.grownBy w' v.ownBlock → K (act.put o.dst v') w') : o.wp Tryz.prog act w K Q := by
  obtain ⟨i0, hi, hz0, hz1, hz2⟩ := info_parts Tryz.infoI64
  subst hn
  obtain ⟨b, off, rfl, hbl, hc⟩ := hq.2 (by omega)
  obtain ⟨v', w', hr, h2, h3, _, _⟩ := run_append_own_at (P := Tryz.prog) w B 35 o.type 3 i0 _ 1 8 Tryz.underlying35 hi hz0 hz1 hz2 rfl (by decide) v zs.length (zs.map (Value.int .i64)) h.1 ⟨b, off, none⟩ ys.length c (ys.map (Value.int .i64)) (by simp) (by
    intro j u hu
    simp only [List.getElem?_map, Option.map_eq_some_iff] at hu
    obtain ⟨y, hy, rfl⟩ := hu
    have hj : j < ys.length := (List.getElem?_eq_some_iff.1 hy).1
    have e : (⟨b, off, none⟩ : Addr).add j = ⟨b, off + j, none⟩ := by
      cases j with
      | zero => simp [Addr.add]
      | succ j => simp [Addr.add]
    simp [e, hc j hj, List.getD_eq_getElem?_getD, hy]) (by
    intro u hu
    obtain ⟨y, _, rfl⟩ := List.mem_map.1 hu
    rfl) (by unfold maxLen; omega) (by omega) hB
  unfold Oper.wp execOp
  simp only [ho, resolve, invoke, builtin, Sem.run_bind, Sem.run_pure, Result.andThen_ok, List.map_toArray, List.map_cons, List.map_nil, hs, hx, hr]
  refine hk v' w' ⟨by rw [List.length_append, List.map_append]; exact h2, fun y hy => ?_⟩ h3
  rcases List.mem_append.1 hy with hy | hy
  · exact h.2 y hy
  · exact hq.1 y hy
theorem ovi_made (w : World) : OVI (w.alloc (Obj.cells #[] 3)) w.heap.size (.slice (some ⟨w.heap.size, 0, none⟩) 0 0) [] :=
  ⟨⟨rfl, .inr ⟨w.heap.size, 0, #[], rfl, Nat.le_refl _, heap_alloc_new w _, Nat.le_refl _, by decide, rfl, rfl⟩⟩, by simp⟩
/-- All that the model has in hand while it makes packs. -/
structure PaI (w5 W : World) (N B : Nat) (v : Value) (es : List Ek) : Prop where
  row : OVk W B v es
  sy : EkSy W N es
  bel : Below B w5 W
theorem PaI.more {w5 V w6 w7 w9 : World} {N B : Nat} {v v1 v9 : Value} {es : List Ek} {E : Ek} {sy1 sy2 : List Int} {o : Obj} (h : PaI w5 V N B v es) (hNB : N < B) (hB : B ≤ w5.heap.size)
    (hg6 : (V.alloc (Obj.cells #[] 3)).grownBy w6 (some V.heap.size)) (ho6 : OVI w6 V.heap.size v1 sy1) (hg7 : w6.grownBy w7 v1.ownBlock) (ho7 : OVI w7 V.heap.size (.slice E.a E.p.sy.length E.c) E.p.sy) (hE : 1 ≤ E.p.sy.length)
    (h9 : OVk w9 B v9 (es ++ [E])) (hg9 : (w7.alloc o).grownBy w9 v.ownBlock) : PaI w5 w9 N B v9 (es ++ [E]) := by
  have hVB : B ≤ V.heap.size := Nat.le_trans hB h.bel.size
  have hb1 : Below V.heap.size V (V.alloc (Obj.cells #[] 3)) := (Below.refl _ _).alloc (Nat.le_refl _) _
  have hb6 : Below V.heap.size V w6 := hb1.grown hg6 hb1.size (fun j hj => by cases hj; exact Nat.le_refl _)
  have hb7 : Below V.heap.size V w7 := hb6.grown hg7 hb6.size (fun j hj => ho6.blk hj)
  have hb8 : Below V.heap.size V (w7.alloc o) := hb7.alloc hb7.size _
  have hon : Only (fun b => v.ownBlock = some b) V w9 := (Only.ofBelow (S := fun b => v.ownBlock = some b) hb8 (Nat.le_refl _)).grown hg9 (fun b hb => .inl hb)
  refine ⟨h9, fun e he => ?_, h.bel.trans (hon.below hVB (fun b hb => (World.ownsRow.lt h.row b hb).1))⟩
  rcases List.mem_append.1 he with he | he
  · exact h.sy.only hon (fun b hb => by
      obtain ⟨cur, hc⟩ := h.row.tag hb
      exact .inr ⟨cur, _, hc, by decide⟩) e he
  · simp only [List.mem_singleton] at he
    subst he
    rcases ho7.1.2 with ⟨e1, e2⟩ | ⟨g, cap, cur, e1, hg, hh, h4, h5, h6, h7⟩
    · omega
    · simp only [Value.slice.injEq] at e1
      obtain ⟨ea, -, ec⟩ := e1
      have hh8 : (w7.alloc o).heap[g]? = some (.cells cur 3 (0, 0)) := (Below.heap_alloc _ _ _ (Array.getElem?_eq_some_iff.1 hh).1).trans hh
      have hh9 : w9.heap[g]? = some (.cells cur 3 (0, 0)) := (hg9.block g (Array.getElem?_eq_some_iff.1 hh8).1 (fun e => by
        have := (World.ownsRow.lt h.row g e.symm).2
        omega)).trans hh8
      refine ⟨g, cur, ea, by omega, by rw [ec]; exact h4, hh9, fun i hi => ?_⟩
      have h8 := congrArg (·[i]?) h7
      simp only [List.getElem?_take, List.getElem?_map, Nat.mul_one] at h8
      rw [if_pos hi] at h8
      rw [← Array.getElem?_toList, h8]
      simp [List.getD_eq_getElem?_getD, List.getElem?_eq_getElem hi]

end Go.Proofs.YtajhdgnchpbanaaGreatDoor
