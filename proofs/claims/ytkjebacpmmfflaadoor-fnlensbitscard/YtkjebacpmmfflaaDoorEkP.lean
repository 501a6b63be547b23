/-
  What l2lens of the model needs beside its walk.
-/
import Derived.Test.YtkjebacpmmfflaaDoorEkI
import Derived.Test.YtkjebacpmmfflaaDoorIApp
import Derived.Test.YtkjebacpmmfflaaDoorPcV
namespace Go.Proofs.YtkjebacpmmfflaaDoor
open Go.RowKit
set_option linter.unusedVariables false
set_option linter.unusedSimpArgs false

theorem wanted_ek {P : Program} {ops : Array Oper} {o : Oper} {a : Act} {w : World} {K : Act → World → Prop} {Q : Exit → Act → World → Prop} {E : Prop} (hg : o.guard = none) (h : Oper.wp P o a w K Q) :
    if Region.wanted o (yielded ops a.tmps) = true then Oper.wp P o a w K Q else E := by
  rw [if_pos (by simp [Region.wanted, hg])]
  exact h

theorem ek_slA {i1 : TypeInfo} (hi : Tryd.prog.info? 119 = some i1) (hs : i1.size = 2) (ca : Option Addr) (D cc k : Nat) (hk : k ≤ cc) : ∀ W, (Instr.slice 117 (.slice ca D cc) none (some (.int .i64 (k : Int))) none).run Tryd.prog W = .ok (.slice ca k cc) W := by
  intro W
  rw [run_slice_h W 117 _ _ _ (by simp [Program.elem, Tryd.underlying117]) .i64 _ (by omega) (by omega)]
  cases ca <;> simp [Program.elem, Tryd.underlying117, Go.sizeOf, typeInfo, hi, hs, Result.andThen, sliced, Addr.add]
theorem ek_slB {i1 : TypeInfo} (hi : Tryd.prog.info? 119 = some i1) (hs : i1.size = 2) (ca : Option Addr) (D cc k : Nat) (hk : k ≤ D) : ∀ W, (Instr.slice 117 (.slice ca D cc) (some (.int .i64 (k : Int))) none none).run Tryd.prog W = .ok (.slice (if cc = k then ca else ca.map (·.add (k * 2))) (D - k) (cc - k)) W := by
  intro W
  rw [run_slice_l W 117 _ _ _ (by simp [Program.elem, Tryd.underlying117]) .i64 _ (by omega) (by omega)]
  simp [Program.elem, Tryd.underlying117, Go.sizeOf, typeInfo, hi, hs, Result.andThen, sliced]

theorem lensV_one {zs : List Int} {L s k : Nat} (h : (coinsS zs).length = 1) (hp : (coinsS zs).getD 0 dpc = .coin s k) (hs : s < zs.length) : lensV zs L = (List.replicate zs.length (0 : Int)).set s 1 := by
  unfold lensV
  rw [if_pos h, hp]
  show bump _ _ = _
  unfold bump
  have e : (List.replicate zs.length (0 : Int)).getD (s : Int).toNat 0 = 0 := by
    simp only [Int.toNat_natCast, List.getD_eq_getElem?_getD, List.getElem?_replicate]
    split <;> rfl
  rw [e]
  simp
/-- What the model has in hand in its rounds. -/
structure RoI (w W : World) (N n : Nat) (zs : List Int) (ca : Option Addr) (es : List Ek) (pa : Option Addr) (ks : List Ek) : Prop where
  coins : Eks W ca es
  sye : SyOk W N es
  packs : Eks W pa ks
  syk : SyOk W N ks
  out : OwI W N N n (List.replicate zs.length 0)
  bel : Below N w W
theorem RoI.below {w W W' : World} {N n : Nat} {zs : List Int} {ca pa : Option Addr} {es ks : List Ek} (h : RoI w W N n zs ca es pa ks) (hb : Below W.heap.size W W') : RoI w W' N n zs ca es pa ks := ⟨h.coins.below hb, h.sye.below hb, h.packs.below hb, h.syk.below hb, h.out.below hb (Nat.le_refl _), h.bel.trans (hb.mono (Nat.le_of_lt h.out.lt.2))⟩

theorem cntP_fold (p : Pc) : ∀ zs : List Int, cntP p zs = p.sy.foldl bump zs := by
  induction p with
  | coin s c => intro zs; rfl
  | pack a b n iha ihb => intro zs; rw [cntP, iha, ihb, Pc.sy, List.foldl_append]
theorem sy_rng {n : Nat} (p : Pc) : p.ok n → ∀ z ∈ p.sy, 0 ≤ z ∧ z < n := by
  induction p with
  | coin s c => intro h z hz; simp [Pc.sy] at hz; have := h.1; omega
  | pack a b m iha ihb =>
    intro h z hz
    rcases List.mem_append.1 hz with hz | hz
    · exact iha h.1 z hz
    · exact ihb h.2 z hz
theorem foldB_len (l : List Int) : ∀ zs : List Int, (l.foldl bump zs).length = zs.length := by
  induction l with
  | nil => intro zs; rfl
  | cons z l ih => intro zs; rw [List.foldl_cons, ih, bump_len]
theorem foldB_rng (l : List Int) : ∀ (zs : List Int) (M : Int), 0 ≤ M → (∀ z ∈ zs, 0 ≤ z ∧ z ≤ M) → ∀ z ∈ l.foldl bump zs, 0 ≤ z ∧ z ≤ M + l.length := by
  induction l with
  | nil => intro zs M h0 h z hz; have := h z hz; simp; omega
  | cons y l ih =>
    intro zs M h0 h z hz
    have := ih (bump zs y) (M + 1) (by omega) (bump_rng h h0) z hz
    simp only [List.length_cons]
    omega
theorem foldB_step (l : List Int) (zs : List Int) (k : Nat) (hk : k < l.length) : (l.take (k + 1)).foldl bump zs = bump ((l.take k).foldl bump zs) (l.getD k 0) := by
  rw [List.take_succ_eq_append_getElem hk, List.foldl_append]
  simp [List.getD_eq_getElem?_getD, hk]

theorem bump_at {cs : List Int} {s : Nat} {x : Int} (h : cs.getD s 0 = x) : bump cs (s : Int) = cs.set s (x + 1) := by
  unfold bump
  rw [Int.toNat_natCast, h]
theorem sz_pos (p : Pc) : 1 ≤ p.sz := by
  induction p with
  | coin s c => exact Nat.le_refl _
  | pack a b n iha ihb => simp only [Pc.sz]; omega
theorem wp_append_iv {o : Oper} {act : Act} {w : World} {K : Act → World → Prop} {Q : Exit → Act → World → Prop} (s x : Operand) (ho : o.op = .call { callee := .builtin .append, args := #[s, x], argTypes := #[23, 23] })
    {B : Nat} {v : Value} {zs ys : List Int} {a : Option Addr} {c n : Nat} (hs : act.eval s = v) (hx : act.eval x = .slice a n c) (hn : n = ys.length) (h : OVI w B v zs) (hq : Ins w a ys) (h0 : 1 ≤ ys.length) (hl : zs.length + ys.length ≤ 100000000000) (hB : B ≤ w.heap.size)
    (hk : ∀ v' w', OVI w' B v' (zs ++ ys) → w.grownBy w' v.ownBlock → K (act.put o.dst v') w') : o.wp Tryd.prog act w K Q := by
  obtain ⟨i0, hi, hz0, hz1, hz2⟩ := info_parts Tryd.infoI64
  subst hn
  obtain ⟨b, off, rfl, hbl, hc⟩ := hq.2 (by omega)
  obtain ⟨v', w', hr, h2, h3, _, _⟩ := run_append_own_at (P := Tryd.prog) w B 23 o.type 3 i0 _ 1 8 Tryd.underlying23 hi hz0 hz1 hz2 rfl (by decide) v zs.length (zs.map (Value.int .i64)) h.1 ⟨b, off, none⟩ ys.length c (ys.map (Value.int .i64)) (by simp) (by
    intro j u hu
    simp only [List.getElem?_map, Option.map_eq_some_iff] at hu
    obtain ⟨y, hy, rfl⟩ := hu
    have hj : j < ys.length := (List.getElem?_eq_some_iff.1 hy).1
    have e : (⟨b, off, none⟩ : Addr).add j = ⟨b, off + j, none⟩ := by
      cases j with
      | zero => simp [Addr.add]
      | succ j => simp [Addr.add]
    simp [e, hc j hj, List.getD_eq_getElem?_getD, hy]) (by
    intro u hu
    obtain ⟨y, _, rfl⟩ := List.mem_map.1 hu
    rfl) (by unfold maxLen; omega) (by omega) hB
  unfold Oper.wp execOp
  simp only [ho, resolve, invoke, builtin, Sem.run_bind, Sem.run_pure, Result.andThen_ok, List.map_toArray, List.map_cons, List.map_nil, hs, hx, hr]
  refine hk v' w' ⟨by rw [List.length_append, List.map_append]; exact h2, fun y hy => ?_⟩ h3
  rcases List.mem_append.1 hy with hy | hy
  · exact h.2 y hy
  · exact hq.1 y hy
theorem ovi_made (w : World) : OVI (w.alloc (Obj.cells #[] 3)) w.heap.size (.slice (some ⟨w.heap.size, 0, none⟩) 0 0) [] :=
  ⟨⟨rfl, .inr ⟨w.heap.size, 0, #[], rfl, Nat.le_refl _, heap_alloc_new w _, Nat.le_refl _, by decide, rfl, rfl⟩⟩, by simp⟩
/-- All that the model has in hand while it makes packs. -/
structure PaI (w5 W : World) (N B : Nat) (v : Value) (es : List Ek) : Prop where
  row : OVk W B v es
  sy : SyOk W N es
  bel : Below B w5 W
theorem PaI.more {w5 V w6 w7 w9 : World} {N B : Nat} {v v1 v9 : Value} {es : List Ek} {E : Ek} {sy1 sy2 : List Int} {o : Obj} (h : PaI w5 V N B v es) (hNB : N < B) (hB : B ≤ w5.heap.size)
    (hg6 : (V.alloc (Obj.cells #[] 3)).grownBy w6 (some V.heap.size)) (ho6 : OVI w6 V.heap.size v1 sy1) (hg7 : w6.grownBy w7 v1.ownBlock) (ho7 : OVI w7 V.heap.size (.slice E.a E.p.sy.length E.c) E.p.sy) (hE : 1 ≤ E.p.sy.length)
    (h9 : OVk w9 B v9 (es ++ [E])) (hg9 : (w7.alloc o).grownBy w9 v.ownBlock) : PaI w5 w9 N B v9 (es ++ [E]) := by
  have hVB : B ≤ V.heap.size := Nat.le_trans hB h.bel.size
  have hb1 : Below V.heap.size V (V.alloc (Obj.cells #[] 3)) := (Below.refl _ _).alloc (Nat.le_refl _) _
  have hb6 : Below V.heap.size V w6 := hb1.grown hg6 hb1.size (fun j hj => by cases hj; exact Nat.le_refl _)
  have hb7 : Below V.heap.size V w7 := hb6.grown hg7 hb6.size (fun j hj => ho6.blk hj)
  have hb8 : Below V.heap.size V (w7.alloc o) := hb7.alloc hb7.size _
  have hon : Only (fun b => v.ownBlock = some b) V w9 := (Only.ofBelow (S := fun b => v.ownBlock = some b) hb8 (Nat.le_refl _)).grown hg9 (fun b hb => .inl hb)
  refine ⟨h9, fun e he => ?_, h.bel.trans (hon.below hVB (fun b hb => (World.ownsRow.lt h.row b hb).1))⟩
  rcases List.mem_append.1 he with he | he
  · exact h.sy.only hon (fun b hb => by
      obtain ⟨cur, hc⟩ := h.row.tag hb
      exact .inr ⟨cur, _, hc, by decide⟩) e he
  · simp only [List.mem_singleton] at he
    subst he
    rcases ho7.1.2 with ⟨e1, e2⟩ | ⟨g, cap, cur, e1, hg, hh, h4, h5, h6, h7⟩
    · omega
    · simp only [Value.slice.injEq] at e1
      obtain ⟨ea, -, ec⟩ := e1
      have hh8 : (w7.alloc o).heap[g]? = some (.cells cur 3 (0, 0)) := (Below.heap_alloc _ _ _ (Array.getElem?_eq_some_iff.1 hh).1).trans hh
      have hh9 : w9.heap[g]? = some (.cells cur 3 (0, 0)) := (hg9.block g (Array.getElem?_eq_some_iff.1 hh8).1 (fun e => by
        have := (World.ownsRow.lt h.row g e.symm).2
        omega)).trans hh8
      refine ⟨g, cur, ea, by omega, by rw [ec]; exact h4, hh9, fun i hi => ?_⟩
      have h8 := congrArg (·[i]?) h7
      simp only [List.getElem?_take, List.getElem?_map, Nat.mul_one] at h8
      rw [if_pos hi] at h8
      rw [← Array.getElem?_toList, h8]
      simp [List.getD_eq_getElem?_getD, List.getElem?_eq_getElem hi]

end Go.Proofs.YtkjebacpmmfflaaDoor
