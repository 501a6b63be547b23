/-
  Where letters were: what is looked up, one place more.
-/
import Derived.Test.YtgppjlbocppjlaaLzG
namespace Go.Proofs.Ytgppjlbocppjlaa
open Go.RowKit Go.Maps Go.ChangeShapes Go.ChangeAt Go.MapKept Go.WideElems
open Go.ChangeMaps (setBlock heap_setBlock_same heap_setBlock_other)
open Go.WideMaps (KeyLaw)
set_option linter.unusedVariables false

/-- The block M is a map by letters, of rows of numbers: at the letters q stand the numbers f q. -/
def LivL (w : World) (M n : Nat) (f : Int × Int × Int → List Int) : Prop :=
  ∃ D : DataW Unit, w.ownsGroups Try.prog 48 (M + 1) 3 .i64 M n D ∧ IsMap D ∧ ∀ q, lkR q → Itm (D.atKey (lkL q) .nil) (f q)
theorem LivL.made (w : World) : LivL (w.alloc (.map #[] 0)) w.heap.size 0 (fun _ => []) :=
  ⟨.map [], World.ownsGroups_made w _ _ _ _, isMap_empty, fun s _ => .inl ⟨rfl, rfl⟩⟩
theorem LivL.below {w w' : World} {M n : Nat} {f : Int × Int × Int → List Int} (h : LivL w M n f) (hb : Below w.heap.size w w') : LivL w' M n f := by
  obtain ⟨D, h1, h2, h3⟩ := h
  exact ⟨D, h1.kept (grown_below hb) (by simp) (fun _ _ _ x _ => by cases x.val.ownBlock <;> simp), h2, h3⟩
theorem LivL.lt {w : World} {M n : Nat} {f : Int × Int × Int → List Int} (h : LivL w M n f) : M < w.heap.size := by
  obtain ⟨D, ⟨es, clock, hb, _⟩, _⟩ := h
  exact (Array.getElem?_eq_some_iff.1 hb).1
theorem LivL.mono {w : World} {M n m : Nat} {f : Int × Int × Int → List Int} (h : LivL w M n f) (hm : n ≤ m) : LivL w M m f := by
  obtain ⟨D, ⟨es, clock, h1, h2, h3, h4, h5, h6, h7⟩, h8⟩ := h
  exact ⟨D, ⟨es, clock, h1, h2, by omega, h4, h5, fun x hx zs hz => by have := h6 x hx zs hz; omega, h7⟩, h8⟩
theorem LivL.congr {w : World} {M n : Nat} {f g : Int × Int × Int → List Int} (h : LivL w M n f) (he : ∀ q, f q = g q) : LivL w M n g := by
  obtain ⟨D, h1, h2, h3⟩ := h
  exact ⟨D, h1, h2, fun q hq => by rw [← he]; exact h3 q hq⟩
/-- A look-up. -/
theorem LivL.look {w : World} {M n : Nat} {f : Int × Int × Int → List Int} (h : LivL w M n f) (hn : n ≤ 1000) (q : Int × Int × Int) (hq : lkR q) :
    ∃ v, (Instr.lookup 44 (.map (some M)) (lkV q) false).run Try.prog w = .ok v w ∧ OVI w (M + 1) v (f q) ∧ (f q).length ≤ n := by
  obtain ⟨D, h1, h2, h3⟩ := h
  obtain ⟨v, zs, hrun, hat, hoi, hzl, _⟩ := h1.at Try.lawKL Try.underlying44 (Try.zeroSI _) (by unfold maxLen; omega) (lk_key hq)
  obtain rfl : zs = f q := (Itm.of hoi hat).eq (h3 q hq)
  exact ⟨v, hrun, ⟨hoi.1, fun z hz => bounds_i64 (hoi.2 z hz)⟩, hzl⟩

/-- The entry, what is appended, and the store. -/
theorem LivL.entry {w : World} {M n : Nat} {f : Int × Int × Int → List Int} (h : LivL w M n f) (hn : n ≤ 1000) (q : Int × Int × Int) (hq : lkR q) :
    ∃ v st w0, (Instr.mapEntry 44 (.map (some M)) (lkV q)).run Try.prog w = .ok (.tuple #[v, goInt st]) w0 ∧ w.grownBy w0 (some M) ∧ w0.heap.size = w.heap.size ∧ OVI w0 (M + 1) v (f q) ∧ (f q).length ≤ n ∧
      ∀ (w1 : World) (v' : Value) (z : Int), w0.grownBy w1 v.ownBlock → OVI w1 (M + 1) v' (f q ++ [z]) → (v'.ownBlock = v.ownBlock ∨ ∃ g, v'.ownBlock = some g ∧ w.heap.size ≤ g) →
        ∃ w2, (Instr.entryStore 44 (.map (some M)) (goInt st) v').run Try.prog w1 = .ok () w2 ∧ LivL w2 M (n + 1) (fun t => if t = q then f q ++ [z] else f t) ∧ w1.grownBy w2 (some M) := by
  obtain ⟨D, h1, h2, h3⟩ := h
  obtain ⟨v, zs, hrun, hat, hoi, hzl, hback⟩ := h1.at Try.lawKL Try.underlying44 (Try.zeroSI _) (by unfold maxLen; omega) (lk_key hq)
  obtain rfl : zs = f q := (Itm.of hoi hat).eq (h3 q hq)
  obtain ⟨es, clock, hb, F, hs, hD, hbb, hlen, hap⟩ := h1
  obtain ⟨v0, st, es1, c1, hme, hcase, hst⟩ := entry_then_store Try.keyLL Try.underlying44 Try.zeroSI hb F (lk_key hq)
  have hMl : M < w.heap.size := (Array.getElem?_eq_some_iff.1 hb).1
  have hv : v0 = v := by
    rcases Maps.fit_look false Try.lawKL Try.underlying44 (Try.zeroSI w) hb F (lk_key hq) with ⟨hr, hno, _⟩ | ⟨e1, y, hm1, hk1, hr, _⟩
    · rw [hrun] at hr
      simp at hr
      rcases hcase with ⟨e0, hm0, hk0, _⟩ | ⟨_, h⟩
      · exact absurd hk0 (hno e0 hm0)
      · rw [h, hr]
    · rw [hrun] at hr
      simp at hr
      rcases hcase with ⟨e0, hm0, hk0, h⟩ | ⟨hno, _⟩
      · rw [h, hr]
        have := F.stamped.2.2
        obtain ⟨i, hi, rfl⟩ := List.getElem_of_mem hm0
        obtain ⟨j, hj, rfl⟩ := List.getElem_of_mem hm1
        have hij : i = j := (List.getElem_inj (h₀ := by simpa using hi) (h₁ := by simpa using hj) this).1 (by rw [List.getElem_map, List.getElem_map, hk0, hk1])
        subst hij
        rfl
      · exact absurd hk1 (hno e1 hm1)
  subst hv
  have hg0 : ∀ (w : World) (h : w.heap[M]? = some (.map es clock)) (o : Obj), w.grownBy (setBlock w M o) (some M) := fun w h o => ⟨rfl, rfl, rfl, by simp [setBlock], fun i _ hi => heap_setBlock_other h _ (fun e1 => hi (by rw [e1]))⟩
  have own_ne : ∀ {w : World} {u : Value} {ys : List Int}, w.ownsInts (M + 1) 3 .i64 u ys → u.ownBlock = none ∨ u.ownBlock ≠ some M := fun {w u ys} ho => by
    cases hu : u.ownBlock with
    | none => exact Or.inl rfl
    | some g =>
      refine Or.inr (fun e1 => ?_)
      have := (ho.1.lt g hu).1
      cases e1
      omega
  have ho0 : (setBlock w M (.map es1 c1)).ownsInts (M + 1) 3 .i64 v0 (f q) := hoi.kept (hg0 w hb _) (own_ne hoi)
  refine ⟨v0, st, _, hme, hg0 w hb _, by simp [setBlock], ⟨ho0.1, fun z hz => bounds_i64 (hoi.2 z hz)⟩, hzl, fun w1 v' z hg ho hloc => ?_⟩
  have hvM : some M ≠ v0.ownBlock := by
    rcases own_ne hoi with h | h
    · rw [h]; simp
    · exact fun e => h e.symm
  have hw1 : w1.heap[M]? = some (.map es1 c1) := (hg.block M (by simp [setBlock]; exact hMl) hvM).trans (heap_setBlock_same hb _)
  have hoi1 : w1.ownsInts (M + 1) 3 .i64 v' (f q ++ [z]) := ⟨ho.1, fun y hy => WalkArith.wf_i64 (ho.2 y hy)⟩
  -- the world as it would be if the entry were not there yet
  have hg1 : ∀ (o : Obj), w1.grownBy (setBlock w1 M o) (some M) := fun o => ⟨rfl, rfl, rfl, by simp [setBlock], fun i _ hi => heap_setBlock_other hw1 _ (fun e1 => hi (by rw [e1]))⟩
  have hws : (setBlock w1 M (.map es clock)).heap[M]? = some (.map es clock) := heap_setBlock_same hw1 _
  have hgs : w.grownBy (setBlock w1 M (.map es clock)) v0.ownBlock := by
    refine ⟨hg.os, hg.tape, hg.output, by have := hg.size; simp [setBlock] at this ⊢; exact this, fun i hi hne => ?_⟩
    by_cases him : i = M
    · subst him
      rw [hws, hb]
    · rw [heap_setBlock_other hw1 _ him, hg.block i (by simp [setBlock]; exact hi) hne, heap_setBlock_other hb _ him]
  have hois : (setBlock w1 M (.map es clock)).ownsInts (M + 1) 3 .i64 v' (f q ++ [z]) := hoi1.kept (hg1 _) (own_ne hoi1)
  obtain ⟨w2, hr2, hgr2, hgg2⟩ := hback (setBlock w1 M (.map es clock)) v' (f q ++ [z]) hgs hois (by simp; omega) hloc
  obtain ⟨es', c', hse, hmu⟩ := hst w1 v' hw1
  -- the store of both
  have F0 : Fit Try.prog 48 (fun _ => some ((.nil : DataW Unit), ([] : List MemPlace))) es clock := ⟨F.size, F.stamped, fun x hx => by
    obtain ⟨y, hy⟩ := F.reads x hx
    exact ⟨(y.1, .nil), by simp [rd, rd_key hy]⟩⟩
  obtain ⟨v2, st2, es2, c2, _, _, hst2⟩ := entry_then_store Try.keyLL Try.underlying44 Try.zeroSI hws F0 (lk_key hq)
  obtain ⟨es3, c3, _, hmu2⟩ := hst2 (setBlock w1 M (.map es2 c2)) v' (heap_setBlock_same hw1 _)
  obtain ⟨e1, e2⟩ := upd_det Try.keyLL Try.underlying44 F.stamped F.keys (lk_key hq) hb hws hmu hmu2
  subst e1
  subst e2
  rw [hr2] at hmu2
  have hw2 : w2 = setBlock w1 M (.map es' c') := by
    have : w2 = setBlock (setBlock w1 M (.map es clock)) M (.map es' c') := by simpa using hmu2
    rw [this]
    simp [setBlock]
  subst hw2
  refine ⟨_, hse, ⟨_, hgr2, h2.put _ _, fun t ht => ?_⟩, hg1 _⟩
  by_cases htq : t = q
  · subst htq
    show Itm _ (if t = t then _ else _)
    rw [if_pos rfl, atKey_put_same h2 (Try.lawKL.key (lk_key ht))]
    exact Itm.of hois rfl
  · show Itm _ (if t = q then _ else _)
    rw [if_neg htq, atKey_put_other (fun e => htq (lk_inj ht hq (by first | exact e | exact e.symm)))]
    exact h3 t ht
end Go.Proofs.Ytgppjlbocppjlaa
