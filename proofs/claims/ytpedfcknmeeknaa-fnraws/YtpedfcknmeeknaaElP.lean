/-
  Words about rows of lists of bytes: sectors ('false'), and lists with a number beside them, what waits ('true').
-/
import Derived.Test.YtpedfcknmeeknaaOnly
namespace Go.Proofs.Ytpedfcknmeeknaa
open Go.RowKit
set_option linter.unusedVariables false

/-- One of them, as it lies: a number, where its bytes are, the bytes. -/
structure El where
  n : Int
  a : Option Addr
  c : Nat
  ls : List Int
/-- What it says. -/
def El.ct (e : El) : Int × List Int := (e.n, e.ls)
def de : El := ⟨0, none, 0, []⟩
def eW (p : Bool) : Nat := cond p 2 1
def eO (p : Bool) : Nat := cond p 1 0
def eT (p : Bool) : TypeId := cond p 44 22
def El.cells (p : Bool) (e : El) : List Value := cond p [.int .i64 e.n, .slice e.a e.ls.length e.c] [.slice e.a e.ls.length e.c]
/-- Its number is an int, and 0 where there is none. -/
structure rE (p : Bool) (e : El) : Prop where
  lo : -9223372036854775808 ≤ e.n
  hi : e.n ≤ 9223372036854775807
  len : e.ls.length ≤ maxLen
  zero : p = false → e.n = 0

/-- It lies at an offset of a block. -/
structure LieE (p : Bool) (w : World) (b o : Nat) (e : El) : Prop where
  c0 : p = true → w.cell? ⟨b, o, none⟩ = some (.int .i64 e.n)
  c1 : w.cell? ⟨b, o + eO p, none⟩ = some (.slice e.a e.ls.length e.c)

/-- A slice value that starts at 'a' and has as many elements as 'es' reads as 'es'. -/
def Els (p : Bool) (w : World) (a : Option Addr) (es : List El) : Prop :=
  (∀ e ∈ es, rE p e ∧ Byt w e.a e.ls) ∧ (0 < es.length → ∃ b off, a = some ⟨b, off, none⟩ ∧ b < w.heap.size ∧ ∀ i, i < es.length → LieE p w b (off + i * eW p) (es.getD i de))

theorem getD_memE {es : List El} {k : Nat} (hk : k < es.length) : es.getD k de ∈ es := by
  rw [List.getD_eq_getElem?_getD, List.getElem?_eq_getElem hk]; exact List.getElem_mem hk
theorem memE_get {es : List El} {t : El} (h : t ∈ es) : ∃ i, i < es.length ∧ es.getD i de = t := by
  obtain ⟨i, hi, rfl⟩ := List.mem_iff_getElem.1 h
  exact ⟨i, hi, by rw [List.getD_eq_getElem?_getD, List.getElem?_eq_getElem hi]; rfl⟩
theorem ctE_get {ss ts : List El} (h : ss.map El.ct = ts.map El.ct) (k : Nat) : (ss.getD k de).ct = (ts.getD k de).ct := by
  have : (ss.map El.ct).getD k de.ct = (ts.map El.ct).getD k de.ct := by rw [h]
  simpa [List.getD_eq_getElem?_getD, List.getElem?_map, Option.getD_map] using this
theorem len_ctE {ss ts : List El} (h : ts.map El.ct = ss.map El.ct) : ts.length = ss.length := by have := congrArg List.length h; simpa using this
theorem LieE.below {p : Bool} {w w' : World} {b o : Nat} {e : El} {B : Nat} (h : LieE p w b o e) (hb : Below B w w') (hB : b < B) : LieE p w' b o e :=
  ⟨fun hp => keep hb hB (h.c0 hp), keep hb hB h.c1⟩
theorem Els.below {p : Bool} {w w' : World} {a : Option Addr} {es : List El} {B : Nat} (h : Els p w a es) (hb : Below B w w') (hB : w.heap.size ≤ B) : Els p w' a es := by
  refine ⟨fun e he => ⟨(h.1 e he).1, (h.1 e he).2.below hb hB⟩, fun hz => ?_⟩
  obtain ⟨b, off, rfl, hlt, hc⟩ := h.2 hz
  exact ⟨b, off, rfl, Nat.lt_of_lt_of_le hlt hb.size, fun i hi => (hc i hi).below hb (by omega)⟩
theorem Els.pos {p : Bool} {w : World} {a : Option Addr} {es : List El} (h : Els p w a es) (i : Nat) (hi : i < es.length) : ∃ b off, a = some ⟨b, off, none⟩ ∧ b < w.heap.size ∧ ∀ i, i < es.length → LieE p w b (off + i * eW p) (es.getD i de) := h.2 (by omega)
theorem Els.at {p : Bool} {w : World} {a : Option Addr} {es : List El} (h : Els p w a es) (k : Nat) (hk : k < es.length) : rE p (es.getD k de) ∧ Byt w (es.getD k de).a (es.getD k de).ls := h.1 _ (getD_memE hk)
/-- A sector, as the walks want it. -/
theorem Els.sec {w : World} {a : Option Addr} {es : List El} (h : Els false w a es) (k : Nat) (hk : k < es.length) : ∃ b off, a = some ⟨b, off, none⟩ ∧ b < w.heap.size ∧ w.cell? ⟨b, off + k, none⟩ = some (.slice (es.getD k de).a (es.getD k de).ls.length (es.getD k de).c) ∧ Byt w (es.getD k de).a (es.getD k de).ls ∧ rE false (es.getD k de) := by
  obtain ⟨b, off, rfl, hb, hc⟩ := h.pos k hk
  have h1 := (hc k hk).c1
  simp only [eW, eO, cond_false, Nat.mul_one, Nat.add_zero] at h1
  exact ⟨b, off, rfl, hb, h1, (h.at k hk).2, (h.at k hk).1⟩
/-- What waits, as the walks want it. -/
theorem Els.pen {w : World} {a : Option Addr} {es : List El} (h : Els true w a es) (k : Nat) (hk : k < es.length) : ∃ b off, a = some ⟨b, off, none⟩ ∧ b < w.heap.size ∧ w.cell? ⟨b, off + k * 2, none⟩ = some (.int .i64 (es.getD k de).n) ∧ w.cell? ⟨b, off + k * 2 + 1, none⟩ = some (.slice (es.getD k de).a (es.getD k de).ls.length (es.getD k de).c) ∧ Byt w (es.getD k de).a (es.getD k de).ls ∧ rE true (es.getD k de) := by
  obtain ⟨b, off, rfl, hb, hc⟩ := h.pos k hk
  have h0 := (hc k hk).c0 rfl
  have h1 := (hc k hk).c1
  simp only [eW, eO, cond_true] at h0 h1
  exact ⟨b, off, rfl, hb, h0, h1, (h.at k hk).2, (h.at k hk).1⟩

/-! Rows of the call's own -/
theorem cells_lenE (p : Bool) (e : El) : (e.cells p).length = eW p := by cases p <;> rfl
theorem eflat_len (p : Bool) (es : List El) : (es.flatMap (El.cells p)).length = es.length * eW p := by
  induction es with
  | nil => simp
  | cons s es ih => rw [List.flatMap_cons, List.length_append, ih, List.length_cons, cells_lenE, Nat.add_mul, Nat.one_mul, Nat.add_comm]
theorem eflat_get (p : Bool) (es : List El) : ∀ k, k < es.length → ∀ j, j < eW p → (es.flatMap (El.cells p))[k * eW p + j]? = ((es.getD k de).cells p)[j]? := by
  induction es with
  | nil => intro k hk; simp at hk
  | cons s es ih =>
    intro k hk j hj
    rw [List.flatMap_cons]
    cases k with
    | zero =>
      rw [Nat.zero_mul, Nat.zero_add, List.getElem?_append_left (by rw [cells_lenE]; exact hj)]
      rfl
    | succ k =>
      rw [List.getElem?_append_right (by rw [cells_lenE, Nat.add_mul]; omega), cells_lenE, show (k + 1) * eW p + j - eW p = k * eW p + j from by rw [Nat.add_mul]; omega, ih k (by simpa using hk) j hj]
      rfl
theorem eflat_set (p : Bool) (es : List El) (e : El) (j : Nat) (hj : j < eW p) (v : Value) : ∀ k, k < es.length → ((es.getD k de).cells p).set j v = e.cells p → (es.flatMap (El.cells p)).set (k * eW p + j) v = (es.set k e).flatMap (El.cells p) := by
  induction es with
  | nil => intro k hk; simp at hk
  | cons s es ih =>
    intro k hk he
    rw [List.flatMap_cons]
    cases k with
    | zero =>
      rw [Nat.zero_mul, Nat.zero_add, List.set_append_left _ _ (by rw [cells_lenE]; exact hj), List.set_cons_zero, List.flatMap_cons, ← he]
      rfl
    | succ k =>
      rw [List.set_append_right _ _ (by rw [cells_lenE, Nat.add_mul]; omega), cells_lenE, show (k + 1) * eW p + j - eW p = k * eW p + j from by rw [Nat.add_mul]; omega, ih k (by simpa using hk) he, List.set_cons_succ, List.flatMap_cons]

/-- A slice value (nil, or a row of the call's own from block B on) that has es; their bytes may lie anywhere. -/
structure OVr (p : Bool) (w : World) (B : Nat) (v : Value) (es : List El) : Prop where
  own : w.ownsRow B (eT p) (eW p) v es.length (es.flatMap (El.cells p))
/-- The bytes of all of them are the call's own, each in a block of its own. -/
structure Deep (w : World) (B : Nat) (es : List El) : Prop where
  mine : ∀ e ∈ es, Mine w B w.heap.size e.a e.c e.ls
  apart : (es.map El.a).Pairwise (fun x y => ∀ k, rowOf x k → ¬ rowOf y k)

section
variable {p : Bool} {w w' : World} {B : Nat} {v : Value} {es : List El}
theorem OVr.nil (p : Bool) (w : World) (B : Nat) : OVr p w B (.slice none 0 0) [] := ⟨⟨by simp, .inl ⟨rfl, rfl⟩⟩⟩
theorem OVr.form (h : OVr p w B v es) : ∃ (a : Option Addr) (c : Nat), v = .slice a es.length c := by
  rcases h.own.2 with ⟨rfl, h0⟩ | ⟨g, cap, cur, rfl, _⟩
  · exact ⟨none, 0, by rw [h0]⟩
  · exact ⟨_, _, rfl⟩
theorem OVr.blk (h : OVr p w B v es) {k : Nat} (hk : v.ownBlock = some k) : B ≤ k ∧ k < w.heap.size := by
  rcases h.own.2 with ⟨rfl, h0⟩ | ⟨g, cap, cur, rfl, hg, hh, _⟩
  · simp [Value.ownBlock] at hk
  · simp [Value.ownBlock] at hk
    subst hk
    exact ⟨hg, (Array.getElem?_eq_some_iff.1 hh).1⟩
theorem OVr.stay {S : Nat → Prop} (h : OVr p w B v es) (ho : Only S w w') (hs : ∀ k, v.ownBlock = some k → ¬ S k) : OVr p w' B v es := by
  refine ⟨⟨h.own.1, ?_⟩⟩
  rcases h.own.2 with h' | ⟨g, cap, cur, rfl, hg, hh, r⟩
  · exact .inl h'
  · exact .inr ⟨g, cap, cur, rfl, hg, (ho.block g (Array.getElem?_eq_some_iff.1 hh).1 (hs g rfl)).trans hh, r⟩
theorem OVr.below (h : OVr p w B v es) (hb : Below w.heap.size w w') : OVr p w' B v es := h.stay (Only.ofBelow (S := fun _ => False) hb (Nat.le_refl _)) (by simp)
theorem OVr.weak {B' : Nat} (h : OVr p w B v es) (hB : B' ≤ B) : OVr p w B' v es := by
  refine ⟨⟨h.own.1, ?_⟩⟩
  rcases h.own.2 with h' | ⟨g, cap, cur, h', hg, r⟩
  · exact .inl h'
  · exact .inr ⟨g, cap, cur, h', by omega, r⟩
theorem OVr.cell (h : OVr p w B v es) (k : Nat) (hk : k < es.length) : ∃ g cap, v = .slice (some ⟨g, 0, none⟩) es.length cap ∧ B ≤ g ∧ g < w.heap.size ∧ (∀ i, w.frozen? ⟨g, i, none⟩ = false) ∧ ∀ i, i < es.length → LieE p w g (i * eW p) (es.getD i de) := by
  rcases h.own.2 with ⟨_, h0⟩ | ⟨g, cap, cur, rfl, hg, hh, r⟩
  · omega
  · refine ⟨g, cap, rfl, hg, (Array.getElem?_eq_some_iff.1 hh).1, fun i => h.own.frozenAt i, fun i hi => ?_⟩
    have hp : i * eW p + eW p ≤ es.length * eW p := by rw [show i * eW p + eW p = (i + 1) * eW p from by rw [Nat.add_mul, Nat.one_mul]]; exact Nat.mul_le_mul_right _ hi
    refine ⟨fun hp1 => ?_, ?_⟩
    · have e0 := eflat_get p es i hi 0 (by cases p <;> simp [eW])
      rw [Nat.add_zero] at e0
      rw [h.own.cellAt (i * eW p) (by cases p <;> simp [eW] at hp ⊢ <;> omega), e0, hp1]
      rfl
    · rw [h.own.cellAt (i * eW p + eO p) (by cases p <;> simp [eW, eO] at hp ⊢ <;> omega), eflat_get p es i hi (eO p) (by cases p <;> simp [eW, eO])]
      cases p <;> rfl
theorem OVr.els {a : Option Addr} {n c : Nat} (h : OVr p w B (.slice a n c) es) (hr : ∀ e ∈ es, rE p e ∧ Byt w e.a e.ls) : Els p w a es := by
  refine ⟨hr, fun hz => ?_⟩
  obtain ⟨g, cap, e, h1, h2, _, h4⟩ := h.cell 0 hz
  simp at e
  obtain ⟨rfl, rfl, rfl⟩ := e
  exact ⟨g, 0, rfl, h2, fun i hi => by rw [Nat.zero_add]; exact h4 i hi⟩
/-- One cell of it is written. -/
theorem OVr.store (h : OVr p w B v es) (k : Nat) (hk : k < es.length) (e : El) (j : Nat) (hj : j < eW p) (u : Value) (he : ((es.getD k de).cells p).set j u = e.cells p) {g : Nat} (hg : v.ownBlock = some g) : OVr p (w.setCell ⟨g, k * eW p + j, none⟩ u) B v (es.set k e) := by
  obtain ⟨a, c, rfl⟩ := h.form
  have hv : ∃ g', a = some ⟨g', 0, none⟩ := by
    obtain ⟨g', cap, e, _⟩ := h.cell k hk
    simp at e
    exact ⟨g', e.1⟩
  obtain ⟨g', rfl⟩ := hv
  obtain rfl : g' = g := by simpa [Value.ownBlock] using hg
  have r := (h.own.stored (k * eW p + j) u).1
  rw [eflat_set p es e j hj u k hk he] at r
  exact ⟨by rw [List.length_set]; exact r⟩
theorem Deep.nil (w : World) (B : Nat) : Deep w B [] := ⟨by simp, by simp⟩
theorem Mine.rowE {a : Option Addr} {U c k : Nat} {zs : List Int} (h : Mine w B U a c zs) (hr : rowOf a k) : B ≤ k ∧ k < U := by
  obtain ⟨x, hx, rfl⟩ := hr
  rcases h with ⟨h', _⟩ | ⟨g, h', g1, g2, _⟩
  · rw [h'] at hx; cases hx
  · rw [h'] at hx
    simp at hx
    rw [← hx]
    exact ⟨g1, g2⟩
theorem Mine.stay {S : Nat → Prop} {a : Option Addr} {U c : Nat} {zs : List Int} (h : Mine w B U a c zs) (ho : Only S w w') (hs : ∀ k, rowOf a k → ¬ S k) : Mine w' B U a c zs := by
  rcases h with h | ⟨g, rfl, h1, h2, h⟩
  · exact .inl h
  · exact .inr ⟨g, rfl, h1, h2, h.only ho (hs g ⟨_, rfl, rfl⟩)⟩
/-- Bytes lie in another block than a row of them. -/
theorem OVr.other (h : OVr p w B v es) {a : Option Addr} {B' U c : Nat} {zs : List Int} (hm : Mine w B' U a c zs) {g : Nat} (hg : v.ownBlock = some g) : ¬ rowOf a g := by
  rintro ⟨x, hx, hxg⟩
  rcases hm with ⟨h', _⟩ | ⟨g', h', g1, g2, ho⟩
  · rw [h'] at hx; cases hx
  · rw [h'] at hx
    simp at hx
    rw [← hx] at hxg
    simp at hxg
    subst hxg
    rcases ho.1.2 with ⟨e, _⟩ | ⟨k, cap1, cur1, e, _, hh, _⟩
    · simp at e
    · obtain rfl : g' = k := by simp at e; exact e.1
      rcases h.own.2 with ⟨e2, _⟩ | ⟨k2, cap2, cur2, e2, _, hh2, _⟩
      · subst e2; simp [Value.ownBlock] at hg
      · subst e2
        obtain rfl : k2 = g' := by simpa [Value.ownBlock] using hg
        rw [hh] at hh2
        cases p <;> simp [eT] at hh2
theorem OVr.two {v2 : Value} {es2 : List El} {B2 : Nat} (h : OVr false w B v es) (h2 : OVr true w B2 v2 es2) {g : Nat} (hg : v.ownBlock = some g) : ¬ v2.ownBlock = some g := by
  intro hg2
  rcases h.own.2 with ⟨e2, _⟩ | ⟨k, cap1, cur1, e1, _, hh, _⟩
  · subst e2; simp [Value.ownBlock] at hg
  · subst e1
    obtain rfl : k = g := by simpa [Value.ownBlock] using hg
    rcases h2.own.2 with ⟨e2, _⟩ | ⟨k2, cap2, cur2, e2, _, hh2, _⟩
    · subst e2; simp [Value.ownBlock] at hg2
    · subst e2
      obtain rfl : k2 = k := by simpa [Value.ownBlock] using hg2
      rw [hh] at hh2
      simp [eT] at hh2
theorem Deep.stay {S : Nat → Prop} (h : Deep w B es) (ho : Only S w w') (hs : ∀ e ∈ es, ∀ k, rowOf e.a k → ¬ S k) : Deep w' B es :=
  ⟨fun e he => ((h.mine e he).stay ho (hs e he)).mono (Nat.le_refl _) ho.size, h.apart⟩
theorem Deep.below (h : Deep w B es) (hb : Below w.heap.size w w') : Deep w' B es := h.stay (Only.ofBelow (S := fun _ => False) hb (Nat.le_refl _)) (by simp)
theorem Deep.weak {B' : Nat} (h : Deep w B es) (hB : B' ≤ B) : Deep w B' es := ⟨fun e he => (h.mine e he).mono hB (Nat.le_refl _), h.apart⟩
theorem Deep.byt (h : Deep w B es) : ∀ e ∈ es, Byt w e.a e.ls := fun e he => (h.mine e he).byt
/-- One more, that was made last. -/
theorem Deep.snoc {U : Nat} {e : El} (h : Deep w B es) (hm : Mine w U w.heap.size e.a e.c e.ls) (hU : ∀ x ∈ es, ∀ k, rowOf x.a k → k < U) (hB : B ≤ U) : Deep w B (es ++ [e]) := by
  refine ⟨?_, ?_⟩
  · intro x hx
    rcases List.mem_append.1 hx with hx | hx
    · exact h.mine x hx
    · simp at hx
      subst hx
      exact hm.mono hB (Nat.le_refl _)
  · rw [List.map_append, List.pairwise_append]
    refine ⟨h.apart, by simp, ?_⟩
    intro x hx y hy k hk hk2
    simp at hy
    subst hy
    obtain ⟨z, hz, rfl⟩ := List.mem_map.1 hx
    have h1 := hU z hz k hk
    have h2 := (hm.rowE hk2).1
    omega
end
end Go.Proofs.Ytpedfcknmeeknaa
