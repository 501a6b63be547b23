/-
  Words about rows of sequences: letters, a length, a distance.
-/
import Derived.Test.YtbkmdgceobilkaaOnly
namespace Go.Proofs.Ytbkmdgceobilkaa
open Go.RowKit
set_option linter.unusedVariables false

/-- A sequence as it lies: where its letters are, the letters, a length, a distance. -/
structure Sq where
  a : Option Addr
  c : Nat
  ls : List Int
  n : Int
  d : Int
/-- What it says. -/
def Sq.ct (s : Sq) : List Int × Int × Int := (s.ls, s.n, s.d)
def dq : Sq := ⟨none, 0, [], 0, 0⟩
def rI (z : Int) : Prop := -9223372036854775808 ≤ z ∧ z ≤ 9223372036854775807
def Sq.cells (s : Sq) : List Value := [.slice s.a s.ls.length s.c, .int .i64 s.n, .int .i64 s.d]

/-- It lies at an offset of a block. -/
structure Lies (w : World) (b o : Nat) (s : Sq) : Prop where
  c0 : w.cell? ⟨b, o, none⟩ = some (.slice s.a s.ls.length s.c)
  c1 : w.cell? ⟨b, o + 1, none⟩ = some (.int .i64 s.n)
  c2 : w.cell? ⟨b, o + 2, none⟩ = some (.int .i64 s.d)
  byt : Byt w s.a s.ls

/-- A slice value that starts at 'a' and has as many elements as 'ss' reads as the sequences 'ss'. -/
def Sqs (w : World) (a : Option Addr) (ss : List Sq) : Prop :=
  (∀ s ∈ ss, rI s.n ∧ rI s.d ∧ s.ls.length ≤ maxLen) ∧ (0 < ss.length → ∃ b off, a = some ⟨b, off, none⟩ ∧ b < w.heap.size ∧ ∀ i, i < ss.length → Lies w b (off + i * 3) (ss.getD i dq))

theorem Lies.below {w w' : World} {b o : Nat} {s : Sq} {B : Nat} (h : Lies w b o s) (hb : Below B w w') (hB : w.heap.size ≤ B) (hlt : b < w.heap.size) : Lies w' b o s :=
  ⟨keep hb (by omega) h.c0, keep hb (by omega) h.c1, keep hb (by omega) h.c2, h.byt.below hb hB⟩
theorem Sqs.below {w w' : World} {a : Option Addr} {ss : List Sq} {B : Nat} (h : Sqs w a ss) (hb : Below B w w') (hB : w.heap.size ≤ B) : Sqs w' a ss := by
  refine ⟨h.1, fun hz => ?_⟩
  obtain ⟨b, off, rfl, hlt, hc⟩ := h.2 hz
  exact ⟨b, off, rfl, Nat.lt_of_lt_of_le hlt hb.size, fun i hi => (hc i hi).below hb hB hlt⟩
theorem Sqs.len_pos {w : World} {a : Option Addr} {ss : List Sq} (h : Sqs w a ss) (i : Nat) (hi : i < ss.length) : ∃ b off, a = some ⟨b, off, none⟩ ∧ b < w.heap.size ∧ ∀ i, i < ss.length → Lies w b (off + i * 3) (ss.getD i dq) := h.2 (by omega)
theorem getD_memS {ss : List Sq} {k : Nat} (hk : k < ss.length) : ss.getD k dq ∈ ss := by
  rw [List.getD_eq_getElem?_getD, List.getElem?_eq_getElem hk]; exact List.getElem_mem hk
theorem Sqs.rng {w : World} {a : Option Addr} {ss : List Sq} (h : Sqs w a ss) (k : Nat) (hk : k < ss.length) : rI (ss.getD k dq).n ∧ rI (ss.getD k dq).d ∧ (ss.getD k dq).ls.length ≤ maxLen := h.1 _ (getD_memS hk)

/-! Rows of the call's own -/
theorem flat_len (ss : List Sq) : (ss.flatMap Sq.cells).length = ss.length * 3 := by
  induction ss with
  | nil => rfl
  | cons s ss ih => rw [List.flatMap_cons, List.length_append, ih, List.length_cons]; simp [Sq.cells]; omega
theorem flat_get (ss : List Sq) : ∀ k, k < ss.length → (ss.flatMap Sq.cells)[k * 3]? = some (.slice (ss.getD k dq).a (ss.getD k dq).ls.length (ss.getD k dq).c) ∧ (ss.flatMap Sq.cells)[k * 3 + 1]? = some (.int .i64 (ss.getD k dq).n) ∧ (ss.flatMap Sq.cells)[k * 3 + 2]? = some (.int .i64 (ss.getD k dq).d) := by
  induction ss with
  | nil => intro k hk; simp at hk
  | cons s ss ih =>
    intro k hk
    cases k with
    | zero => simp [List.flatMap_cons, Sq.cells]
    | succ k =>
      have := ih k (by simpa using hk)
      rw [List.flatMap_cons, show (k + 1) * 3 = k * 3 + 3 from by omega]
      simpa [Sq.cells] using this
theorem flat_set (s : Sq) (ss : List Sq) : ∀ k, k < ss.length → (((ss.flatMap Sq.cells).set (k * 3) (.slice s.a s.ls.length s.c)).set (k * 3 + 1) (.int .i64 s.n)).set (k * 3 + 2) (.int .i64 s.d) = (ss.set k s).flatMap Sq.cells := by
  induction ss with
  | nil => intro k hk; simp at hk
  | cons x ss ih =>
    intro k hk
    cases k with
    | zero => simp [List.flatMap_cons, Sq.cells]
    | succ k =>
      have := ih k (by simpa using hk)
      rw [List.set_cons_succ, List.flatMap_cons, List.flatMap_cons, ← this, show (k + 1) * 3 = k * 3 + 3 from by omega]
      simp [Sq.cells]

/-- A row of sequences that the call itself made, from block 'B' on; each has its letters in memory of its own. -/
structure OwS (w : World) (B g cap : Nat) (ss : List Sq) : Prop where
  row : w.ownsRow B 43 3 (.slice (some ⟨g, 0, none⟩) ss.length cap) ss.length (ss.flatMap Sq.cells)
  rng : ∀ s ∈ ss, rI s.n ∧ rI s.d ∧ s.ls.length ≤ maxLen
  mine : ∀ s ∈ ss, Mine w B w.heap.size s.a s.c s.ls
  apart : ∀ i j, i < ss.length → j < ss.length → i ≠ j → ∀ k, rowOf (ss.getD i dq).a k → ¬ rowOf (ss.getD j dq).a k

section
variable {w w' : World} {B g cap : Nat} {ss : List Sq}
theorem OwS.lt (h : OwS w B g cap ss) : B ≤ g ∧ g < w.heap.size := h.row.lt g rfl
theorem OwS.lies (h : OwS w B g cap ss) (i : Nat) (hi : i < ss.length) : Lies w g (0 + i * 3) (ss.getD i dq) := by
  obtain ⟨f0, f1, f2⟩ := flat_get ss i hi
  refine ⟨?_, ?_, ?_, (h.mine _ (getD_memS hi)).byt⟩
  · rw [Nat.zero_add, h.row.cellAt (i * 3) (by omega), f0]
  · rw [Nat.zero_add, h.row.cellAt (i * 3 + 1) (by omega), f1]
  · rw [Nat.zero_add, h.row.cellAt (i * 3 + 2) (by omega), f2]
theorem OwS.sqs (h : OwS w B g cap ss) : Sqs w (some ⟨g, 0, none⟩) ss := ⟨h.rng, fun _ => ⟨g, 0, rfl, h.lt.2, fun i hi => h.lies i hi⟩⟩
theorem OwS.frozen (h : OwS w B g cap ss) (i : Nat) : w.frozen? ⟨g, i, none⟩ = false := h.row.frozenAt i
theorem rowStay {T : TypeId} {sz : Nat} {v : Value} {n : Nat} {xs : List Value} {S : Nat → Prop} (h : w.ownsRow B T sz v n xs) (ho : Only S w w') (hs : ∀ k, v.ownBlock = some k → ¬ S k) : w'.ownsRow B T sz v n xs := by
  refine ⟨h.1, ?_⟩
  rcases h.2 with h' | ⟨g, cap, cur, rfl, hg, hh, r⟩
  · exact .inl h'
  · exact .inr ⟨g, cap, cur, rfl, hg, (ho.block g (Array.getElem?_eq_some_iff.1 hh).1 (hs g rfl)).trans hh, r⟩
theorem OwS.only {S : Nat → Prop} (h : OwS w B g cap ss) (ho : Only S w w') (hs : ∀ k, B ≤ k → k < w.heap.size → ¬ S k) : OwS w' B g cap ss :=
  ⟨rowStay h.row ho (fun k hk => by
      have e : g = k := by simpa [Value.ownBlock] using hk
      subst e
      exact hs g h.lt.1 h.lt.2), h.rng, fun s hm => ((h.mine s hm).only ho hs).mono (Nat.le_refl _) ho.size, h.apart⟩
theorem OwS.below (h : OwS w B g cap ss) (hb : Below w.heap.size w w') : OwS w' B g cap ss := h.only (Only.ofBelow (S := fun _ => False) hb (Nat.le_refl _)) (by simp)
theorem Mine.rowB {a : Option Addr} {U c k : Nat} {zs : List Int} (h : Mine w B U a c zs) (hr : rowOf a k) : B ≤ k ∧ k < U := by
  obtain ⟨x, hx, rfl⟩ := hr
  rcases h with ⟨h', _⟩ | ⟨g, h', g1, g2, _⟩
  · rw [h'] at hx; cases hx
  · rw [h'] at hx
    simp at hx
    rw [← hx]
    exact ⟨g1, g2⟩
/-- Letters lie in another block than the row of sequences. -/
theorem OwS.other (h : OwS w B g cap ss) {a : Option Addr} {B' U c : Nat} {zs : List Int} (hm : Mine w B' U a c zs) : ¬ rowOf a g := by
  rintro ⟨x, hx, hxg⟩
  rcases hm with ⟨h', _⟩ | ⟨g', h', g1, g2, ho⟩
  · rw [h'] at hx; cases hx
  · rw [h'] at hx
    simp at hx
    rw [← hx] at hxg
    simp at hxg
    subst hxg
    rcases ho.1.2 with ⟨e, _⟩ | ⟨k, cap1, cur1, e, _, hh, _⟩
    · simp at e
    · obtain rfl : g' = k := by simp at e; exact e.1
      rcases h.row.2 with ⟨e2, _⟩ | ⟨k2, cap2, cur2, e2, _, hh2, _⟩
      · simp at e2
      · obtain rfl : g' = k2 := by simp at e2; exact e2.1
        rw [hh] at hh2
        simp at hh2
theorem getD_setS (ss : List Sq) (k i : Nat) (s : Sq) (hk : k < ss.length) : (ss.set k s).getD i dq = if i = k then s else ss.getD i dq := by
  by_cases h : i = k
  · subst h
    rw [if_pos rfl, List.getD_eq_getElem?_getD, List.getElem?_set_self hk]; rfl
  · rw [if_neg h]
    simp only [List.getD_eq_getElem?_getD, List.getElem?_set_ne (Ne.symm h)]
theorem OwS.store (h : OwS w B g cap ss) (k : Nat) (hk : k < ss.length) (s : Sq) (hr : rI s.n ∧ rI s.d ∧ s.ls.length ≤ maxLen) (hm : Mine w B w.heap.size s.a s.c s.ls) (hap : ∀ i, i < ss.length → i ≠ k → ∀ b, rowOf s.a b → ¬ rowOf (ss.getD i dq).a b) :
    OwS (((w.setCell ⟨g, k * 3, none⟩ (.slice s.a s.ls.length s.c)).setCell ⟨g, k * 3 + 1, none⟩ (.int .i64 s.n)).setCell ⟨g, k * 3 + 2, none⟩ (.int .i64 s.d)) B g cap (ss.set k s) := by
  have r1 := (h.row.stored (k * 3) (.slice s.a s.ls.length s.c)).1
  have r2 := (r1.stored (k * 3 + 1) (.int .i64 s.n)).1
  have r3 := (r2.stored (k * 3 + 2) (.int .i64 s.d)).1
  rw [flat_set s ss k hk] at r3
  have hon : Only (fun b => b = g) w (((w.setCell ⟨g, k * 3, none⟩ (.slice s.a s.ls.length s.c)).setCell ⟨g, k * 3 + 1, none⟩ (.int .i64 s.n)).setCell ⟨g, k * 3 + 2, none⟩ (.int .i64 s.d)) :=
    (((Only.refl (fun b => b = g) w).setCell (p := ⟨g, k * 3, none⟩) (.inl rfl) _).setCell (p := ⟨g, k * 3 + 1, none⟩) (.inl rfl) _).setCell (p := ⟨g, k * 3 + 2, none⟩) (.inl rfl) _
  have stay : ∀ {t : Sq}, Mine w B w.heap.size t.a t.c t.ls → Mine (((w.setCell ⟨g, k * 3, none⟩ (.slice s.a s.ls.length s.c)).setCell ⟨g, k * 3 + 1, none⟩ (.int .i64 s.n)).setCell ⟨g, k * 3 + 2, none⟩ (.int .i64 s.d)) B (((w.setCell ⟨g, k * 3, none⟩ (.slice s.a s.ls.length s.c)).setCell ⟨g, k * 3 + 1, none⟩ (.int .i64 s.n)).setCell ⟨g, k * 3 + 2, none⟩ (.int .i64 s.d)).heap.size t.a t.c t.ls := by
    intro t ht
    have hne := h.other ht
    rcases ht with ht | ⟨g', h', g1, g2, ho⟩
    · exact .inl ht
    · refine .inr ⟨g', h', g1, Nat.lt_of_lt_of_le g2 hon.size, ho.only hon (fun e => hne ⟨_, h', e⟩)⟩
  refine ⟨by rw [List.length_set]; exact r3, ?_, ?_, ?_⟩
  · intro t ht
    rcases List.mem_or_eq_of_mem_set ht with ht | rfl
    · exact h.rng t ht
    · exact hr
  · intro t ht
    rcases List.mem_or_eq_of_mem_set ht with ht | rfl
    · exact stay (h.mine t ht)
    · exact stay hm
  · intro i j hi hj hij b
    rw [List.length_set] at hi hj
    rw [getD_setS ss k i s hk, getD_setS ss k j s hk]
    by_cases h1 : i = k
    · rw [if_pos h1, if_neg (by omega)]
      exact hap j hj (by omega) b
    · rw [if_neg h1]
      by_cases h2 : j = k
      · rw [if_pos h2]
        exact fun h3 h4 => hap i hi h1 b h4 h3
      · rw [if_neg h2]
        exact h.apart i j hi hj hij b
end
end Go.Proofs.Ytbkmdgceobilkaa
