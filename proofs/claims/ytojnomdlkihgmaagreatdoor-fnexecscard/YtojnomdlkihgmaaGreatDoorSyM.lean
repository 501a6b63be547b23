/-
  Symbols of sequences and the bits beside, as numbers.
-/
import Derived.Test.YtojnomdlkihgmaaGreatDoorLzM
import Derived.Test.YtojnomdlkihgmaaGreatDoorITxtI
import Derived.Test.YtojnomdlkihgmaaGreatDoorLPutM
namespace Go.Proofs.YtojnomdlkihgmaaGreatDoor
open Go.RowKit
set_option linter.unusedVariables false

/-- The longest piece at a place; none behind the end. -/
def lz (ys : List Int) (q : Nat) : Nat × Nat := if q < ys.length then lzA ys q else (0, 0)
/-- The letters from f up to q. -/
def cutL (ys : List Int) (f q : Nat) : List Int := (ys.drop f).take (q - f)
theorem cutL_nil (ys : List Int) (q : Nat) : cutL ys q q = [] := by simp [cutL]
theorem cutL_snoc (ys : List Int) (f q : Nat) (hf : f ≤ q) (hq : q < ys.length) : cutL ys f q ++ [ys.getD q 0] = cutL ys f (q + 1) := by
  unfold cutL
  rw [show q + 1 - f = (q - f) + 1 by omega, List.take_succ_eq_append_getElem (by simp; omega)]
  congr 1
  simp only [List.getElem_drop]
  rw [List.getD_eq_getElem?_getD, List.getElem?_eq_getElem hq]
  simp [show f + (q - f) = q by omega]
theorem cutL_len (ys : List Int) (f q : Nat) (hf : f ≤ q) (hq : q ≤ ys.length) : (cutL ys f q).length = q - f := by
  unfold cutL
  rw [List.length_take, List.length_drop]
  omega
theorem cutL_mem {ys : List Int} {f q : Nat} {z : Int} (h : z ∈ cutL ys f q) : z ∈ ys := List.mem_of_mem_drop (List.mem_of_mem_take h)
/-- At q the piece is taken. -/
def takes (ys : List Int) (q : Nat) : Prop := 0 < (lz ys q).1 ∧ (lz ys (q + 1)).1 ≤ (lz ys q).1
theorem lz_le (ys : List Int) (q : Nat) : q + (lz ys q).1 ≤ max q ys.length ∧ (lz ys q).2 ≤ q := by
  unfold lz
  split
  · unfold lzA
    have h1 := lzD_spec ys q q
    split
    · simp; omega
    · rcases h1.2 with h | ⟨d, d1, d2, h, _⟩
      · rw [h]; simp; omega
      · have := alk_le ys (q - d) q
        rw [h]
        simp only
        omega
  · simp; omega
/-- All that is found: what is taken, and the letters that are left. -/
def fin (ys : List Int) (f : Nat) (cs : List (List Int × Int × Int)) : List (List Int × Int × Int) := if f < ys.length then cs ++ [(cutL ys f ys.length, 0, 0)] else cs
/-- The same by steps that are counted. -/
def go (ys : List Int) : Nat → Nat → Nat → List (List Int × Int × Int) → Nat × List (List Int × Int × Int)
  | 0, f, q, cs => (f, cs)
  | n + 1, f, q, cs => if q < ys.length then (if 0 < (lz ys q).1 ∧ (lz ys (q + 1)).1 ≤ (lz ys q).1 then go ys n (q + (lz ys q).1) (q + (lz ys q).1) (cs ++ [(cutL ys f q, ((lz ys q).1 : Int), ((lz ys q).2 : Int))]) else go ys n f (q + 1) cs) else (f, cs)
/-- What Find tells of a text. -/
def found (ys : List Int) : List (List Int × Int × Int) := fin ys (go ys ys.length 0 0 []).1 (go ys ys.length 0 0 []).2
/-- Where the search is: letters wait from f on, it looks at q, cs is found. -/
structure St (ys : List Int) (f q : Nat) (cs : List (List Int × Int × Int)) : Prop where
  fq : f ≤ q
  ql : q ≤ ys.length
  cl : cs.length ≤ q
  parts : ∀ c ∈ cs, c.1.length ≤ ys.length ∧ (∃ n d : Nat, c.2 = ((n : Int), (d : Int)) ∧ n ≤ ys.length ∧ d ≤ ys.length)
  run : ∃ m, ys.length ≤ m + q ∧ go ys m f q cs = go ys ys.length 0 0 []
theorem St.start (ys : List Int) : St ys 0 0 [] := ⟨Nat.le_refl _, Nat.zero_le _, Nat.le_refl _, by simp, ys.length, by omega, rfl⟩
theorem St.wait {ys : List Int} {f q : Nat} {cs : List (List Int × Int × Int)} (h : St ys f q cs) (hq : q < ys.length) (ht : ¬ takes ys q) : St ys f (q + 1) cs := by
  have h1 := h.fq
  have h2 := h.cl
  refine ⟨by omega, hq, by omega, h.parts, ?_⟩
  obtain ⟨m, hm, hg⟩ := h.run
  obtain ⟨k, rfl⟩ : ∃ k, m = k + 1 := ⟨m - 1, by omega⟩
  refine ⟨k, by omega, ?_⟩
  rw [← hg]
  simp only [go]
  rw [if_pos hq, if_neg (show ¬ (0 < (lz ys q).1 ∧ (lz ys (q + 1)).1 ≤ (lz ys q).1) from ht)]
theorem St.take {ys : List Int} {f q : Nat} {cs : List (List Int × Int × Int)} (h : St ys f q cs) (hq : q < ys.length) (ht : takes ys q) : St ys (q + (lz ys q).1) (q + (lz ys q).1) (cs ++ [(cutL ys f q, ((lz ys q).1 : Int), ((lz ys q).2 : Int))]) := by
  have h1 := h.fq
  have h2 := h.cl
  have h3 := lz_le ys q
  have h4 := ht.1
  refine ⟨Nat.le_refl _, by omega, by rw [List.length_append]; simp; omega, ?_, ?_⟩
  · intro c hc
    rcases List.mem_append.1 hc with hc | hc
    · exact h.parts c hc
    · simp only [List.mem_singleton] at hc
      subst hc
      have h5 := cutL_len ys f q h1 h.ql
      exact ⟨by show (cutL ys f q).length ≤ _; omega, _, _, rfl, by omega, by omega⟩
  · obtain ⟨m, hm, hg⟩ := h.run
    obtain ⟨k, rfl⟩ : ∃ k, m = k + 1 := ⟨m - 1, by omega⟩
    refine ⟨k, by omega, ?_⟩
    rw [← hg]
    simp only [go]
    rw [if_pos hq, if_pos (show 0 < (lz ys q).1 ∧ (lz ys (q + 1)).1 ≤ (lz ys q).1 from ht)]
theorem St.done {ys : List Int} {f q : Nat} {cs : List (List Int × Int × Int)} (h : St ys f q cs) (hq : ¬ q < ys.length) : found ys = fin ys f cs := by
  obtain ⟨m, hm, hg⟩ := h.run
  have e : go ys m f q cs = (f, cs) := by
    cases m with
    | zero => rfl
    | succ m => simp only [go]; rw [if_neg hq]
  rw [e] at hg
  unfold found
  rw [← hg]
theorem lz_at {ys : List Int} {q : Nat} (h : q < ys.length) : lz ys q = lzA ys q := if_pos h
theorem lz_end {ys : List Int} {q : Nat} (h : ¬ q < ys.length) : lz ys q = (0, 0) := if_neg h
/-- A sequence as it lies: where its letters are, the letters, a length, a distance. -/
structure Sq where
  a : Option Addr
  c : Nat
  ls : List Int
  n : Int
  d : Int
/-- What it says. -/
def Sq.ct (s : Sq) : List Int × Int × Int := (s.ls, s.n, s.d)
def dq : Sq := ⟨none, 0, [], 0, 0⟩
def rI (z : Int) : Prop := -9223372036854775808 ≤ z ∧ z ≤ 9223372036854775807
def Sq.cells (s : Sq) : List Value := [.slice s.a s.ls.length s.c, .int .i64 s.n, .int .i64 s.d]

/-- It lies at an offset of a block. -/
structure Lies (w : World) (b o : Nat) (s : Sq) : Prop where
  c0 : w.cell? ⟨b, o, none⟩ = some (.slice s.a s.ls.length s.c)
  c1 : w.cell? ⟨b, o + 1, none⟩ = some (.int .i64 s.n)
  c2 : w.cell? ⟨b, o + 2, none⟩ = some (.int .i64 s.d)
  byt : Byt w s.a s.ls

/-- A slice value that starts at 'a' and has as many elements as 'ss' reads as the sequences 'ss'. -/
def Sqs (w : World) (a : Option Addr) (ss : List Sq) : Prop :=
  (∀ s ∈ ss, rI s.n ∧ rI s.d ∧ s.ls.length ≤ maxLen) ∧ (0 < ss.length → ∃ b off, a = some ⟨b, off, none⟩ ∧ b < w.heap.size ∧ ∀ i, i < ss.length → Lies w b (off + i * 3) (ss.getD i dq))

theorem Lies.below {w w' : World} {b o : Nat} {s : Sq} {B : Nat} (h : Lies w b o s) (hb : Below B w w') (hB : w.heap.size ≤ B) (hlt : b < w.heap.size) : Lies w' b o s :=
  ⟨keep hb (by omega) h.c0, keep hb (by omega) h.c1, keep hb (by omega) h.c2, h.byt.below hb hB⟩
theorem Sqs.below {w w' : World} {a : Option Addr} {ss : List Sq} {B : Nat} (h : Sqs w a ss) (hb : Below B w w') (hB : w.heap.size ≤ B) : Sqs w' a ss := by
  refine ⟨h.1, fun hz => ?_⟩
  obtain ⟨b, off, rfl, hlt, hc⟩ := h.2 hz
  exact ⟨b, off, rfl, Nat.lt_of_lt_of_le hlt hb.size, fun i hi => (hc i hi).below hb hB hlt⟩
theorem Sqs.len_pos {w : World} {a : Option Addr} {ss : List Sq} (h : Sqs w a ss) (i : Nat) (hi : i < ss.length) : ∃ b off, a = some ⟨b, off, none⟩ ∧ b < w.heap.size ∧ ∀ i, i < ss.length → Lies w b (off + i * 3) (ss.getD i dq) := h.2 (by omega)
theorem getD_memS {ss : List Sq} {k : Nat} (hk : k < ss.length) : ss.getD k dq ∈ ss := by
  rw [List.getD_eq_getElem?_getD, List.getElem?_eq_getElem hk]; exact List.getElem_mem hk
theorem Sqs.rng {w : World} {a : Option Addr} {ss : List Sq} (h : Sqs w a ss) (k : Nat) (hk : k < ss.length) : rI (ss.getD k dq).n ∧ rI (ss.getD k dq).d ∧ (ss.getD k dq).ls.length ≤ maxLen := h.1 _ (getD_memS hk)

/-! Rows of the call's own -/
theorem flat_len (ss : List Sq) : (ss.flatMap Sq.cells).length = ss.length * 3 := by
  induction ss with
  | nil => rfl
  | cons s ss ih => rw [List.flatMap_cons, List.length_append, ih, List.length_cons]; simp [Sq.cells]; omega
theorem flat_get (ss : List Sq) : ∀ k, k < ss.length → (ss.flatMap Sq.cells)[k * 3]? = some (.slice (ss.getD k dq).a (ss.getD k dq).ls.length (ss.getD k dq).c) ∧ (ss.flatMap Sq.cells)[k * 3 + 1]? = some (.int .i64 (ss.getD k dq).n) ∧ (ss.flatMap Sq.cells)[k * 3 + 2]? = some (.int .i64 (ss.getD k dq).d) := by
  induction ss with
  | nil => intro k hk; simp at hk
  | cons s ss ih =>
    intro k hk
    cases k with
    | zero => simp [List.flatMap_cons, Sq.cells]
    | succ k =>
      have := ih k (by simpa using hk)
      rw [List.flatMap_cons, show (k + 1) * 3 = k * 3 + 3 from by omega]
      simpa [Sq.cells] using this
theorem flat_set (s : Sq) (ss : List Sq) : ∀ k, k < ss.length → (((ss.flatMap Sq.cells).set (k * 3) (.slice s.a s.ls.length s.c)).set (k * 3 + 1) (.int .i64 s.n)).set (k * 3 + 2) (.int .i64 s.d) = (ss.set k s).flatMap Sq.cells := by
  induction ss with
  | nil => intro k hk; simp at hk
  | cons x ss ih =>
    intro k hk
    cases k with
    | zero => simp [List.flatMap_cons, Sq.cells]
    | succ k =>
      have := ih k (by simpa using hk)
      rw [List.set_cons_succ, List.flatMap_cons, List.flatMap_cons, ← this, show (k + 1) * 3 = k * 3 + 3 from by omega]
      simp [Sq.cells]

/-- A row of sequences that the call itself made, from block 'B' on; each has its letters in memory of its own. -/
structure OwS (w : World) (B g cap : Nat) (ss : List Sq) : Prop where
  row : w.ownsRow B 37 3 (.slice (some ⟨g, 0, none⟩) ss.length cap) ss.length (ss.flatMap Sq.cells)
  rng : ∀ s ∈ ss, rI s.n ∧ rI s.d ∧ s.ls.length ≤ maxLen
  mine : ∀ s ∈ ss, Mine w B w.heap.size s.a s.c s.ls
  apart : ∀ i j, i < ss.length → j < ss.length → i ≠ j → ∀ k, rowOf (ss.getD i dq).a k → ¬ rowOf (ss.getD j dq).a k

section
variable {w w' : World} {B g cap : Nat} {ss : List Sq}
theorem OwS.lt (h : OwS w B g cap ss) : B ≤ g ∧ g < w.heap.size := h.row.lt g rfl
theorem OwS.lies (h : OwS w B g cap ss) (i : Nat) (hi : i < ss.length) : Lies w g (0 + i * 3) (ss.getD i dq) := by
  obtain ⟨f0, f1, f2⟩ := flat_get ss i hi
  refine ⟨?_, ?_, ?_, (h.mine _ (getD_memS hi)).byt⟩
  · rw [Nat.zero_add, h.row.cellAt (i * 3) (by omega), f0]
  · rw [Nat.zero_add, h.row.cellAt (i * 3 + 1) (by omega), f1]
  · rw [Nat.zero_add, h.row.cellAt (i * 3 + 2) (by omega), f2]
theorem OwS.sqs (h : OwS w B g cap ss) : Sqs w (some ⟨g, 0, none⟩) ss := ⟨h.rng, fun _ => ⟨g, 0, rfl, h.lt.2, fun i hi => h.lies i hi⟩⟩
theorem OwS.frozen (h : OwS w B g cap ss) (i : Nat) : w.frozen? ⟨g, i, none⟩ = false := h.row.frozenAt i
theorem rowStay {T : TypeId} {sz : Nat} {v : Value} {n : Nat} {xs : List Value} {S : Nat → Prop} (h : w.ownsRow B T sz v n xs) (ho : Only S w w') (hs : ∀ k, v.ownBlock = some k → ¬ S k) : w'.ownsRow B T sz v n xs := by
  refine ⟨h.1, ?_⟩
  rcases h.2 with h' | ⟨g, cap, cur, rfl, hg, hh, r⟩
  · exact .inl h'
  · exact .inr ⟨g, cap, cur, rfl, hg, (ho.block g (Array.getElem?_eq_some_iff.1 hh).1 (hs g rfl)).trans hh, r⟩
theorem OwS.only {S : Nat → Prop} (h : OwS w B g cap ss) (ho : Only S w w') (hs : ∀ k, B ≤ k → k < w.heap.size → ¬ S k) : OwS w' B g cap ss :=
  ⟨rowStay h.row ho (fun k hk => by
      have e : g = k := by simpa [Value.ownBlock] using hk
      subst e
      exact hs g h.lt.1 h.lt.2), h.rng, fun s hm => ((h.mine s hm).only ho hs).mono (Nat.le_refl _) ho.size, h.apart⟩
theorem OwS.below (h : OwS w B g cap ss) (hb : Below w.heap.size w w') : OwS w' B g cap ss := h.only (Only.ofBelow (S := fun _ => False) hb (Nat.le_refl _)) (by simp)
theorem Mine.rowB {a : Option Addr} {U c k : Nat} {zs : List Int} (h : Mine w B U a c zs) (hr : rowOf a k) : B ≤ k ∧ k < U := by
  obtain ⟨x, hx, rfl⟩ := hr
  rcases h with ⟨h', _⟩ | ⟨g, h', g1, g2, _⟩
  · rw [h'] at hx; cases hx
  · rw [h'] at hx
    simp at hx
    rw [← hx]
    exact ⟨g1, g2⟩
/-- Letters lie in another block than the row of sequences. -/
theorem OwS.other (h : OwS w B g cap ss) {a : Option Addr} {B' U c : Nat} {zs : List Int} (hm : Mine w B' U a c zs) : ¬ rowOf a g := by
  rintro ⟨x, hx, hxg⟩
  rcases hm with ⟨h', _⟩ | ⟨g', h', g1, g2, ho⟩
  · rw [h'] at hx; cases hx
  · rw [h'] at hx
    simp at hx
    rw [← hx] at hxg
    simp at hxg
    subst hxg
    rcases ho.1.2 with ⟨e, _⟩ | ⟨k, cap1, cur1, e, _, hh, _⟩
    · simp at e
    · obtain rfl : g' = k := by simp at e; exact e.1
      rcases h.row.2 with ⟨e2, _⟩ | ⟨k2, cap2, cur2, e2, _, hh2, _⟩
      · simp at e2
      · obtain rfl : g' = k2 := by simp at e2; exact e2.1
        rw [hh] at hh2
        simp at hh2
theorem getD_setS (ss : List Sq) (k i : Nat) (s : Sq) (hk : k < ss.length) : (ss.set k s).getD i dq = if i = k then s else ss.getD i dq := by
  by_cases h : i = k
  · subst h
    rw [if_pos rfl, List.getD_eq_getElem?_getD, List.getElem?_set_self hk]; rfl
  · rw [if_neg h]
    simp only [List.getD_eq_getElem?_getD, List.getElem?_set_ne (Ne.symm h)]
theorem OwS.store (h : OwS w B g cap ss) (k : Nat) (hk : k < ss.length) (s : Sq) (hr : rI s.n ∧ rI s.d ∧ s.ls.length ≤ maxLen) (hm : Mine w B w.heap.size s.a s.c s.ls) (hap : ∀ i, i < ss.length → i ≠ k → ∀ b, rowOf s.a b → ¬ rowOf (ss.getD i dq).a b) :
    OwS (((w.setCell ⟨g, k * 3, none⟩ (.slice s.a s.ls.length s.c)).setCell ⟨g, k * 3 + 1, none⟩ (.int .i64 s.n)).setCell ⟨g, k * 3 + 2, none⟩ (.int .i64 s.d)) B g cap (ss.set k s) := by
  have r1 := (h.row.stored (k * 3) (.slice s.a s.ls.length s.c)).1
  have r2 := (r1.stored (k * 3 + 1) (.int .i64 s.n)).1
  have r3 := (r2.stored (k * 3 + 2) (.int .i64 s.d)).1
  rw [flat_set s ss k hk] at r3
  have hon : Only (fun b => b = g) w (((w.setCell ⟨g, k * 3, none⟩ (.slice s.a s.ls.length s.c)).setCell ⟨g, k * 3 + 1, none⟩ (.int .i64 s.n)).setCell ⟨g, k * 3 + 2, none⟩ (.int .i64 s.d)) :=
    (((Only.refl (fun b => b = g) w).setCell (p := ⟨g, k * 3, none⟩) (.inl rfl) _).setCell (p := ⟨g, k * 3 + 1, none⟩) (.inl rfl) _).setCell (p := ⟨g, k * 3 + 2, none⟩) (.inl rfl) _
  have stay : ∀ {t : Sq}, Mine w B w.heap.size t.a t.c t.ls → Mine (((w.setCell ⟨g, k * 3, none⟩ (.slice s.a s.ls.length s.c)).setCell ⟨g, k * 3 + 1, none⟩ (.int .i64 s.n)).setCell ⟨g, k * 3 + 2, none⟩ (.int .i64 s.d)) B (((w.setCell ⟨g, k * 3, none⟩ (.slice s.a s.ls.length s.c)).setCell ⟨g, k * 3 + 1, none⟩ (.int .i64 s.n)).setCell ⟨g, k * 3 + 2, none⟩ (.int .i64 s.d)).heap.size t.a t.c t.ls := by
    intro t ht
    have hne := h.other ht
    rcases ht with ht | ⟨g', h', g1, g2, ho⟩
    · exact .inl ht
    · refine .inr ⟨g', h', g1, Nat.lt_of_lt_of_le g2 hon.size, ho.only hon (fun e => hne ⟨_, h', e⟩)⟩
  refine ⟨by rw [List.length_set]; exact r3, ?_, ?_, ?_⟩
  · intro t ht
    rcases List.mem_or_eq_of_mem_set ht with ht | rfl
    · exact h.rng t ht
    · exact hr
  · intro t ht
    rcases List.mem_or_eq_of_mem_set ht with ht | rfl
    · exact stay (h.mine t ht)
    · exact stay hm
  · intro i j hi hj hij b
    rw [List.length_set] at hi hj
    rw [getD_setS ss k i s hk, getD_setS ss k j s hk]
    by_cases h1 : i = k
    · rw [if_pos h1, if_neg (by omega)]
      exact hap j hj (by omega) b
    · rw [if_neg h1]
      by_cases h2 : j = k
      · rw [if_pos h2]
        exact fun h3 h4 => hap i hi h1 b h4 h3
      · rw [if_neg h2]
        exact h.apart i j hi hj hij b
end
/-- One sequence more, behind m bytes; 'none': it is none. -/
def stp (last : Bool) (m : Nat) (s : Sq) : Option Nat :=
  if 64 < m + s.ls.length then none
  else if s.n = 0 then (if s.d = 0 ∧ last = true ∧ 0 < s.ls.length then some (m + s.ls.length) else none)
  else if 3 ≤ s.n ∧ s.n ≤ 64 - ((m + s.ls.length : Nat) : Int) ∧ 1 ≤ s.d ∧ s.d ≤ ((m + s.ls.length : Nat) : Int) then some (m + s.ls.length + s.n.toNat)
  else none
/-- How many bytes there are behind k of them. -/
def sqc (ss : List Sq) : Nat → Option Nat
  | 0 => some 0
  | k + 1 => (sqc ss k).bind (fun m => stp (decide (k + 1 = ss.length)) m (ss.getD k dq))
def sqn (ss : List Sq) : Option Nat := if 40 < ss.length then none else sqc ss ss.length
theorem stp_le {last : Bool} {m : Nat} {s : Sq} {m' : Nat} (h : stp last m s = some m') : m' ≤ 64 := by
  unfold stp at h
  split at h
  · cases h
  · split at h
    · split at h
      · simp at h; omega
      · cases h
    · split at h
      · simp at h; omega
      · cases h
theorem sqc_le {ss : List Sq} {k m : Nat} (h : sqc ss k = some m) : m ≤ 64 := by
  cases k with
  | zero => simp [sqc] at h; omega
  | succ k =>
    simp only [sqc, Option.bind_eq_some_iff] at h
    obtain ⟨m0, _, h2⟩ := h
    exact stp_le h2
theorem sqc_none {ss : List Sq} {k : Nat} (h : sqc ss k = none) : ∀ j, k ≤ j → sqc ss j = none := by
  intro j hj
  induction j with
  | zero => obtain rfl : k = 0 := by omega
            exact h
  | succ j ih =>
    by_cases hk : k ≤ j
    · simp only [sqc, ih hk, Option.bind_none]
    · obtain rfl : k = j + 1 := by omega
      exact h
theorem sqc_step {ss : List Sq} {k m : Nat} (h : sqc ss k = some m) : sqc ss (k + 1) = stp (decide (k + 1 = ss.length)) m (ss.getD k dq) := by
  simp only [sqc, h, Option.bind_some]
theorem sqn_none {ss : List Sq} {k m : Nat} (h : sqc ss k = some m) (hk : k < ss.length) (hs : stp (decide (k + 1 = ss.length)) m (ss.getD k dq) = none) : sqn ss = none := by
  unfold sqn
  split
  · rfl
  · exact sqc_none ((sqc_step h).trans hs) _ hk
theorem sqn_some {ss : List Sq} {m : Nat} (h : sqc ss ss.length = some m) (hl : ss.length ≤ 40) : sqn ss = some m := by
  unfold sqn
  rw [if_neg (by omega)]
  exact h
theorem sqn_len {ss : List Sq} (h : 40 < ss.length) : sqn ss = none := by simp [sqn, h]
theorem sqc_ct {ss ts : List Sq} (h : ss.map Sq.ct = ts.map Sq.ct) (k : Nat) : sqc ss k = sqc ts k := by
  have hl : ss.length = ts.length := by have := congrArg List.length h; simpa using this
  induction k with
  | zero => rfl
  | succ k ih =>
    have hg : (ss.getD k dq).ct = (ts.getD k dq).ct := by
      have : (ss.map Sq.ct).getD k dq.ct = (ts.map Sq.ct).getD k dq.ct := by rw [h]
      simpa [List.getD_eq_getElem?_getD, List.getElem?_map, Option.getD_map] using this
    simp only [Sq.ct, Prod.mk.injEq] at hg
    simp only [sqc, ih, hl, stp, hg]
theorem sqn_ct {ss ts : List Sq} (h : ss.map Sq.ct = ts.map Sq.ct) : sqn ss = sqn ts := by
  have hl : ss.length = ts.length := by have := congrArg List.length h; simpa using this
  simp only [sqn, hl, sqc_ct h]
theorem stp_over {last : Bool} {m : Nat} {s : Sq} (h : 64 < m + s.ls.length) : stp last m s = none := by unfold stp; rw [if_pos h]
theorem stp_rest {last : Bool} {m : Nat} {s : Sq} (h : ¬ 64 < m + s.ls.length) (h0 : s.n = 0) : stp last m s = if s.d = 0 ∧ last = true ∧ 0 < s.ls.length then some (m + s.ls.length) else none := by unfold stp; rw [if_neg h, if_pos h0]
theorem stp_piece {last : Bool} {m : Nat} {s : Sq} (h : ¬ 64 < m + s.ls.length) (h0 : ¬ s.n = 0) : stp last m s = if 3 ≤ s.n ∧ s.n ≤ 64 - ((m + s.ls.length : Nat) : Int) ∧ 1 ≤ s.d ∧ s.d ≤ ((m + s.ls.length : Nat) : Int) then some (m + s.ls.length + s.n.toNat) else none := by unfold stp; rw [if_neg h, if_neg h0]

/-- How many letters there are in all. -/
def lets : List Sq → Nat
  | [] => 0
  | s :: ss => s.ls.length + lets ss
theorem lets_app (a b : List Sq) : lets (a ++ b) = lets a + lets b := by
  induction a with
  | nil => simp [lets]
  | cons s a ih => simp only [List.cons_append, lets, ih]; omega
theorem lets_take_succ (ss : List Sq) (k : Nat) (h : k < ss.length) : lets (ss.take (k + 1)) = lets (ss.take k) + (ss.getD k dq).ls.length := by
  rw [List.take_succ_eq_append_getElem h, lets_app]
  simp [lets, List.getD_eq_getElem?_getD, List.getElem?_eq_getElem h]
theorem lets_mem {s : Sq} {ss : List Sq} (h : s ∈ ss) : s.ls.length ≤ lets ss := by
  induction ss with
  | nil => cases h
  | cons x ss ih =>
    rcases List.mem_cons.1 h with rfl | h
    · simp only [lets]; omega
    · have := ih h; simp only [lets]; omega
theorem lets_ct (ss ts : List Sq) (h : ss.map Sq.ct = ts.map Sq.ct) : lets ss = lets ts := by
  induction ss generalizing ts with
  | nil => cases ts with
    | nil => rfl
    | cons t ts => simp at h
  | cons s ss ih => cases ts with
    | nil => simp at h
    | cons t ts =>
      simp only [List.map_cons, List.cons.injEq] at h
      have h1 : s.ls = t.ls := by have := congrArg Prod.fst h.1; exact this
      simp only [lets, h1, ih ts h.2]
/-- The class of a number from 1 on. -/
def cl (n : Nat) : Nat := bl n - 1
theorem cl_fact {n : Nat} (h1 : 1 ≤ n) (h : n < 256) : 2 ^ cl n ≤ n ∧ n < 2 ^ (cl n + 1) ∧ cl n ≤ 7 ∧ bl n = cl n + 1 := by
  have hb : 1 ≤ bl n := by unfold bl; rw [if_neg (by omega)]; omega
  have e : cl n + 1 = bl n := by unfold cl; omega
  refine ⟨bl_ge n (cl n) h (by unfold cl; omega), by rw [e]; exact bl_lt n h, by have := bl_le n h; unfold cl; omega, e.symm⟩
/-- Symbols, how many bits are beside, and these as a number. -/
abbrev SyT := List Int × Nat × Nat
def putL (st : SyT) (z : Int) : SyT := (st.1 ++ [z / 16], st.2.1 + 4, st.2.2 + (z % 16).toNat * 2 ^ st.2.1)
def putN (base n : Nat) (st : SyT) : SyT := (st.1 ++ [((base + cl n : Nat) : Int)], st.2.1 + cl n, st.2.2 + (n - 2 ^ cl n) * 2 ^ st.2.1)
def putLs (ls : List Int) (st : SyT) : SyT := ls.foldl putL st
def putQ (st : SyT) (s : Sq) : SyT := if s.n = 0 then putLs s.ls st else putN 28 s.d.toNat (putN 16 (s.n.toNat - 2) (putLs s.ls st))
def syOf (ss : List Sq) : SyT := ss.foldl putQ ([], 0, 0)
theorem putLs_take (ls : List Int) (st : SyT) (k : Nat) (h : k < ls.length) : putLs (ls.take (k + 1)) st = putL (putLs (ls.take k) st) (ls.getD k 0) := by
  unfold putLs
  rw [List.take_add_one, List.foldl_append, List.getD_eq_getElem?_getD, List.getElem?_eq_getElem h]
  rfl
theorem syOf_take (ss : List Sq) (k : Nat) (h : k < ss.length) : syOf (ss.take (k + 1)) = putQ (syOf (ss.take k)) (ss.getD k dq) := by
  unfold syOf
  rw [List.take_add_one, List.foldl_append, List.getD_eq_getElem?_getD, List.getElem?_eq_getElem h]
  rfl
theorem putLs_len (ls : List Int) (st : SyT) : (putLs ls st).1.length = st.1.length + ls.length ∧ (putLs ls st).2.1 = st.2.1 + 4 * ls.length := by
  unfold putLs
  induction ls generalizing st with
  | nil => simp
  | cons z t ih =>
    rw [List.foldl_cons]
    have := ih (putL st z)
    simp only [putL, List.length_append, List.length_cons, List.length_nil] at this ⊢
    omega
/-- Sequences that are right have few letters, and numbers that are in range. -/
theorem sqc_lets {ss : List Sq} (k m : Nat) (h : sqc ss k = some m) (hk : k ≤ ss.length) : lets (ss.take k) ≤ m ∧ ∀ j, j < k → (ss.getD j dq).n = 0 ∨ (3 ≤ (ss.getD j dq).n ∧ (ss.getD j dq).n ≤ 64 ∧ 1 ≤ (ss.getD j dq).d ∧ (ss.getD j dq).d ≤ 64) := by
  induction k generalizing m with
  | zero => exact ⟨by simp [lets], fun j hj => by omega⟩
  | succ k ih =>
    cases hm : sqc ss k with
    | none =>
      rw [sqc_none hm (k + 1) (by omega)] at h
      cases h
    | some m0 =>
      obtain ⟨i1, i2⟩ := ih m0 hm (by omega)
      rw [sqc_step hm] at h
      have hl := lets_take_succ ss k (by omega)
      by_cases ho : 64 < m0 + (ss.getD k dq).ls.length
      · rw [stp_over ho] at h
        cases h
      · by_cases h0 : (ss.getD k dq).n = 0
        · rw [stp_rest ho h0] at h
          split at h
          · simp only [Option.some.injEq] at h
            refine ⟨by omega, fun j hj => ?_⟩
            by_cases he : j = k
            · rw [he]; exact .inl h0
            · exact i2 j (by omega)
          · cases h
        · rw [stp_piece ho h0] at h
          split at h
          · rename_i hh
            simp only [Option.some.injEq] at h
            refine ⟨by omega, fun j hj => ?_⟩
            by_cases he : j = k
            · rw [he]; exact .inr (by omega)
            · exact i2 j (by omega)
          · cases h
theorem sqn_lets {ss : List Sq} (h : (sqn ss).isSome = true) : ss.length ≤ 40 ∧ lets ss ≤ 64 ∧ ∀ j, j < ss.length → (ss.getD j dq).n = 0 ∨ (3 ≤ (ss.getD j dq).n ∧ (ss.getD j dq).n ≤ 64 ∧ 1 ≤ (ss.getD j dq).d ∧ (ss.getD j dq).d ≤ 64) := by
  cases hs : sqn ss with
  | none => rw [hs] at h; cases h
  | some m =>
    unfold sqn at hs
    split at hs
    · cases hs
    · rename_i hl
      have := sqc_lets ss.length m hs (Nat.le_refl _)
      have hm := sqc_le hs
      rw [List.take_length] at this
      exact ⟨by omega, by omega, this.2⟩
theorem putQ_len (st : SyT) (s : Sq) (h : s.n = 0 ∨ (3 ≤ s.n ∧ s.n ≤ 64 ∧ 1 ≤ s.d ∧ s.d ≤ 64)) : (putQ st s).1.length ≤ st.1.length + s.ls.length + 2 ∧ (putQ st s).2.1 ≤ st.2.1 + 4 * s.ls.length + 14 := by
  have hp := putLs_len s.ls st
  unfold putQ
  split
  · omega
  · rename_i h0
    have hr := h.resolve_left h0
    have c1 := cl_fact (n := s.n.toNat - 2) (by omega) (by omega)
    have c2 := cl_fact (n := s.d.toNat) (by omega) (by omega)
    simp only [putN, List.length_append, List.length_cons, List.length_nil]
    omega
/-- How much there is. -/
theorem syOf_len {ss : List Sq} (h : ∀ j, j < ss.length → (ss.getD j dq).n = 0 ∨ (3 ≤ (ss.getD j dq).n ∧ (ss.getD j dq).n ≤ 64 ∧ 1 ≤ (ss.getD j dq).d ∧ (ss.getD j dq).d ≤ 64)) (k : Nat) (hk : k ≤ ss.length) : (syOf (ss.take k)).1.length ≤ lets (ss.take k) + 2 * k ∧ (syOf (ss.take k)).2.1 ≤ 4 * lets (ss.take k) + 14 * k := by
  induction k with
  | zero => simp [syOf, lets]
  | succ k ih =>
    have i := ih (by omega)
    have hl := lets_take_succ ss k (by omega)
    rw [syOf_take ss k (by omega)]
    have hq := putQ_len (syOf (ss.take k)) (ss.getD k dq) (h k (by omega))
    omega
theorem lets_take_le (ss : List Sq) (k : Nat) : lets (ss.take k) ≤ lets ss := by
  have h1 := lets_app (ss.take k) (ss.drop k)
  rw [List.take_append_drop] at h1
  omega
/-- What a sequence says, put behind. -/
def putC (st : SyT) (c : List Int × Int × Int) : SyT := if c.2.1 = 0 then putLs c.1 st else putN 28 c.2.2.toNat (putN 16 (c.2.1.toNat - 2) (putLs c.1 st))
theorem syOf_cs (ss : List Sq) : syOf ss = (ss.map Sq.ct).foldl putC ([], 0, 0) := by
  unfold syOf
  rw [List.foldl_map]
  rfl
theorem syOf_ct {ss ts : List Sq} (h : ts.map Sq.ct = ss.map Sq.ct) : syOf ts = syOf ss := by rw [syOf_cs, syOf_cs, h]
end Go.Proofs.YtojnomdlkihgmaaGreatDoor
