/-
  Packs as lists: which are right.
-/
import Derived.Test.YtjeippleimlljaaGreatDoorRp2
import Derived.Test.YtjeippleimlljaaGreatDoorDcD
namespace Go.Proofs.YtjeippleimlljaaGreatDoor
open Go.RowKit
set_option linter.unusedVariables false

/-- One of them, as it lies: a number, where its bytes are, the bytes. -/
structure El where
  n : Int
  a : Option Addr
  c : Nat
  ls : List Int
/-- What it says. -/
def El.ct (e : El) : Int × List Int := (e.n, e.ls)
def de : El := ⟨0, none, 0, []⟩
def eW (p : Bool) : Nat := cond p 2 1
def eO (p : Bool) : Nat := cond p 1 0
def El.cells (p : Bool) (e : El) : List Value := cond p [.int .i64 e.n, .slice e.a e.ls.length e.c] [.slice e.a e.ls.length e.c]
/-- Its number is an int, and 0 where there is none. -/
structure rE (p : Bool) (e : El) : Prop where
  lo : -9223372036854775808 ≤ e.n
  hi : e.n ≤ 9223372036854775807
  len : e.ls.length ≤ maxLen
  zero : p = false → e.n = 0

/-- It lies at an offset of a block. -/
structure LieE (p : Bool) (w : World) (b o : Nat) (e : El) : Prop where
  c0 : p = true → w.cell? ⟨b, o, none⟩ = some (.int .i64 e.n)
  c1 : w.cell? ⟨b, o + eO p, none⟩ = some (.slice e.a e.ls.length e.c)

/-- A slice value that starts at 'a' and has as many elements as 'es' reads as 'es'. -/
def Els (p : Bool) (w : World) (a : Option Addr) (es : List El) : Prop :=
  (∀ e ∈ es, rE p e ∧ Byt w e.a e.ls) ∧ (0 < es.length → ∃ b off, a = some ⟨b, off, none⟩ ∧ b < w.heap.size ∧ ∀ i, i < es.length → LieE p w b (off + i * eW p) (es.getD i de))

theorem getD_memE {es : List El} {k : Nat} (hk : k < es.length) : es.getD k de ∈ es := by
  rw [List.getD_eq_getElem?_getD, List.getElem?_eq_getElem hk]; exact List.getElem_mem hk
theorem memE_get {es : List El} {t : El} (h : t ∈ es) : ∃ i, i < es.length ∧ es.getD i de = t := by
  obtain ⟨i, hi, rfl⟩ := List.mem_iff_getElem.1 h
  exact ⟨i, hi, by rw [List.getD_eq_getElem?_getD, List.getElem?_eq_getElem hi]; rfl⟩
theorem ctE_get {ss ts : List El} (h : ss.map El.ct = ts.map El.ct) (k : Nat) : (ss.getD k de).ct = (ts.getD k de).ct := by
  have : (ss.map El.ct).getD k de.ct = (ts.map El.ct).getD k de.ct := by rw [h]
  simpa [List.getD_eq_getElem?_getD, List.getElem?_map, Option.getD_map] using this
theorem len_ctE {ss ts : List El} (h : ts.map El.ct = ss.map El.ct) : ts.length = ss.length := by have := congrArg List.length h; simpa using this
theorem LieE.below {p : Bool} {w w' : World} {b o : Nat} {e : El} {B : Nat} (h : LieE p w b o e) (hb : Below B w w') (hB : b < B) : LieE p w' b o e :=
  ⟨fun hp => keep hb hB (h.c0 hp), keep hb hB h.c1⟩
theorem Els.below {p : Bool} {w w' : World} {a : Option Addr} {es : List El} {B : Nat} (h : Els p w a es) (hb : Below B w w') (hB : w.heap.size ≤ B) : Els p w' a es := by
  refine ⟨fun e he => ⟨(h.1 e he).1, (h.1 e he).2.below hb hB⟩, fun hz => ?_⟩
  obtain ⟨b, off, rfl, hlt, hc⟩ := h.2 hz
  exact ⟨b, off, rfl, Nat.lt_of_lt_of_le hlt hb.size, fun i hi => (hc i hi).below hb (by omega)⟩
theorem Els.pos {p : Bool} {w : World} {a : Option Addr} {es : List El} (h : Els p w a es) (i : Nat) (hi : i < es.length) : ∃ b off, a = some ⟨b, off, none⟩ ∧ b < w.heap.size ∧ ∀ i, i < es.length → LieE p w b (off + i * eW p) (es.getD i de) := h.2 (by omega)
theorem Els.at {p : Bool} {w : World} {a : Option Addr} {es : List El} (h : Els p w a es) (k : Nat) (hk : k < es.length) : rE p (es.getD k de) ∧ Byt w (es.getD k de).a (es.getD k de).ls := h.1 _ (getD_memE hk)
/-- A sector, as the walks want it. -/
theorem Els.sec {w : World} {a : Option Addr} {es : List El} (h : Els false w a es) (k : Nat) (hk : k < es.length) : ∃ b off, a = some ⟨b, off, none⟩ ∧ b < w.heap.size ∧ w.cell? ⟨b, off + k, none⟩ = some (.slice (es.getD k de).a (es.getD k de).ls.length (es.getD k de).c) ∧ Byt w (es.getD k de).a (es.getD k de).ls ∧ rE false (es.getD k de) := by
  obtain ⟨b, off, rfl, hb, hc⟩ := h.pos k hk
  have h1 := (hc k hk).c1
  simp only [eW, eO, cond_false, Nat.mul_one, Nat.add_zero] at h1
  exact ⟨b, off, rfl, hb, h1, (h.at k hk).2, (h.at k hk).1⟩
/-- What waits, as the walks want it. -/
theorem Els.pen {w : World} {a : Option Addr} {es : List El} (h : Els true w a es) (k : Nat) (hk : k < es.length) : ∃ b off, a = some ⟨b, off, none⟩ ∧ b < w.heap.size ∧ w.cell? ⟨b, off + k * 2, none⟩ = some (.int .i64 (es.getD k de).n) ∧ w.cell? ⟨b, off + k * 2 + 1, none⟩ = some (.slice (es.getD k de).a (es.getD k de).ls.length (es.getD k de).c) ∧ Byt w (es.getD k de).a (es.getD k de).ls ∧ rE true (es.getD k de) := by
  obtain ⟨b, off, rfl, hb, hc⟩ := h.pos k hk
  have h0 := (hc k hk).c0 rfl
  have h1 := (hc k hk).c1
  simp only [eW, eO, cond_true] at h0 h1
  exact ⟨b, off, rfl, hb, h0, h1, (h.at k hk).2, (h.at k hk).1⟩

/-! Rows of the call's own -/
theorem cells_lenE (p : Bool) (e : El) : (e.cells p).length = eW p := by cases p <;> rfl
theorem eflat_len (p : Bool) (es : List El) : (es.flatMap (El.cells p)).length = es.length * eW p := by
  induction es with
  | nil => simp
  | cons s es ih => rw [List.flatMap_cons, List.length_append, ih, List.length_cons, cells_lenE, Nat.add_mul, Nat.one_mul, Nat.add_comm]
theorem eflat_get (p : Bool) (es : List El) : ∀ k, k < es.length → ∀ j, j < eW p → (es.flatMap (El.cells p))[k * eW p + j]? = ((es.getD k de).cells p)[j]? := by
  induction es with
  | nil => intro k hk; simp at hk
  | cons s es ih =>
    intro k hk j hj
    rw [List.flatMap_cons]
    cases k with
    | zero =>
      rw [Nat.zero_mul, Nat.zero_add, List.getElem?_append_left (by rw [cells_lenE]; exact hj)]
      rfl
    | succ k =>
      rw [List.getElem?_append_right (by rw [cells_lenE, Nat.add_mul]; omega), cells_lenE, show (k + 1) * eW p + j - eW p = k * eW p + j from by rw [Nat.add_mul]; omega, ih k (by simpa using hk) j hj]
      rfl
theorem eflat_set (p : Bool) (es : List El) (e : El) (j : Nat) (hj : j < eW p) (v : Value) : ∀ k, k < es.length → ((es.getD k de).cells p).set j v = e.cells p → (es.flatMap (El.cells p)).set (k * eW p + j) v = (es.set k e).flatMap (El.cells p) := by
  induction es with
  | nil => intro k hk; simp at hk
  | cons s es ih =>
    intro k hk he
    rw [List.flatMap_cons]
    cases k with
    | zero =>
      rw [Nat.zero_mul, Nat.zero_add, List.set_append_left _ _ (by rw [cells_lenE]; exact hj), List.set_cons_zero, List.flatMap_cons, ← he]
      rfl
    | succ k =>
      rw [List.set_append_right _ _ (by rw [cells_lenE, Nat.add_mul]; omega), cells_lenE, show (k + 1) * eW p + j - eW p = k * eW p + j from by rw [Nat.add_mul]; omega, ih k (by simpa using hk) he, List.set_cons_succ, List.flatMap_cons]

/-- The bytes of all of them are the call's own, each in a block of its own. -/
structure Deep (w : World) (B : Nat) (es : List El) : Prop where
  mine : ∀ e ∈ es, Mine w B w.heap.size e.a e.c e.ls
  apart : (es.map El.a).Pairwise (fun x y => ∀ k, rowOf x k → ¬ rowOf y k)

section
variable {w w' : World} {B : Nat} {es : List El}
theorem Deep.nil (w : World) (B : Nat) : Deep w B [] := ⟨by simp, by simp⟩
theorem Mine.rowE {a : Option Addr} {U c k : Nat} {zs : List Int} (h : Mine w B U a c zs) (hr : rowOf a k) : B ≤ k ∧ k < U := by
  obtain ⟨x, hx, rfl⟩ := hr
  rcases h with ⟨h', _⟩ | ⟨g, h', g1, g2, _⟩
  · rw [h'] at hx; cases hx
  · rw [h'] at hx
    simp at hx
    rw [← hx]
    exact ⟨g1, g2⟩
theorem Mine.stay {S : Nat → Prop} {a : Option Addr} {U c : Nat} {zs : List Int} (h : Mine w B U a c zs) (ho : Only S w w') (hs : ∀ k, rowOf a k → ¬ S k) : Mine w' B U a c zs := by
  rcases h with h | ⟨g, rfl, h1, h2, h⟩
  · exact .inl h
  · exact .inr ⟨g, rfl, h1, h2, h.only ho (hs g ⟨_, rfl, rfl⟩)⟩
theorem Deep.stay {S : Nat → Prop} (h : Deep w B es) (ho : Only S w w') (hs : ∀ e ∈ es, ∀ k, rowOf e.a k → ¬ S k) : Deep w' B es :=
  ⟨fun e he => ((h.mine e he).stay ho (hs e he)).mono (Nat.le_refl _) ho.size, h.apart⟩
theorem Deep.below (h : Deep w B es) (hb : Below w.heap.size w w') : Deep w' B es := h.stay (Only.ofBelow (S := fun _ => False) hb (Nat.le_refl _)) (by simp)
theorem Deep.weak {B' : Nat} (h : Deep w B es) (hB : B' ≤ B) : Deep w B' es := ⟨fun e he => (h.mine e he).mono hB (Nat.le_refl _), h.apart⟩
theorem Deep.byt (h : Deep w B es) : ∀ e ∈ es, Byt w e.a e.ls := fun e he => (h.mine e he).byt
/-- One more, that was made last. -/
theorem Deep.snoc {U : Nat} {e : El} (h : Deep w B es) (hm : Mine w U w.heap.size e.a e.c e.ls) (hU : ∀ x ∈ es, ∀ k, rowOf x.a k → k < U) (hB : B ≤ U) : Deep w B (es ++ [e]) := by
  refine ⟨?_, ?_⟩
  · intro x hx
    rcases List.mem_append.1 hx with hx | hx
    · exact h.mine x hx
    · simp at hx
      subst hx
      exact hm.mono hB (Nat.le_refl _)
  · rw [List.map_append, List.pairwise_append]
    refine ⟨h.apart, by simp, ?_⟩
    intro x hx y hy k hk hk2
    simp at hy
    subst hy
    obtain ⟨z, hz, rfl⟩ := List.mem_map.1 hx
    have h1 := hU z hz k hk
    have h2 := (hm.rowE hk2).1
    omega
end
end Go.Proofs.YtjeippleimlljaaGreatDoor
namespace Go.Proofs.YtjeippleimlljaaGreatDoor
open Go.RowKit
set_option linter.unusedVariables false

theorem getD_replE (n k : Nat) : (List.replicate n de).getD k de = de := by
  rw [List.getD_eq_getElem?_getD, List.getElem?_replicate]; split <;> rfl
theorem made_secs (n : Nat) : (madeCells (Value.slice none 0 0).cells (n * 1)).toList = (List.replicate n de).flatMap (El.cells false) := by
  apply List.ext_getElem?
  intro i
  by_cases hi : i < n * 1
  · have e := eflat_get false (List.replicate n de) i (by simp; omega) 0 (by simp [eW])
    rw [getD_replE] at e
    simp only [eW, cond_false, Nat.mul_one, Nat.add_zero] at e
    rw [e]
    simp only [madeCells, Array.toList_map, Array.toList_range, List.getElem?_map, List.getElem?_range hi, Option.map_some]
    simp [Value.cells, de, El.cells, Nat.mod_one]
  · rw [List.getElem?_eq_none (by simp [madeCells]; omega), List.getElem?_eq_none (by rw [eflat_len]; simp [eW]; omega)]
theorem made_pens (n : Nat) : (madeCells (Value.agg #[.int .i64 0, .slice none 0 0]).cells (n * 2)).toList = (List.replicate n de).flatMap (El.cells true) := by
  apply List.ext_getElem?
  intro i
  by_cases hi : i < n * 2
  · have e := eflat_get true (List.replicate n de) (i / 2) (by simp; omega) (i % 2) (by simp [eW]; omega)
    rw [getD_replE] at e
    simp only [eW, cond_true] at e
    rw [show i / 2 * 2 + i % 2 = i from by omega] at e
    rw [e]
    simp only [madeCells, Array.toList_map, Array.toList_range, List.getElem?_map, List.getElem?_range hi, Option.map_some]
    have h2 : i % 2 = 0 ∨ i % 2 = 1 := by omega
    rcases h2 with h2 | h2 <;> simp [Value.cells, de, El.cells, h2]
  · rw [List.getElem?_eq_none (by simp [madeCells]; omega), List.getElem?_eq_none (by rw [eflat_len]; simp [eW]; omega)]

theorem getD_app_replE (bs : List El) (m i : Nat) (h : bs.length ≤ i) : (bs ++ List.replicate m de).getD i de = de := by
  rw [List.getD_eq_getElem?_getD, List.getElem?_append_right h, List.getElem?_replicate]; split <;> rfl
theorem set_app_replE (bs : List El) (m k : Nat) (s : El) (h : bs.length = k) (hk : 0 < m) : (bs ++ List.replicate m de).set k s = (bs ++ [s]) ++ List.replicate (m - 1) de := by
  rw [List.set_append_right _ _ (by omega), h, Nat.sub_self, show m = (m - 1) + 1 from by omega, List.replicate_succ, List.set_cons_zero, List.append_assoc]
  rfl
theorem ctE_take_succ (ss : List El) (k : Nat) (h : k < ss.length) : (ss.take (k + 1)).map El.ct = (ss.take k).map El.ct ++ [(ss.getD k de).ct] := by
  rw [List.take_succ_eq_append_getElem h, List.map_append]
  simp [List.getD_eq_getElem?_getD, List.getElem?_eq_getElem h]
theorem rE_snoc {p : Bool} {bs : List El} {e : El} (h : ∀ x ∈ bs, rE p x) (he : rE p e) : ∀ x ∈ bs ++ [e], rE p x := by
  intro x hx
  rcases List.mem_append.1 hx with hx | hx
  · exact h x hx
  · simp at hx; subst hx; exact he
theorem Deep.lt {w : World} {B : Nat} {es : List El} (h : Deep w B es) : ∀ x ∈ es, ∀ k, rowOf x.a k → k < w.heap.size := fun x hx k hk => ((h.mine x hx).rowE hk).2

theorem Deep.app {w : World} {B U : Nat} {es fs : List El} (h : Deep w B es) (h2 : Deep w U fs) (hU : ∀ x ∈ es, ∀ k, rowOf x.a k → k < U) (hB : B ≤ U) : Deep w B (es ++ fs) := by
  refine ⟨?_, ?_⟩
  · intro x hx
    rcases List.mem_append.1 hx with hx | hx
    · exact h.mine x hx
    · exact (h2.mine x hx).mono hB (Nat.le_refl _)
  · rw [List.map_append, List.pairwise_append]
    refine ⟨h.apart, h2.apart, ?_⟩
    intro x hx y hy k hk hk2
    obtain ⟨z, hz, rfl⟩ := List.mem_map.1 hx
    obtain ⟨z2, hz2, rfl⟩ := List.mem_map.1 hy
    have h3 := hU z hz k hk
    have h4 := ((h2.mine z2 hz2).rowE hk2).1
    omega

/-- How many bytes there are in all. -/
def elets : List El → Nat
  | [] => 0
  | s :: ss => s.ls.length + elets ss
theorem elets_app (a b : List El) : elets (a ++ b) = elets a + elets b := by
  induction a with
  | nil => simp [elets]
  | cons s a ih => simp only [List.cons_append, elets, ih]; omega
theorem elets_take_succ (ss : List El) (k : Nat) (h : k < ss.length) : elets (ss.take (k + 1)) = elets (ss.take k) + (ss.getD k de).ls.length := by
  rw [List.take_succ_eq_append_getElem h, elets_app]
  simp [elets, List.getD_eq_getElem?_getD, List.getElem?_eq_getElem h]
theorem elets_take_le (ss : List El) (k : Nat) : elets (ss.take k) ≤ elets ss := by
  have h1 := elets_app (ss.take k) (ss.drop k)
  rw [List.take_append_drop] at h1
  omega
theorem elets_mem {s : El} {ss : List El} (h : s ∈ ss) : s.ls.length ≤ elets ss := by
  induction ss with
  | nil => cases h
  | cons x ss ih =>
    rcases List.mem_cons.1 h with rfl | h
    · simp only [elets]; omega
    · have := ih h; simp only [elets]; omega
theorem elets_ct (ss ts : List El) (h : ss.map El.ct = ts.map El.ct) : elets ss = elets ts := by
  induction ss generalizing ts with
  | nil => cases ts with
    | nil => rfl
    | cons t ts => simp at h
  | cons s ss ih => cases ts with
    | nil => simp at h
    | cons t ts =>
      simp only [List.map_cons, List.cons.injEq] at h
      have h1 : s.ls = t.ls := by have := congrArg Prod.snd h.1; exact this
      simp only [elets, h1, ih ts h.2]
end Go.Proofs.YtjeippleimlljaaGreatDoor
namespace Go.Proofs.YtjeippleimlljaaGreatDoor
open Go.RowKit
set_option linter.unusedVariables false

/-- A slice value (nil, or a row of the call's own from block B on) that has es; their bytes may lie anywhere. -/
structure OVt (w : World) (B : Nat) (v : Value) (es : List El) : Prop where
  own : w.ownsRow B 36 (eW true) v es.length (es.flatMap (El.cells true))
section
variable {w w' : World} {B : Nat} {v : Value} {es : List El}
theorem OVt.nil (w : World) (B : Nat) : OVt w B (.slice none 0 0) [] := ⟨⟨by simp, .inl ⟨rfl, rfl⟩⟩⟩
theorem OVt.form (h : OVt w B v es) : ∃ (a : Option Addr) (c : Nat), v = .slice a es.length c := by
  rcases h.own.2 with ⟨rfl, h0⟩ | ⟨g, cap, cur, rfl, _⟩
  · exact ⟨none, 0, by rw [h0]⟩
  · exact ⟨_, _, rfl⟩
theorem OVt.blk (h : OVt w B v es) {k : Nat} (hk : v.ownBlock = some k) : B ≤ k ∧ k < w.heap.size := by
  rcases h.own.2 with ⟨rfl, h0⟩ | ⟨g, cap, cur, rfl, hg, hh, _⟩
  · simp [Value.ownBlock] at hk
  · simp [Value.ownBlock] at hk
    subst hk
    exact ⟨hg, (Array.getElem?_eq_some_iff.1 hh).1⟩
theorem OVt.stay {S : Nat → Prop} (h : OVt w B v es) (ho : Only S w w') (hs : ∀ k, v.ownBlock = some k → ¬ S k) : OVt w' B v es := by
  refine ⟨⟨h.own.1, ?_⟩⟩
  rcases h.own.2 with h' | ⟨g, cap, cur, rfl, hg, hh, r⟩
  · exact .inl h'
  · exact .inr ⟨g, cap, cur, rfl, hg, (ho.block g (Array.getElem?_eq_some_iff.1 hh).1 (hs g rfl)).trans hh, r⟩
theorem OVt.below (h : OVt w B v es) (hb : Below w.heap.size w w') : OVt w' B v es := h.stay (Only.ofBelow (S := fun _ => False) hb (Nat.le_refl _)) (by simp)
theorem OVt.weak {B' : Nat} (h : OVt w B v es) (hB : B' ≤ B) : OVt w B' v es := by
  refine ⟨⟨h.own.1, ?_⟩⟩
  rcases h.own.2 with h' | ⟨g, cap, cur, h', hg, r⟩
  · exact .inl h'
  · exact .inr ⟨g, cap, cur, h', by omega, r⟩
theorem OVt.cell (h : OVt w B v es) (k : Nat) (hk : k < es.length) : ∃ g cap, v = .slice (some ⟨g, 0, none⟩) es.length cap ∧ B ≤ g ∧ g < w.heap.size ∧ (∀ i, w.frozen? ⟨g, i, none⟩ = false) ∧ ∀ i, i < es.length → LieE true w g (i * eW true) (es.getD i de) := by
  rcases h.own.2 with ⟨_, h0⟩ | ⟨g, cap, cur, rfl, hg, hh, r⟩
  · omega
  · refine ⟨g, cap, rfl, hg, (Array.getElem?_eq_some_iff.1 hh).1, fun i => h.own.frozenAt i, fun i hi => ?_⟩
    have hp : i * eW true + eW true ≤ es.length * eW true := by rw [show i * eW true + eW true = (i + 1) * eW true from by rw [Nat.add_mul, Nat.one_mul]]; exact Nat.mul_le_mul_right _ hi
    refine ⟨fun hp1 => ?_, ?_⟩
    · have e0 := eflat_get true es i hi 0 (by simp [eW])
      rw [Nat.add_zero] at e0
      rw [h.own.cellAt (i * eW true) (by simp [eW] at hp ⊢; omega), e0]
      rfl
    · rw [h.own.cellAt (i * eW true + eO true) (by simp [eW, eO] at hp ⊢; omega), eflat_get true es i hi (eO true) (by simp [eW, eO])]
      rfl
theorem OVt.els {a : Option Addr} {n c : Nat} (h : OVt w B (.slice a n c) es) (hr : ∀ e ∈ es, rE true e ∧ Byt w e.a e.ls) : Els true w a es := by
  refine ⟨hr, fun hz => ?_⟩
  obtain ⟨g, cap, e, h1, h2, _, h4⟩ := h.cell 0 hz
  simp at e
  obtain ⟨rfl, rfl, rfl⟩ := e
  exact ⟨g, 0, rfl, h2, fun i hi => by rw [Nat.zero_add]; exact h4 i hi⟩
/-- One cell of it is written. -/
theorem OVt.store (h : OVt w B v es) (k : Nat) (hk : k < es.length) (e : El) (j : Nat) (hj : j < eW true) (u : Value) (he : ((es.getD k de).cells true).set j u = e.cells true) {g : Nat} (hg : v.ownBlock = some g) : OVt (w.setCell ⟨g, k * eW true + j, none⟩ u) B v (es.set k e) := by
  obtain ⟨a, c, rfl⟩ := h.form
  have hv : ∃ g', a = some ⟨g', 0, none⟩ := by
    obtain ⟨g', cap, e, _⟩ := h.cell k hk
    simp at e
    exact ⟨g', e.1⟩
  obtain ⟨g', rfl⟩ := hv
  obtain rfl : g' = g := by simpa [Value.ownBlock] using hg
  have r := (h.own.stored (k * eW true + j) u).1
  rw [eflat_set true es e j hj u k hk he] at r
  exact ⟨by rw [List.length_set]; exact r⟩
/-- Bytes lie in another block than a row of them. -/
theorem OVt.other (h : OVt w B v es) {a : Option Addr} {B' U c : Nat} {zs : List Int} (hm : Mine w B' U a c zs) {g : Nat} (hg : v.ownBlock = some g) : ¬ rowOf a g := by
  rintro ⟨x, hx, hxg⟩
  rcases hm with ⟨h', _⟩ | ⟨g', h', g1, g2, ho⟩
  · rw [h'] at hx; cases hx
  · rw [h'] at hx
    simp at hx
    rw [← hx] at hxg
    simp at hxg
    subst hxg
    rcases ho.1.2 with ⟨e, _⟩ | ⟨k, cap1, cur1, e, _, hh, _⟩
    · simp at e
    · obtain rfl : g' = k := by simp at e; exact e.1
      rcases h.own.2 with ⟨e2, _⟩ | ⟨k2, cap2, cur2, e2, _, hh2, _⟩
      · subst e2; simp [Value.ownBlock] at hg
      · subst e2
        obtain rfl : k2 = g' := by simpa [Value.ownBlock] using hg
        rw [hh] at hh2
        simp at hh2
end
end Go.Proofs.YtjeippleimlljaaGreatDoor
namespace Go.Proofs.YtjeippleimlljaaGreatDoor
open Go.RowKit
set_option linter.unusedVariables false

theorem Tryz.infoItem : (Tryz.prog.info? 36).map (fun i => (i.zero, i.size, i.bytes)) = some (some (.agg #[.int .i64 0, .slice none 0 0]), 2, 32) := by kernel_rfl

/-- Copies: a row of the call's own, whose lists are its own, too. -/
structure CopT (w : World) (B : Nat) (v : Value) (ts ss : List El) : Prop where
  ct : ts.map El.ct = ss.map El.ct
  row : OVt w B v ts
  deep : Deep w B ts
  rng : ∀ e ∈ ts, rE true e
theorem CopT.stay {S : Nat → Prop} {w w' : World} {B : Nat} {v : Value} {ts ss : List El} (h : CopT w B v ts ss) (ho : Only S w w') (hs : ∀ k, B ≤ k → ¬ S k) : CopT w' B v ts ss :=
  ⟨h.ct, h.row.stay ho (fun k hk => hs k (h.row.blk hk).1), h.deep.stay ho (fun e he k hk => hs k ((h.deep.mine e he).rowE hk).1), h.rng⟩
theorem CopT.below {w w' : World} {B : Nat} {v : Value} {ts ss : List El} (h : CopT w B v ts ss) (hb : Below w.heap.size w w') : CopT w' B v ts ss := ⟨h.ct, h.row.below hb, h.deep.below hb, h.rng⟩
theorem CopT.weak {w : World} {B B' : Nat} {v : Value} {ts ss : List El} (h : CopT w B v ts ss) (hB : B' ≤ B) : CopT w B' v ts ss := ⟨h.ct, h.row.weak hB, h.deep.weak hB, h.rng⟩
theorem Mine.capM {w : World} {B U : Nat} {a : Option Addr} {c : Nat} {zs : List Int} (h : Mine w B U a c zs) : zs.length ≤ c := by
  rcases h with ⟨-, rfl, rfl⟩ | ⟨g, -, -, -, h⟩
  · simp
  · rcases h.1.2 with ⟨e, _⟩ | ⟨g', cap', cur, e, -, -, r, -⟩
    · simp at e
    · simp at e
      omega
/-- Items that can be read: each one's room is enough. -/
structure ItI (w : World) (a : Option Addr) (es : List El) : Prop where
  els : Els true w a es
  cap : ∀ e ∈ es, e.ls.length ≤ e.c
theorem ItI.below {w w' : World} {a : Option Addr} {es : List El} {B : Nat} (h : ItI w a es) (hb : Below B w w') (hB : w.heap.size ≤ B) : ItI w' a es := ⟨h.els.below hb hB, h.cap⟩
theorem CopT.its {w : World} {B n c : Nat} {a : Option Addr} {ts ss : List El} (h : CopT w B (.slice a n c) ts ss) : ItI w a ts :=
  ⟨h.row.els (fun e he => ⟨h.rng e he, h.deep.byt e he⟩), fun e he => (h.deep.mine e he).capM⟩

/-- A block of three cells: a variable of a pack, as it lasts. -/
structure Box3 (W : World) (b : Nat) (x y z : Value) : Prop where
  c0 : W.cell? ⟨b, 0, none⟩ = some x
  c1 : W.cell? ⟨b, 1, none⟩ = some y
  c2 : W.cell? ⟨b, 2, none⟩ = some z
  f0 : W.frozen? ⟨b, 0, none⟩ = false
  f1 : W.frozen? ⟨b, 1, none⟩ = false
  f2 : W.frozen? ⟨b, 2, none⟩ = false
  lt : b < W.heap.size
theorem Box3.new (w : World) (x y z : Value) (T : TypeId) : Box3 (w.alloc (Obj.cells #[x, y, z] T)) w.heap.size x y z := ⟨by simp, by simp, by simp, by simp, by simp, by simp, by simp⟩
theorem Box3.keep {W W' : World} {b B : Nat} {x y z : Value} (h : Box3 W b x y z) (hb : Below B W W') (hB : b < B) : Box3 W' b x y z :=
  ⟨Go.Proofs.YtjeippleimlljaaGreatDoor.keep hb hB h.c0, Go.Proofs.YtjeippleimlljaaGreatDoor.keep hb hB h.c1, Go.Proofs.YtjeippleimlljaaGreatDoor.keep hb hB h.c2, (hb.frozen (p := ⟨b, 0, none⟩) hB).trans h.f0, (hb.frozen (p := ⟨b, 1, none⟩) hB).trans h.f1, (hb.frozen (p := ⟨b, 2, none⟩) hB).trans h.f2, Nat.lt_of_lt_of_le h.lt hb.size⟩
theorem Box3.step {W W' : World} {b : Nat} {x y z : Value} (h : Box3 W b x y z) (hb : Below W.heap.size W W') : Box3 W' b x y z := h.keep hb h.lt
theorem Box3.alloc {W : World} {b : Nat} {x y z : Value} (h : Box3 W b x y z) (o : Obj) : Box3 (W.alloc o) b x y z := h.keep ((Below.refl W.heap.size W).alloc (Nat.le_refl _) o) h.lt
end Go.Proofs.YtjeippleimlljaaGreatDoor
namespace Go.Proofs.YtjeippleimlljaaGreatDoor
open Go.RowKit
set_option linter.unusedVariables false

/-- f tells of bytes what Decode tells. -/
def DecF (f : List Int → Option (List Int)) : Prop := ∀ ls : List Int, ls.length ≤ 1048576 → (∀ z ∈ ls, 0 ≤ z ∧ z ≤ 255) → DecW ls (f ls)
theorem decF_ex : ∃ f, DecF f := by
  have h : ∀ ls : List Int, ∃ Y, (ls.length ≤ 1048576 ∧ ∀ z ∈ ls, 0 ≤ z ∧ z ≤ 255) → DecW ls Y := by
    intro ls
    by_cases hg : ls.length ≤ 1048576 ∧ ∀ z ∈ ls, 0 ≤ z ∧ z ≤ 255
    · obtain ⟨Y, hY⟩ := decW ls hg.1 hg.2
      exact ⟨Y, fun _ => hY⟩
    · exact ⟨none, fun h => absurd h hg⟩
  obtain ⟨f, hf⟩ := Classical.skolem.1 h
  exact ⟨f, fun ls h1 h2 => hf ls ⟨h1, h2⟩⟩

/-- What is asked of items that are not too many. -/
structure FewJ (es : List El) : Prop where
  n : es.length ≤ 1048576
  l : ∀ s ∈ es, s.ls.length ≤ 1048576
  s : elets es ≤ 1048576

/-- A right item. -/
def itOk (f : List Int → Option (List Int)) (e : El) : Prop := (0 ≤ e.n ∧ e.n < 16) ∧ (e.ls = [] ∨ (f e.ls).isSome = true)
/-- The first k are right, and no two are of one address. -/
def apT (f : List Int → Option (List Int)) (es : List El) (k : Nat) : Prop := ∀ i, i < k → itOk f (es.getD i de) ∧ ∀ j, j < i → (es.getD j de).n ≠ (es.getD i de).n
/-- How long the pack is. -/
def szP (es : List El) : Nat := 6 + 2 * es.length + elets es
/-- A right pack. -/
structure PkR (f : List Int → Option (List Int)) (E O : Int) (es : List El) : Prop where
  e0 : 0 ≤ E
  e1 : E ≤ 60000
  o0 : 0 ≤ O
  o1 : O ≤ 60000
  n : es.length ≤ 16
  ap : apT f es es.length
  sz : szP es ≤ 256

theorem apT_succ {f : List Int → Option (List Int)} {es : List El} {k : Nat} (h : apT f es k) (h1 : itOk f (es.getD k de)) (h2 : ∀ j, j < k → (es.getD j de).n ≠ (es.getD k de).n) : apT f es (k + 1) := by
  intro i hi
  by_cases e : i = k
  · subst e; exact ⟨h1, h2⟩
  · exact h i (by omega)
theorem apT_zero (f : List Int → Option (List Int)) (es : List El) : apT f es 0 := fun i hi => by omega
theorem itOk_ct {f : List Int → Option (List Int)} {e e' : El} (h : e.ct = e'.ct) : itOk f e ↔ itOk f e' := by
  obtain ⟨n, a, c, ls⟩ := e
  obtain ⟨n', a', c', ls'⟩ := e'
  simp only [El.ct, Prod.mk.injEq] at h
  obtain ⟨rfl, rfl⟩ := h
  exact Iff.rfl
theorem n_ct {es ts : List El} (h : es.map El.ct = ts.map El.ct) (k : Nat) : (es.getD k de).n = (ts.getD k de).n := by
  have := congrArg Prod.fst (ctE_get h k)
  exact this
theorem apT_ct {f : List Int → Option (List Int)} {es ts : List El} (h : es.map El.ct = ts.map El.ct) (k : Nat) (ha : apT f es k) : apT f ts k := by
  intro i hi
  obtain ⟨h1, h2⟩ := ha i hi
  refine ⟨(itOk_ct (ctE_get h i)).1 h1, fun j hj => ?_⟩
  rw [← n_ct h j, ← n_ct h i]
  exact h2 j hj
theorem PkR.ct {f : List Int → Option (List Int)} {E O : Int} {es ts : List El} (h : es.map El.ct = ts.map El.ct) (hp : PkR f E O es) : PkR f E O ts := by
  have hl := len_ctE h
  refine ⟨hp.e0, hp.e1, hp.o0, hp.o1, by rw [← hl]; exact hp.n, by rw [← hl]; exact apT_ct h _ hp.ap, ?_⟩
  have := hp.sz
  unfold szP at *
  rw [← hl, ← elets_ct es ts h]
  exact this
/-- Right items are short. -/
theorem apT_short {f : List Int → Option (List Int)} (hf : DecF f) {es : List El} {k : Nat} (ha : apT f es k) (hk : k ≤ es.length) (hl : ∀ e ∈ es, e.ls.length ≤ 1048576) (hr : ∀ e ∈ es, ∀ z ∈ e.ls, 0 ≤ z ∧ z ≤ 255) : ∀ i, i < k → (es.getD i de).ls.length ≤ 65 := by
  intro i hi
  have hm := getD_memE (es := es) (k := i) (by omega)
  rcases (ha i hi).1.2 with h | h
  · rw [h]; simp
  · obtain ⟨bs, hbs⟩ := Option.isSome_iff_exists.1 h
    exact ((hf _ (hl _ hm) (hr _ hm)).1 bs hbs).2.2
end Go.Proofs.YtjeippleimlljaaGreatDoor
