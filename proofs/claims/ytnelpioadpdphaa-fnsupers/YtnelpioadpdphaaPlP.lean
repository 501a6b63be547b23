/-
  Words about rows of places: a sector, an index.
-/
import Derived.Test.YtnelpioadpdphaaIBase
namespace Go.Proofs.Ytnelpioadpdphaa
open Go.RowKit
set_option linter.unusedVariables false

def dp : Int × Int := (0, 0)
def rP (p : Int × Int) : Prop := (-9223372036854775808 ≤ p.1 ∧ p.1 ≤ 9223372036854775807) ∧ (-9223372036854775808 ≤ p.2 ∧ p.2 ≤ 9223372036854775807)
def pcs (p : Int × Int) : List Value := [.int .i64 p.1, .int .i64 p.2]

/-- A slice value that starts at 'a' and has as many elements as 'ps' reads as the places 'ps'. -/
def Pls (w : World) (a : Option Addr) (ps : List (Int × Int)) : Prop :=
  (∀ p ∈ ps, rP p) ∧ (0 < ps.length → ∃ b off, a = some ⟨b, off, none⟩ ∧ b < w.heap.size ∧ ∀ i, i < ps.length → w.cell? ⟨b, off + i * 2, none⟩ = some (.int .i64 (ps.getD i dp).1) ∧ w.cell? ⟨b, off + i * 2 + 1, none⟩ = some (.int .i64 (ps.getD i dp).2))

theorem getD_memP {ps : List (Int × Int)} {k : Nat} (hk : k < ps.length) : ps.getD k dp ∈ ps := by
  rw [List.getD_eq_getElem?_getD, List.getElem?_eq_getElem hk]; exact List.getElem_mem hk
theorem Pls.below {w w' : World} {a : Option Addr} {ps : List (Int × Int)} {B : Nat} (h : Pls w a ps) (hb : Below B w w') (hB : w.heap.size ≤ B) : Pls w' a ps := by
  refine ⟨h.1, fun hz => ?_⟩
  obtain ⟨b, off, rfl, hlt, hc⟩ := h.2 hz
  exact ⟨b, off, rfl, Nat.lt_of_lt_of_le hlt hb.size, fun i hi => ⟨keep hb (by omega) (hc i hi).1, keep hb (by omega) (hc i hi).2⟩⟩
theorem Pls.len_pos {w : World} {a : Option Addr} {ps : List (Int × Int)} (h : Pls w a ps) (i : Nat) (hi : i < ps.length) : ∃ b off, a = some ⟨b, off, none⟩ ∧ b < w.heap.size ∧ ∀ i, i < ps.length → w.cell? ⟨b, off + i * 2, none⟩ = some (.int .i64 (ps.getD i dp).1) ∧ w.cell? ⟨b, off + i * 2 + 1, none⟩ = some (.int .i64 (ps.getD i dp).2) := h.2 (by omega)
theorem Pls.rng {w : World} {a : Option Addr} {ps : List (Int × Int)} (h : Pls w a ps) (k : Nat) (hk : k < ps.length) : rP (ps.getD k dp) := h.1 _ (getD_memP hk)
theorem Pls.alloc {w : World} {a : Option Addr} {ps : List (Int × Int)} (h : Pls w a ps) (o : Obj) : Pls (w.alloc o) a ps := h.below ((Below.refl w.heap.size w).alloc (Nat.le_refl _) o) (Nat.le_refl _)

theorem flatP_len (ps : List (Int × Int)) : (ps.flatMap pcs).length = ps.length * 2 := by
  induction ps with
  | nil => rfl
  | cons s ps ih => rw [List.flatMap_cons, List.length_append, ih, List.length_cons]; simp [pcs]; omega
theorem flatP_get (ps : List (Int × Int)) : ∀ k, k < ps.length → (ps.flatMap pcs)[k * 2]? = some (.int .i64 (ps.getD k dp).1) ∧ (ps.flatMap pcs)[k * 2 + 1]? = some (.int .i64 (ps.getD k dp).2) := by
  induction ps with
  | nil => intro k hk; simp at hk
  | cons s ps ih =>
    intro k hk
    cases k with
    | zero => simp [List.flatMap_cons, pcs]
    | succ k =>
      have := ih k (by simpa using hk)
      rw [List.flatMap_cons, show (k + 1) * 2 = k * 2 + 2 from by omega]
      simpa [pcs] using this
theorem flatP_set (s : Int × Int) (ps : List (Int × Int)) : ∀ k, k < ps.length → ((ps.flatMap pcs).set (k * 2) (.int .i64 s.1)).set (k * 2 + 1) (.int .i64 s.2) = (ps.set k s).flatMap pcs := by
  induction ps with
  | nil => intro k hk; simp at hk
  | cons x ps ih =>
    intro k hk
    cases k with
    | zero => simp [List.flatMap_cons, pcs]
    | succ k =>
      have := ih k (by simpa using hk)
      rw [List.set_cons_succ, List.flatMap_cons, List.flatMap_cons, ← this, show (k + 1) * 2 = k * 2 + 2 from by omega]
      simp [pcs]

/-- A slice value (nil, or a row of the call's own from block B on) that has the places ps. -/
def OVp (w : World) (B : Nat) (v : Value) (ps : List (Int × Int)) : Prop := w.ownsRow B 49 2 v ps.length (ps.flatMap pcs) ∧ ∀ p ∈ ps, rP p
def OwP (w : World) (B g cap : Nat) (ps : List (Int × Int)) : Prop := OVp w B (.slice (some ⟨g, 0, none⟩) ps.length cap) ps

section
variable {w w' : World} {B : Nat} {v : Value} {ps : List (Int × Int)} {g cap : Nat}
theorem OVp.nil (w : World) (B : Nat) : OVp w B (.slice none 0 0) [] := ⟨⟨rfl, .inl ⟨rfl, rfl⟩⟩, by simp⟩
theorem OVp.form (h : OVp w B v ps) : ∃ (a : Option Addr) (c : Nat), v = .slice a ps.length c := by
  rcases h.1.2 with ⟨rfl, h0⟩ | ⟨g, cap, cur, rfl, _⟩
  · exact ⟨none, 0, by rw [h0]⟩
  · exact ⟨_, _, rfl⟩
theorem OVp.blk (h : OVp w B v ps) {k : Nat} (hk : v.ownBlock = some k) : B ≤ k ∧ k < w.heap.size := by
  rcases h.1.2 with ⟨rfl, h0⟩ | ⟨g, cap, cur, rfl, hg, hh, _⟩
  · simp [Value.ownBlock] at hk
  · simp [Value.ownBlock] at hk
    subst hk
    exact ⟨hg, (Array.getElem?_eq_some_iff.1 hh).1⟩
theorem OVp.stay {S : Nat → Prop} (h : OVp w B v ps) (ho : Only S w w') (hs : ∀ k, v.ownBlock = some k → ¬ S k) : OVp w' B v ps := by
  refine ⟨⟨h.1.1, ?_⟩, h.2⟩
  rcases h.1.2 with h' | ⟨g, cap, cur, rfl, hg, hh, r⟩
  · exact .inl h'
  · exact .inr ⟨g, cap, cur, rfl, hg, (ho.block g (Array.getElem?_eq_some_iff.1 hh).1 (hs g rfl)).trans hh, r⟩
theorem OVp.below (h : OVp w B v ps) (hb : Below w.heap.size w w') : OVp w' B v ps := h.stay (Only.ofBelow (S := fun _ => False) hb (Nat.le_refl _)) (by simp)
theorem OVp.weak {B' : Nat} (h : OVp w B v ps) (hB : B' ≤ B) : OVp w B' v ps := by
  refine ⟨⟨h.1.1, ?_⟩, h.2⟩
  rcases h.1.2 with h' | ⟨g, cap, cur, h', hg, r⟩
  · exact .inl h'
  · exact .inr ⟨g, cap, cur, h', by omega, r⟩
theorem OwP.lt (h : OwP w B g cap ps) : B ≤ g ∧ g < w.heap.size := OVp.blk h rfl
theorem OwP.cell (h : OwP w B g cap ps) (i : Nat) (hi : i < ps.length) : w.cell? ⟨g, i * 2, none⟩ = some (.int .i64 (ps.getD i dp).1) ∧ w.cell? ⟨g, i * 2 + 1, none⟩ = some (.int .i64 (ps.getD i dp).2) := by
  obtain ⟨f0, f1⟩ := flatP_get ps i hi
  exact ⟨by rw [h.1.cellAt (i * 2) (by omega), f0], by rw [h.1.cellAt (i * 2 + 1) (by omega), f1]⟩
theorem OwP.pls (h : OwP w B g cap ps) : Pls w (some ⟨g, 0, none⟩) ps := ⟨h.2, fun _ => ⟨g, 0, rfl, h.lt.2, fun i hi => by rw [Nat.zero_add]; exact h.cell i hi⟩⟩
theorem OwP.frozen (h : OwP w B g cap ps) (i : Nat) : w.frozen? ⟨g, i, none⟩ = false := h.1.frozenAt i
theorem OVp.pls {a : Option Addr} {n c : Nat} (h : OVp w B (.slice a n c) ps) : Pls w a ps := by
  rcases h.1.2 with ⟨e, h0⟩ | ⟨g, cap, cur, e, hg, hh, r⟩
  · exact ⟨h.2, fun hz => by omega⟩
  · simp at e
    obtain ⟨rfl, rfl, rfl⟩ := e
    exact OwP.pls (cap := c) h
theorem OwP.store (h : OwP w B g cap ps) (k : Nat) (hk : k < ps.length) (p : Int × Int) (hr : rP p) : OwP ((w.setCell ⟨g, k * 2, none⟩ (.int .i64 p.1)).setCell ⟨g, k * 2 + 1, none⟩ (.int .i64 p.2)) B g cap (ps.set k p) := by
  have r1 := (h.1.stored (k * 2) (.int .i64 p.1)).1
  have r2 := (r1.stored (k * 2 + 1) (.int .i64 p.2)).1
  rw [flatP_set p ps k hk] at r2
  refine ⟨by rw [List.length_set]; exact r2, ?_⟩
  intro t ht
  rcases List.mem_or_eq_of_mem_set ht with ht | rfl
  · exact h.2 t ht
  · exact hr
theorem OwP.other (h : OwP w B g cap ps) {p : Addr} (hp : p.block ≠ g) (u : Value) : OwP (w.setCell p u) B g cap ps :=
  OVp.stay h ((Only.refl (fun b => b = p.block) w).setCell (.inl rfl) u) (fun k hk e => by
    have : g = k := by simpa [Value.ownBlock] using hk
    exact hp (by rw [this]; exact e.symm))

/-- The places of an answer: nothing, or a row of its own between two blocks. -/
def MinP (w : World) (B U : Nat) (a : Option Addr) (cap : Nat) (ps : List (Int × Int)) : Prop :=
  (a = none ∧ ps = [] ∧ cap = 0) ∨ ∃ g, a = some ⟨g, 0, none⟩ ∧ B ≤ g ∧ g < U ∧ OwP w B g cap ps
theorem OVp.mine (h : OVp w B v ps) : ∃ (a : Option Addr) (cp : Nat), v = .slice a ps.length cp ∧ MinP w B w.heap.size a cp ps := by
  rcases h.1.2 with ⟨rfl, h0⟩ | ⟨g, cap, cur, rfl, hg, hh, r⟩
  · exact ⟨none, 0, by rw [h0], .inl ⟨rfl, List.eq_nil_of_length_eq_zero h0, rfl⟩⟩
  · exact ⟨some ⟨g, 0, none⟩, cap, rfl, .inr ⟨g, rfl, hg, (Array.getElem?_eq_some_iff.1 hh).1, h⟩⟩
variable {a : Option Addr} {U c : Nat}
theorem MinP.pls (h : MinP w B U a cap ps) : Pls w a ps := by
  rcases h with ⟨rfl, rfl, rfl⟩ | ⟨g, rfl, _, _, h⟩
  · exact ⟨by simp, by simp⟩
  · exact h.pls
theorem MinP.only {S : Nat → Prop} (h : MinP w B U a cap ps) (ho : Only S w w') (hs : ∀ k, B ≤ k → k < U → ¬ S k) : MinP w' B U a cap ps := by
  rcases h with h | ⟨g, rfl, h1, h2, h⟩
  · exact .inl h
  · exact .inr ⟨g, rfl, h1, h2, OVp.stay h ho (fun k hk => by
      have : g = k := by simpa [Value.ownBlock] using hk
      subst this
      exact hs g h1 h2)⟩
theorem MinP.below (h : MinP w B U a cap ps) (ho : Below w.heap.size w w') : MinP w' B U a cap ps := h.only (Only.ofBelow (S := fun _ => False) ho (Nat.le_refl _)) (by simp)
theorem MinP.mono {B' U' : Nat} (h : MinP w B U a cap ps) (h1 : B' ≤ B) (h2 : U ≤ U') : MinP w B' U' a cap ps := by
  rcases h with h | ⟨g, rfl, g1, g2, h⟩
  · exact .inl h
  · exact .inr ⟨g, rfl, by omega, by omega, OVp.weak h h1⟩
theorem MinP.row (h : MinP w B U a cap ps) {k : Nat} (hk : rowOf a k) : B ≤ k ∧ k < U := by
  obtain ⟨x, hx, rfl⟩ := hk
  rcases h with ⟨h', _⟩ | ⟨g, h', g1, g2, _⟩
  · rw [h'] at hx; cases hx
  · rw [h'] at hx
    simp at hx
    rw [← hx]
    exact ⟨g1, g2⟩
end

theorem Try.infoPl : (Try.prog.info? 49).map (fun i => (i.zero, i.size, i.bytes)) = some (some (.agg #[.int .i64 0, .int .i64 0]), 2, 16) := by kernel_rfl
theorem made_places (n : Nat) : (madeCells (Value.agg #[.int .i64 0, .int .i64 0]).cells (n * 2)).toList = (List.replicate n dp).flatMap pcs := by
  apply List.ext_getElem?
  intro i
  by_cases hi : i < n * 2
  · have hd : i / 2 < (List.replicate n dp).length := by simp; omega
    have hg : (List.replicate n dp).getD (i / 2) dp = dp := by
      rw [List.getD_eq_getElem?_getD, List.getElem?_replicate]; split <;> rfl
    obtain ⟨f0, f1⟩ := flatP_get (List.replicate n dp) (i / 2) hd
    rw [hg] at f0 f1
    simp only [madeCells, Array.toList_map, Array.toList_range, List.getElem?_map, List.getElem?_range hi, Option.map_some]
    have h3 : i % 2 = 0 ∨ i % 2 = 1 := by omega
    rcases h3 with h3 | h3
    · rw [show i / 2 * 2 = i from by omega] at f0
      rw [f0]
      simp [Value.cells, h3, dp]
    · rw [show i / 2 * 2 + 1 = i from by omega] at f1
      rw [f1]
      simp [Value.cells, h3, dp]
  · rw [List.getElem?_eq_none (by simp [madeCells]; omega), List.getElem?_eq_none (by rw [flatP_len]; simp; omega)]
theorem rP_dp : rP dp := by unfold rP dp; simp
/-- What 'make' lays of places. -/
theorem OwP.made {w1 : World} {B g n : Nat} (h : w1.ownsRow B 49 2 (.slice (some ⟨g, 0, none⟩) n n) n (madeCells (Value.agg #[.int .i64 0, .int .i64 0]).cells (n * 2)).toList) : OwP w1 B g n (List.replicate n dp) := by
  refine ⟨?_, fun p hp => ?_⟩
  · rw [made_places] at h
    simpa using h
  · rw [(List.mem_replicate.1 hp).2]
    exact rP_dp
end Go.Proofs.Ytnelpioadpdphaa
