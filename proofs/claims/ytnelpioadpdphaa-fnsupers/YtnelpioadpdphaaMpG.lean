/-
  Who is at each sector: a map of rows of numbers.
-/
import Derived.Test.YtnelpioadpdphaaMpM
import Derived.Test.YtnelpioadpdphaaIApp
import Derived.Maps.GroupsBeside
import Derived.OpenShut
import Derived.ChangeSlices
namespace Go.Proofs.Ytnelpioadpdphaa
open Go.RowKit Go.Maps Go.ChangeShapes Go.ChangeAt
set_option linter.unusedVariables false

theorem Try.lawKI : Keyed Try.prog 3 := int_keyed Try.underlying3
theorem Try.zeroSI (w : World) : (zeroValue 44).run Try.prog w = .ok (.slice none 0 0) w := by kernel_rfl

/-- What stands at a key reads as these numbers. -/
def Itm (d : DataW Unit) (zs : List Int) : Prop := (d = .nil ∧ zs = []) ∨ d = .slice (lits .i64 zs) []
theorem lits_inj {zs ys : List Int} (h : (lits .i64 zs : List (DataW Unit)) = lits .i64 ys) : zs = ys := by
  unfold lits at h
  exact (List.map_inj_right (fun a b hab => by simpa using hab)).1 h
theorem Itm.eq {d : DataW Unit} {zs ys : List Int} (h : Itm d zs) (h2 : Itm d ys) : zs = ys := by
  rcases h with ⟨h, rfl⟩ | h <;> rcases h2 with ⟨h2, rfl⟩ | h2
  · rfl
  · rw [h] at h2; cases h2
  · rw [h] at h2; cases h2
  · rw [h] at h2
    injection h2 with h2
    exact lits_inj h2
theorem Itm.of {w : World} {base : Nat} {e : TypeId} {v : Value} {zs : List Int} {d : DataW Unit} (h : w.ownsInts base e .i64 v zs) (hd : d = rowDatum .i64 v zs) : Itm d zs := by
  rcases h.datum (H := Unit) with ⟨h1, h2⟩ | h1
  · exact .inl ⟨hd.trans h1, h2⟩
  · exact .inr (hd.trans h1)

/-- The block M is a map by sectors, of rows of numbers: at the key s stand the numbers f s. -/
def Liv (w : World) (M n : Nat) (f : Int → List Int) : Prop :=
  ∃ D : DataW Unit, w.ownsGroups Try.prog 3 (M + 1) 3 .i64 M n D ∧ IsMap D ∧ ∀ s, Itm (D.atKey (.int .i64 s) .nil) (f s)
theorem Liv.made (w : World) : Liv (w.alloc (.map #[] 0)) w.heap.size 0 (fun _ => []) :=
  ⟨.map [], World.ownsGroups_made w _ _ _ _, isMap_empty, fun s => .inl ⟨rfl, rfl⟩⟩
theorem grown_below {w w' : World} (hb : Below w.heap.size w w') : w.grownBy w' none := ⟨hb.os, hb.tape, hb.output, hb.size, fun k hk _ => hb.block k hk⟩
theorem Liv.below {w w' : World} {M n : Nat} {f : Int → List Int} (h : Liv w M n f) (hb : Below w.heap.size w w') : Liv w' M n f := by
  obtain ⟨D, h1, h2, h3⟩ := h
  exact ⟨D, h1.kept (grown_below hb) (by simp) (fun _ _ _ x _ => by cases x.val.ownBlock <;> simp), h2, h3⟩
theorem Liv.lt {w : World} {M n : Nat} {f : Int → List Int} (h : Liv w M n f) : M < w.heap.size := by
  obtain ⟨D, ⟨es, clock, hb, _⟩, _⟩ := h
  exact (Array.getElem?_eq_some_iff.1 hb).1
/-- A look-up. -/
theorem Liv.look {w : World} {M n : Nat} {f : Int → List Int} (h : Liv w M n f) (hn : n ≤ 1000) (s : Int) (hs : (Lit.int .i64 s).wf = true) :
    ∃ v, (Instr.lookup 61 (.map (some M)) (.int .i64 s) false).run Try.prog w = .ok v w ∧ OVI w (M + 1) v (f s) ∧ (f s).length ≤ n := by
  obtain ⟨D, h1, h2, h3⟩ := h
  obtain ⟨v, zs, hrun, hat, hoi, hzl, _⟩ := h1.at Try.lawKI Try.underlying61 (Try.zeroSI _) (by unfold maxLen; omega) (keyOf_int_mk Try.underlying3 hs)
  obtain rfl : zs = f s := (Itm.of hoi hat).eq (h3 s)
  exact ⟨v, hrun, ⟨hoi.1, fun z hz => bounds_i64 (hoi.2 z hz)⟩, hzl⟩

/-- The addresses below k that are at the sector s. -/
def liv (ps : List (Int × Int)) : Nat → Int → List Int
  | 0, _ => []
  | k + 1, s => if !nwh (ps.getD k dp) && (ps.getD k dp).1 == s then liv ps k s ++ [(k : Int)] else liv ps k s
theorem liv_mem (ps : List (Int × Int)) (k : Nat) (s z : Int) : z ∈ liv ps k s ↔ ∃ i : Nat, i < k ∧ z = i ∧ nwh (ps.getD i dp) = false ∧ (ps.getD i dp).1 = s := by
  induction k with
  | zero => simp [liv]
  | succ k ih =>
    simp only [liv]
    constructor
    · intro h
      split at h
      · rename_i hc
        simp only [Bool.and_eq_true, Bool.not_eq_true', beq_iff_eq] at hc
        rcases List.mem_append.1 h with h | h
        · obtain ⟨i, hi, r⟩ := ih.1 h
          exact ⟨i, by omega, r⟩
        · simp at h
          exact ⟨k, by omega, h, hc.1, hc.2⟩
      · obtain ⟨i, hi, r⟩ := ih.1 h
        exact ⟨i, by omega, r⟩
    · rintro ⟨i, hi, rfl, h1, h2⟩
      rcases Nat.lt_or_ge i k with h | h
      · have := ih.2 ⟨i, h, rfl, h1, h2⟩
        split
        · exact List.mem_append_left _ this
        · exact this
      · obtain rfl : i = k := by omega
        rw [if_pos (by rw [h1, h2]; simp)]
        simp
theorem liv_len (ps : List (Int × Int)) (k : Nat) (s : Int) : (liv ps k s).length ≤ k := by
  induction k with
  | zero => simp [liv]
  | succ k ih =>
    simp only [liv]
    split
    · simp; omega
    · omega
theorem liv_nw (ps : List (Int × Int)) (k : Nat) (h : nwh (ps.getD k dp) = true) : liv ps (k + 1) = liv ps k := by
  funext s
  simp only [liv, h]
  simp
theorem liv_at (ps : List (Int × Int)) (k : Nat) (h : nwh (ps.getD k dp) = false) (s : Int) : liv ps (k + 1) s = if s = (ps.getD k dp).1 then liv ps k s ++ [(k : Int)] else liv ps k s := by
  simp only [liv, h]
  by_cases hs : s = (ps.getD k dp).1
  · rw [if_pos hs, if_pos (by rw [hs]; simp)]
  · rw [if_neg hs, if_neg]
    simp
    exact fun e => hs e.symm
end Go.Proofs.Ytnelpioadpdphaa
