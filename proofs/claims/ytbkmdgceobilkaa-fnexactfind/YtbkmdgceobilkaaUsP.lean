/-
  Letters that wait, apart from the sequences that are there.
-/
import Derived.Test.YtbkmdgceobilkaaSqA
namespace Go.Proofs.Ytbkmdgceobilkaa
open Go.RowKit
set_option linter.unusedVariables false
set_option linter.unusedSimpArgs false

/-- Sequences that were read: what they say lies within bounds. -/
def Sml (ss : List Sq) : Prop := ∀ s ∈ ss, 0 ≤ s.n ∧ s.n ≤ 10000 ∧ 0 ≤ s.d ∧ s.d ≤ 10000 ∧ s.ls.length ≤ 300
theorem Sml.nil : Sml [] := by intro s hs; cases hs
theorem Sml.snoc {ss : List Sq} {s : Sq} (h : Sml ss) (hs : 0 ≤ s.n ∧ s.n ≤ 10000 ∧ 0 ≤ s.d ∧ s.d ≤ 10000 ∧ s.ls.length ≤ 300) : Sml (ss ++ [s]) := by
  intro x hx
  rcases List.mem_append.1 hx with hx | hx
  · exact h x hx
  · obtain rfl : x = s := by simpa using hx
    exact hs
theorem Sml.rng {ss : List Sq} (h : Sml ss) : ∀ s ∈ ss, rI s.n ∧ rI s.d ∧ s.ls.length ≤ maxLen := fun s hs => by
  obtain ⟨h1, h2, h3, h4, h5⟩ := h s hs
  refine ⟨⟨by omega, by omega⟩, ⟨by omega, by omega⟩, by unfold maxLen; omega⟩
/-- A row of letters lies apart from those of sequences. -/
def Aprt (ss : List Sq) (v : Value) : Prop := ∀ s ∈ ss, ∀ k, rowOf s.a k → v.ownBlock ≠ some k
theorem Aprt.none (ss : List Sq) : Aprt ss (.slice none 0 0) := by intro s hs k hk; simp [Value.ownBlock]
theorem Aprt.app {w : World} {B : Nat} {ss : List Sq} {v v' : Value} {H : Nat} (h : Aprt ss v) (hd : DeepQ w B ss) (hv : v'.ownBlock = v.ownBlock ∨ v'.ownBlock = some H) (hH : w.heap.size ≤ H) : Aprt ss v' := by
  intro s hs k hk
  rcases hv with hv | hv
  · rw [hv]; exact h s hs k hk
  · rw [hv]
    have := ((hd.mine s hs).rowB hk).2
    simp only [ne_eq, Option.some.injEq]
    omega
/-- The letters of all stay where a row of letters that lies apart grows. -/
theorem DeepQ.grownB {w w' : World} {B : Nat} {ss : List Sq} {v : Value} (hd : DeepQ w B ss) (h : Aprt ss v) (hg : w.grownBy w' v.ownBlock) : DeepQ w' B ss :=
  hd.stay (Only.ofGrownQ hg) (fun s hs k hk e => h s hs k hk e)
/-- A row of sequences stays where a row of letters grows. -/
theorem OVq.grownB {w w' : World} {B B' : Nat} {v lv : Value} {ss : List Sq} {ls : List Int} (h : OVq w B v ss) (hb : OVB w B' lv ls) (hg : w.grownBy w' lv.ownBlock) : OVq w' B v ss := by
  refine h.stay (Only.ofGrownQ hg) (fun k hk e => ?_)
  rcases h.own.2 with ⟨rfl, h0⟩ | ⟨g, cap, cur, rfl, hg, hh, _⟩
  · simp [Value.ownBlock] at hk
  · obtain rfl : g = k := by simpa [Value.ownBlock] using hk
    exact hb.blk_ne hh (by decide) e.symm
theorem DeepQ.weak {w : World} {B B' : Nat} {ss : List Sq} (h : DeepQ w B ss) (hB : B' ≤ B) : DeepQ w B' ss := ⟨fun s hs => (h.mine s hs).mono hB (Nat.le_refl _), h.apart⟩
theorem OVB.mineAt {w : World} {B : Nat} {v : Value} {zs : List Int} (h : OVB w B v zs) : ∃ (a : Option Addr) (cp : Nat), v = .slice a zs.length cp ∧ Mine w B w.heap.size a cp zs ∧ ∀ k, rowOf a k → v.ownBlock = some k := by
  obtain ⟨a, cp, e, hm⟩ := h.mine
  refine ⟨a, cp, e, hm, fun k hk => ?_⟩
  obtain ⟨x, rfl, rfl⟩ := hk
  rw [e]
  rfl
end Go.Proofs.Ytbkmdgceobilkaa
