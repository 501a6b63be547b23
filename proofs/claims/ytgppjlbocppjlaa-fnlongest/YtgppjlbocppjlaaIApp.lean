/-
  Rows of numbers that grow by an append.
-/
import Derived.Test.YtgppjlbocppjlaaIBase
import Derived.Test.YtgppjlbocppjlaaNews
namespace Go.Proofs.Ytgppjlbocppjlaa
open Go.RowKit
set_option linter.unusedVariables false

/-- A slice value (nil, or a row of the call's own from block B on) that has the numbers zs. -/
def OVI (w : World) (B : Nat) (v : Value) (zs : List Int) : Prop := w.ownsRow B 3 1 v zs.length (zs.map (Value.int .i64)) ∧ ∀ z ∈ zs, -9223372036854775808 ≤ z ∧ z ≤ 9223372036854775807

theorem OVI.nil (w : World) (B : Nat) : OVI w B (.slice none 0 0) [] := ⟨⟨rfl, .inl ⟨rfl, rfl⟩⟩, by simp⟩
theorem OVI.form {w : World} {B : Nat} {v : Value} {zs : List Int} (h : OVI w B v zs) : ∃ (a : Option Addr) (c : Nat), v = .slice a zs.length c := by
  rcases h.1.2 with ⟨rfl, h0⟩ | ⟨g, cap, cur, rfl, _⟩
  · exact ⟨none, 0, by rw [h0]⟩
  · exact ⟨_, _, rfl⟩
theorem OVI.blk {w : World} {B : Nat} {v : Value} {zs : List Int} (h : OVI w B v zs) {k : Nat} (hk : v.ownBlock = some k) : B ≤ k := by
  rcases h.1.2 with ⟨rfl, h0⟩ | ⟨g, cap, cur, rfl, hg, _⟩
  · simp [Value.ownBlock] at hk
  · simp [Value.ownBlock] at hk
    omega
theorem OVI.mine {w : World} {B : Nat} {v : Value} {zs : List Int} (h : OVI w B v zs) : ∃ (a : Option Addr) (cp : Nat), v = .slice a zs.length cp ∧ MinI w B w.heap.size a cp zs := by
  rcases h.1.2 with ⟨rfl, h0⟩ | ⟨g, cap, cur, rfl, hg, hh, r⟩
  · exact ⟨none, 0, by rw [h0], .inl ⟨rfl, List.eq_nil_of_length_eq_zero h0, rfl⟩⟩
  · exact ⟨some ⟨g, 0, none⟩, cap, rfl, OwI.mine (cap := cap) h⟩
theorem OVI.app {w1 : World} {B g cap n : Nat} {zs : List Int} {x : Int} (hl : zs.length = n) (hr : ∀ z ∈ zs, -9223372036854775808 ≤ z ∧ z ≤ 9223372036854775807) (hx : -9223372036854775808 ≤ x ∧ x ≤ 9223372036854775807)
    (hown : w1.ownsRow B 3 1 (.slice (some ⟨g, 0, none⟩) (n + 1) cap) (n + 1) (zs.map (Value.int .i64) ++ [.int .i64 x])) : OVI w1 B (.slice (some ⟨g, 0, none⟩) (n + 1) cap) (zs ++ [x]) := by
  refine ⟨?_, ?_⟩
  · have e : (zs ++ [x]).length = n + 1 := by simp [hl]
    rw [e]
    simpa using hown
  · intro z hz
    simp only [List.mem_append, List.mem_singleton] at hz
    rcases hz with hz | rfl
    · exact hr z hz
    · exact hx
theorem app_below {w0 wr w1 : World} {B : Nat} {o : Obj} {v : Value} {zs : List Int} (hbel : Below B w0 wr) (hB : B ≤ wr.heap.size) (h : OVI wr B v zs) (hg : (wr.alloc o).grownBy w1 v.ownBlock) : Below B w0 w1 :=
  (hbel.alloc hB o).grown hg (by simp; omega) (fun k hk => h.blk hk)
theorem OVI.only {S : Nat → Prop} {w w' : World} {B : Nat} {v : Value} {zs : List Int} (h : OVI w B v zs) (ho : Only S w w') (hs : ∀ k, B ≤ k → ¬ S k) : OVI w' B v zs := by
  refine ⟨⟨h.1.1, ?_⟩, h.2⟩
  rcases h.1.2 with h' | ⟨g, cap, cur, h', hg, hh, r⟩
  · exact .inl h'
  · exact .inr ⟨g, cap, cur, h', hg, (ho.block g (Array.getElem?_eq_some_iff.1 hh).1 (hs g hg)).trans hh, r⟩
end Go.Proofs.Ytgppjlbocppjlaa
