/-
  What stays while others are written, as a word about facts.
-/
import Derived.Test.YtjeippleimlljaaGreatDoorISum
namespace Go.Proofs.YtjeippleimlljaaGreatDoor
open Go.RowKit
set_option linter.unusedVariables false

/-- P is told by the blocks from lo on, ahead of hi, and by what is below them that nobody writes. -/
def Stab (lo hi : Nat) (P : World → Prop) : Prop := ∀ (T : Nat → Prop) (W W' : World), P W → Only T W W' → (∀ k, lo ≤ k → k < hi → ¬ T k) → hi ≤ W.heap.size → P W'
theorem Stab.true (lo hi : Nat) : Stab lo hi (fun _ => True) := fun _ _ _ _ _ _ _ => trivial
theorem Stab.and {lo hi : Nat} {P Q : World → Prop} (h : Stab lo hi P) (k : Stab lo hi Q) : Stab lo hi (fun W => P W ∧ Q W) := fun T W W' hp ho ht hl => ⟨h T W W' hp.1 ho ht hl, k T W W' hp.2 ho ht hl⟩
theorem Stab.cell {lo hi b o : Nat} {v : Value} (h1 : lo ≤ b) (h2 : b < hi) : Stab lo hi (fun W => W.cell? ⟨b, o, none⟩ = some v) := fun T W W' hp ho ht hl => ho.cell (by omega) (ht b h1 h2) hp
theorem Stab.minI {lo hi B U : Nat} {a : Option Addr} {c : Nat} {zs : List Int} (h1 : lo ≤ B) (h2 : U ≤ hi) : Stab lo hi (fun W => MinI W B U a c zs) := fun T W W' hp ho ht hl => hp.only ho (fun k hk1 hk2 => ht k (by omega) (by omega))
theorem Stab.mine {lo hi B U : Nat} {a : Option Addr} {c : Nat} {zs : List Int} (h1 : lo ≤ B) (h2 : U ≤ hi) : Stab lo hi (fun W => Mine W B U a c zs) := fun T W W' hp ho ht hl => hp.only ho (fun k hk1 hk2 => ht k (by omega) (by omega))
theorem Stab.mono {lo hi lo' hi' : Nat} {P : World → Prop} (h : Stab lo hi P) (h1 : lo' ≤ lo) (h2 : hi ≤ hi') : Stab lo' hi' P := fun T W W' hp ho ht hl => h T W W' hp ho (fun k h3 h4 => ht k (by omega) (by omega)) (by omega)
theorem Stab.below {lo hi : Nat} {P : World → Prop} (h : Stab lo hi P) {W W' : World} (hp : P W) (hb : Below W.heap.size W W') (hl : hi ≤ W.heap.size) : P W' := h _ _ _ hp (Only.ofBelow (S := fun _ => False) hb (Nat.le_refl _)) (by simp) hl
end Go.Proofs.YtjeippleimlljaaGreatDoor
