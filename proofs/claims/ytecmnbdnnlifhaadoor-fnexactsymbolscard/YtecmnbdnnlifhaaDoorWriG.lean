/-
  Writers beside rows of another type.
-/
import Derived.Test.YtecmnbdnnlifhaaDoorWri
import Derived.Test.YtecmnbdnnlifhaaDoorIBase
namespace Go.Proofs.YtecmnbdnnlifhaaDoor
open Go.RowKit
set_option linter.unusedVariables false

theorem put_at (V0 V x n0 N : Nat) : V0 + V * 2 ^ n0 + x * 2 ^ (n0 + N) = V0 + (V + x * 2 ^ N) * 2 ^ n0 := by
  rw [Nat.add_mul, Nat.add_assoc, Nat.mul_assoc, ← Nat.pow_add, Nat.add_comm N n0]
theorem OwnV.neP {w : World} {B k R : Nat} {v : Value} {zs : List Int} {cur : Array Value} {T : TypeId} (h : OwnV w B v zs) (hk : v.ownBlock = some k) (hR : w.heap[R]? = some (.cells cur T (0, 0))) (hT : T ≠ 5) : k ≠ R := by
  rcases h.1.2 with ⟨rfl, h2⟩ | ⟨g, cap, cur', rfl, hg, hh, r⟩
  · simp [Value.ownBlock] at hk
  · simp [Value.ownBlock] at hk
    subst hk
    rintro rfl
    rw [hR] at hh
    simp at hh
    exact hT hh.2
theorem OwnV.stayP {w w' : World} {B : Nat} {v : Value} {zs : List Int} (h : OwnV w B v zs) (hb : Below w.heap.size w w') : OwnV w' B v zs := by
  rcases h.1.2 with ⟨h1, h2⟩ | ⟨g, cap, cur, rfl, hg, hh, r⟩
  · exact ⟨⟨h.1.1, .inl ⟨h1, h2⟩⟩, h.2⟩
  · exact ⟨⟨h.1.1, .inr ⟨g, cap, cur, rfl, hg, (hb.block g (Array.getElem?_eq_some_iff.1 hh).1).trans hh, r⟩⟩, h.2⟩
theorem WI.stay {w w' : World} {B R n V : Nat} (h : WI w B R n V) (hb : Below w.heap.size w w') : WI w' B R n V := by
  obtain ⟨v, h1, h2, h3, h4, h5⟩ := h
  exact ⟨v, (hb.block R (Array.getElem?_eq_some_iff.1 h1).1).trans h1, h2.stayP hb, h3, h4, Nat.le_trans h5 hb.size⟩
theorem SI.stay {w w' : World} {B R n V : Nat} (h : SI w B R n V) (hb : Below w.heap.size w w') : SI w' B R n V := by
  obtain ⟨v, h1, h2, h3, h4, h5⟩ := h
  exact ⟨v, (hb.block R (Array.getElem?_eq_some_iff.1 h1).1).trans h1, h2.stayP hb, h3, h4, Nat.le_trans h5 hb.size⟩
/-- A put leaves a block of another type as it was. -/
theorem WI.putG {w : World} {B R n V : Nat} (h : WI w B R n V) {g : Nat} {cur : Array Value} {T : TypeId} (hg : w.heap[g]? = some (.cells cur T (0, 0))) (hT : T ≠ 5) (hgR : g ≠ R) (x width : Nat) (h2 : width ≤ 30) (hxw : x < 2 ^ width) (h3 : n + width ≤ 4096) :
    Calls Tryd.prog 56 #[.pointer (some ⟨R, 0, none⟩), .int .i64 (x : Int), .int .i64 (width : Int)] w fun e w' => e = .returned .nilIface ∧ WI w' B R (n + width) (V + x * 2 ^ n) ∧ Below B w w' ∧ w'.heap[g]? = some (.cells cur T (0, 0)) := by
  obtain ⟨v, hR, hv, hV, hBR, hB⟩ := h
  have hxi : (x : Int) < 2 ^ ((width : Int)).toNat := by
    have e : ((2 : Int) ^ width) = ((2 ^ width : Nat) : Int) := by simp
    rw [Int.toNat_natCast, e]
    exact Int.ofNat_lt.2 hxw
  refine (wput_yes R B v n V x width 4096 w hR hv hV hB (by omega) (by omega) (by omega) hxi (by omega) (by omega) (by omega)).mono ?_
  rintro e w' ⟨rfl, v', hR', hv', ho, _⟩
  have hb : Below B w w' := ho.below hB (fun k hk => by
    rcases hk with hk | hk
    · omega
    · exact hv.blk hk)
  simp only [Int.toNat_natCast] at hR' hv'
  refine ⟨rfl, ⟨v', hR', hv', put_lt n V width x hV hxw, hBR, Nat.le_trans hB hb.size⟩, hb, ?_⟩
  refine (ho.block g (Array.getElem?_eq_some_iff.1 hg).1 ?_).trans hg
  rintro (hk | hk)
  · exact hgR hk
  · exact hv.neP hk hg hT rfl
theorem OwI.blockG {w w' : World} {B g cap : Nat} {zs : List Int} (h : OwI w B g cap zs) : ∃ cur, w.heap[g]? = some (.cells cur 3 (0, 0)) ∧ (w'.heap[g]? = some (.cells cur 3 (0, 0)) → OwI w' B g cap zs) := by
  rcases h.1.2 with ⟨h', _⟩ | ⟨g', cap', cur, h', hg, hh, r⟩
  · simp at h'
  · have e : g' = g := by simp at h'; exact h'.1.symm
    subst e
    exact ⟨cur, hh, fun hk => ⟨⟨h.1.1, .inr ⟨g', cap', cur, h', hg, hk, r⟩⟩, h.2⟩⟩
end Go.Proofs.YtecmnbdnnlifhaaDoor
