/-
  The program's settle: one address more in the atlas.
-/
import Derived.Test.YtnelpioadpdphaaMpI
import Derived.Test.YtnelpioadpdphaaCut
namespace Go.Proofs.Ytnelpioadpdphaa
open Go.RowKit Go.Maps
set_option linter.unusedVariables false
set_option linter.unusedSimpArgs false

/-- Whoever is at its sector has just this place: just if one ahead of it has. -/
theorem anyT_liv (ps : List (Int × Int)) (k : Nat) (hk : k ≤ ps.length) (p : Int × Int) (hp : nwh p = false) : anyT ps p (liv ps k p.1) = tkn ps p k := by
  rw [Bool.eq_iff_iff]
  unfold anyT
  rw [List.any_eq_true, tkn_iff]
  constructor
  · rintro ⟨z, hz, he⟩
    obtain ⟨i, hi, rfl, h1, h2⟩ := (liv_mem ps k p.1 z).1 hz
    rw [plcO_in ps i (by omega)] at he
    exact ⟨i, hi, by simpa using he⟩
  · rintro ⟨i, hi, he⟩
    refine ⟨(i : Int), (liv_mem ps k p.1 i).2 ⟨i, hi, rfl, by rw [he]; exact hp, by rw [he]⟩, ?_⟩
    rw [plcO_in ps i (by omega), he]
    simp

/-- The store at the end of settle. -/
theorem Liv.put {w : World} {M n : Nat} {f : Int → List Int} (h : Liv w M n f) (hn : n ≤ 1000) (s : Int) (hs : (Lit.int .i64 s).wf = true) :
    ∃ v, (Instr.lookup 61 (.map (some M)) (.int .i64 s) false).run Try.prog w = .ok v w ∧ OVI w (M + 1) v (f s) ∧ (f s).length ≤ n ∧
      ∀ (w1 : World) (v' : Value) (z : Int), w.grownBy w1 v.ownBlock → OVI w1 (M + 1) v' (f s ++ [z]) → (v'.ownBlock = v.ownBlock ∨ ∃ g, v'.ownBlock = some g ∧ w.heap.size ≤ g) →
        ∃ w2, (Instr.mapUpdate 61 (.map (some M)) (.int .i64 s) v').run Try.prog w1 = .ok () w2 ∧ Liv w2 M (n + 1) (fun t => if t = s then f s ++ [z] else f t) ∧ w1.grownBy w2 (some M) := by
  obtain ⟨D, h1, h2, h3⟩ := h
  obtain ⟨v, zs, hrun, hat, hoi, hzl, hback⟩ := h1.at Try.lawKI Try.underlying61 (Try.zeroSI _) (by unfold maxLen; omega) (keyOf_int_mk Try.underlying3 hs)
  obtain rfl : zs = f s := (Itm.of hoi hat).eq (h3 s)
  refine ⟨v, hrun, ⟨hoi.1, fun z hz => bounds_i64 (hoi.2 z hz)⟩, hzl, fun w1 v' z hg ho hloc => ?_⟩
  have hoi' : w1.ownsInts (M + 1) 3 .i64 v' (f s ++ [z]) := ⟨ho.1, fun y hy => WalkArith.wf_i64 (ho.2 y hy)⟩
  obtain ⟨w2, hr2, hg2, hgr2⟩ := hback w1 v' (f s ++ [z]) hg hoi' (by simp; omega) hloc
  refine ⟨w2, hr2, ⟨_, hg2, h2.put _ _, fun t => ?_⟩, hgr2⟩
  by_cases ht : t = s
  · subst ht
    show Itm _ (if t = t then _ else _)
    rw [if_pos rfl, atKey_put_same h2 (Try.lawKI.key (keyOf_int_mk Try.underlying3 hs))]
    exact Itm.of hoi' rfl
  · show Itm _ (if t = s then _ else _)
    rw [if_neg ht, atKey_put_other (by simpa using ht)]
    exact h3 t
end Go.Proofs.Ytnelpioadpdphaa
