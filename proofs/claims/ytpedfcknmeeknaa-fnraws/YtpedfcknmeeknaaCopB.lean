/-
  A device of the call's own in a variable: one more that waits.
-/
import Derived.Test.YtpedfcknmeeknaaCop
namespace Go.Proofs.Ytpedfcknmeeknaa
open Go.RowKit
set_option linter.unusedVariables false

structure CopB (w W : World) (B X : Nat) (v u : Value) (es fs : List El) : Prop where
  bel : Below w.heap.size w W
  hB : w.heap.size ≤ B
  hX : w.heap.size ≤ X
  own : RawO W B v u es fs
  box : Box2 W X v u
  nx : ∀ k, blkR v u es fs k → k ≠ X
section
variable {w W W' w2 w3 : World} {B X : Nat} {v u v' : Value} {es fs : List El} {e : El} {ob : Obj}
theorem CopB.step (h : CopB w W B X v u es fs) (hb : Below W.heap.size W W') : CopB w W' B X v u es fs :=
  ⟨h.bel.trans (hb.mono h.bel.size), h.hB, h.hX, h.own.below hb, h.box.keep hb h.box.lt, h.nx⟩
theorem CopB.moreP (h : CopB w W B X v u es fs) (hBW : B ≤ W.heap.size) (hb : Below W.heap.size W w2) (hm : Mine w2 W.heap.size w2.heap.size e.a e.c e.ls) (hr : rE true e) (hov : OVr true w3 B v' (fs ++ [e])) (hg : (w2.alloc ob).grownBy w3 u.ownBlock) (hat : v'.ownBlock = u.ownBlock ∨ v'.ownBlock = some (w2.alloc ob).heap.size) :
    CopB w (w3.setCell ⟨X, 1, none⟩ v') B X v v' es (fs ++ [e]) ∧ Box2 w3 X v u := by
  have hba : Below w2.heap.size w2 (w2.alloc ob) := (Below.refl _ _).alloc (Nat.le_refl _) _
  have hs2 := hb.size
  have hlt := h.box.lt
  have hb2 : Below W.heap.size W (w2.alloc ob) := hb.trans (hba.mono hs2)
  have hr2 := h.own.rp.below hb2
  have hd2 : Deep (w2.alloc ob) B ((es ++ fs) ++ [e]) := ((h.own.deep.below hb).snoc (U := W.heap.size) hm (fun x hx k hk => h.own.deep.lt x hx k hk) hBW).below hba
  rw [List.append_assoc] at hd2
  have hd3 := hd2.grown hr2 hg
  have hxu : ¬ u.ownBlock = some X := fun he => h.nx X (.inr (.inl he)) rfl
  have hbx : Box2 w3 X v u := (h.box.keep hb2 h.box.lt).only (Only.ofGrown hg) hxu
  have hp3 : OVr false w3 B v es := (h.own.rs.below hb2).stay (Only.ofGrown hg) (fun k hk e => (h.own.rs.below hb2).two hr2 hk e)
  have hon : Only (fun b => b = X) w3 (w3.setCell ⟨X, 1, none⟩ v') := (Only.refl (fun b => b = X) w3).setCell (p := ⟨X, 1, none⟩) (.inl rfl) _
  have hxv : ∀ k, blkR v v' es (fs ++ [e]) k → k ≠ X := by
    rintro k (hk | hk | ⟨x, hx, hk⟩)
    · exact h.nx k (.inl hk)
    · rcases hat with h1 | h1
      · exact h.nx k (.inr (.inl (h1.symm.trans hk)))
      · rw [hk] at h1
        simp at h1
        omega
    · rcases List.mem_append.1 hx with hx | hx
      · exact h.nx k (.inr (.inr ⟨x, List.mem_append_left _ hx, hk⟩))
      · rcases List.mem_append.1 hx with hx | hx
        · exact h.nx k (.inr (.inr ⟨x, List.mem_append_right _ hx, hk⟩))
        · simp at hx
          subst hx
          have := (hm.rowE hk).1
          omega
  have hown : RawO w3 B v v' es (fs ++ [e]) := ⟨hp3, hov, hd3, h.own.rng.1, rE_snoc h.own.rng.2 hr⟩
  have hbel : Below w.heap.size W w3 := ((hb2.mono (by have := h.bel.size; omega)).grown hg (by have := h.bel.size; have := hba.size; omega) (fun k hk => by have := (h.own.rp.blk hk).1; have := h.hB; omega))
  refine ⟨⟨(h.bel.trans hbel).setCell (p := ⟨X, 1, none⟩) h.hX _, h.hB, h.hX, hown.stay hon (fun k hk e => hxv k hk e), hbx.set1 _, hxv⟩, hbx⟩
end
end Go.Proofs.Ytpedfcknmeeknaa
