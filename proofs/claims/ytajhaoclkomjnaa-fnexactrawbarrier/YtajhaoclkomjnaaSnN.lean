/-
  What the laws on answers that are devices carry along: the model's answer and its variable, the program's answer and its variable.
-/
import Derived.Test.YtajhaoclkomjnaaElM3
namespace Go.Proofs.Ytajhaoclkomjnaa
open Go.RowKit
set_option linter.unusedVariables false

structure SnN (w W : World) (U : Nat) (va vb : Value) (ms bs : List El) (X Y : Nat) (vc vd : Value) (cs ds : List El) : Prop where
  bel : Below w.heap.size w W
  hU : w.heap.size ≤ U
  hX : U < X
  hY : X ≤ Y
  mw : RawO W w.heap.size va vb ms bs
  iw : ∀ k, blkR va vb ms bs k → k < U
  bw : Box2 W U va vb
  mg : RawO W X vc vd cs ds
  ig : ∀ k, blkR vc vd cs ds k → k < Y
  bg : Box2 W Y vc vd
section
variable {w W W' : World} {U : Nat} {va vb : Value} {ms bs : List El} {X Y : Nat} {vc vd : Value} {cs ds : List El}
theorem SnN.step (h : SnN w W U va vb ms bs X Y vc vd cs ds) (hb : Below W.heap.size W W') : SnN w W' U va vb ms bs X Y vc vd cs ds :=
  ⟨h.bel.trans (hb.mono h.bel.size), h.hU, h.hX, h.hY, h.mw.below hb, h.iw, h.bw.keep hb h.bw.lt, h.mg.below hb, h.ig, h.bg.keep hb h.bg.lt⟩
theorem SnN.other {S : Nat → Prop} (h : SnN w W U va vb ms bs X Y vc vd cs ds) (ho : Only S W W') (hS : ∀ k, S k → U < k ∧ k < X) : SnN w W' U va vb ms bs X Y vc vd cs ds := by
  have h1 := h.hU; have h2 := h.hX; have h3 := h.hY; have h4 := h.bg.lt
  have hbel : Below w.heap.size W W' := ho.below (by omega) (fun k hk => by have := hS k hk; omega)
  exact ⟨h.bel.trans hbel, h1, h2, h3, h.mw.stay ho (fun k hk hs => by have := h.iw k hk; have := hS k hs; omega), h.iw, h.bw.only ho (fun hs => by have := hS _ hs; omega), h.mg.stay ho (fun k hk hs => by have := (h.mg.inside k hk).1; have := hS k hs; omega), h.ig, h.bg.only ho (fun hs => by have := hS _ hs; omega)⟩
theorem SnN.markG (h : SnN w W U va vb ms bs X Y vc vd cs ds) (ho : Only (blkR vc vd cs ds) W W') {cs' ds' : List El} (hm : RawO W' X vc vd cs' ds') (he : (cs' ++ ds').map El.a = (cs ++ ds).map El.a) : SnN w W' U va vb ms bs X Y vc vd cs' ds' := by
  have h1 := h.hU; have h2 := h.hX; have h3 := h.hY; have h4 := h.bg.lt
  have hin : ∀ k, blkR vc vd cs ds k → X ≤ k ∧ k < Y := fun k hk => ⟨(h.mg.inside k hk).1, h.ig k hk⟩
  have hbel : Below w.heap.size W W' := ho.below (by omega) (fun k hk => by have := hin k hk; omega)
  refine ⟨h.bel.trans hbel, h1, h2, h3, h.mw.stay ho (fun k hk hs => by have := h.iw k hk; have := hin k hs; omega), h.iw, h.bw.only ho (fun hs => by have := hin _ hs; omega), hm, ?_, h.bg.only ho (fun hs => by have := hin _ hs; omega)⟩
  rintro k (hk | hk | ⟨e, hem, hk⟩)
  · exact h.ig k (.inl hk)
  · exact h.ig k (.inr (.inl hk))
  · have h5 : e.a ∈ (cs ++ ds).map El.a := by rw [← he]; exact List.mem_map.2 ⟨e, hem, rfl⟩
    obtain ⟨e2, h6, h7⟩ := List.mem_map.1 h5
    exact h.ig k (.inr (.inr ⟨e2, h6, by rw [h7]; exact hk⟩))
end
theorem mk_a (ss ps : List El) : (mkSs ss ++ mkPs ss ps).map El.a = (ss ++ ps).map El.a := by
  unfold mkSs mkPs
  rw [List.map_append, List.map_append, mkE_a, mkE_a]
theorem mkSs_len (ss : List El) : (mkSs ss).length = ss.length := mkE_len _ _ _
theorem mkPs_len (ss ps : List El) : (mkPs ss ps).length = ps.length := mkE_len _ _ _
end Go.Proofs.Ytajhaoclkomjnaa
