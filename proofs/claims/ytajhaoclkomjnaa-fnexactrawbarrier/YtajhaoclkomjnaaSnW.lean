/-
  What the laws carry along whose argument is a device and whose answer is one.
-/
import Derived.Test.YtajhaoclkomjnaaSnN
import Derived.Test.YtajhaoclkomjnaaLawRawOk
namespace Go.Proofs.Ytajhaoclkomjnaa
open Go.RowKit
set_option linter.unusedVariables false

structure StR (w W : World) (px py : Value) (U : Nat) (va vb : Value) (ms ns : List El) (T : Nat) (tv qv : Value) (ts qs : List El) (X Y : Nat) (vc vd : Value) (cs ds : List El) : Prop where
  arg : Arg w W px py
  hU : w.heap.size < U
  mw : RawO W (w.heap.size + 1) va vb ms ns
  iw : ∀ k, blkR va vb ms ns k → k < U
  bw : Box2 W U va vb
  hT : U < T
  rx : RawO W (U + 1) tv qv ts qs
  ix : ∀ k, blkR tv qv ts qs k → k < T
  bx : Box2 W T tv qv
  hX : T < X
  hY : X ≤ Y
  mg : RawO W X vc vd cs ds
  ig : ∀ k, blkR vc vd cs ds k → k < Y
  bg : Box2 W Y vc vd
theorem blk_of_a {v u : Value} {cs ds cs' ds' : List El} (he : (cs' ++ ds').map El.a = (cs ++ ds).map El.a) {k : Nat} (h : blkR v u cs' ds' k) : blkR v u cs ds k := by
  rcases h with hk | hk | ⟨e, hem, hk⟩
  · exact .inl hk
  · exact .inr (.inl hk)
  · have h5 : e.a ∈ (cs ++ ds).map El.a := by rw [← he]; exact List.mem_map.2 ⟨e, hem, rfl⟩
    obtain ⟨e2, h6, h7⟩ := List.mem_map.1 h5
    exact .inr (.inr ⟨e2, h6, by rw [h7]; exact hk⟩)
section
variable {w W W' : World} {px py : Value} {U : Nat} {va vb : Value} {ms ns : List El} {T : Nat} {tv qv : Value} {ts qs : List El} {X Y : Nat} {vc vd : Value} {cs ds : List El}
theorem StR.step (h : StR w W px py U va vb ms ns T tv qv ts qs X Y vc vd cs ds) (hb : Below W.heap.size W W') : StR w W' px py U va vb ms ns T tv qv ts qs X Y vc vd cs ds :=
  ⟨h.arg.step hb, h.hU, h.mw.below hb, h.iw, h.bw.keep hb h.bw.lt, h.hT, h.rx.below hb, h.ix, h.bx.keep hb h.bx.lt, h.hX, h.hY, h.mg.below hb, h.ig, h.bg.keep hb h.bg.lt⟩
theorem StR.other {S : Nat → Prop} (h : StR w W px py U va vb ms ns T tv qv ts qs X Y vc vd cs ds) (ho : Only S W W') (hS : ∀ k, S k → T < k ∧ k < X) : StR w W' px py U va vb ms ns T tv qv ts qs X Y vc vd cs ds := by
  have h1 := h.hU; have h2 := h.hX; have h3 := h.hY; have h4 := h.bg.lt; have h5 := h.hT
  exact ⟨h.arg.only ho (fun k hk => by have := hS k hk; omega), h1, h.mw.stay ho (fun k hk hs => by have := h.iw k hk; have := hS k hs; omega), h.iw, h.bw.only ho (fun hs => by have := hS _ hs; omega), h5,
    h.rx.stay ho (fun k hk hs => by have := h.ix k hk; have := hS k hs; omega), h.ix, h.bx.only ho (fun hs => by have := hS _ hs; omega), h2, h3, h.mg.stay ho (fun k hk hs => by have := (h.mg.inside k hk).1; have := hS k hs; omega), h.ig, h.bg.only ho (fun hs => by have := hS _ hs; omega)⟩
theorem StR.markX (h : StR w W px py U va vb ms ns T tv qv ts qs X Y vc vd cs ds) (ho : Only (blkR tv qv ts qs) W W') {ts' qs' : List El} (hm : RawO W' (U + 1) tv qv ts' qs') (he : (ts' ++ qs').map El.a = (ts ++ qs).map El.a) : StR w W' px py U va vb ms ns T tv qv ts' qs' X Y vc vd cs ds := by
  have h1 := h.hU; have h2 := h.hX; have h3 := h.hY; have h4 := h.bg.lt; have h5 := h.hT
  have hS : ∀ k, blkR tv qv ts qs k → U < k ∧ k < T := fun k hk => ⟨by have := (h.rx.inside k hk).1; omega, h.ix k hk⟩
  exact ⟨h.arg.only ho (fun k hk => by have := hS k hk; omega), h1, h.mw.stay ho (fun k hk hs => by have := h.iw k hk; have := hS k hs; omega), h.iw, h.bw.only ho (fun hs => by have := hS _ hs; omega), h5,
    hm, fun k hk => h.ix k (blk_of_a he hk), h.bx.only ho (fun hs => by have := hS _ hs; omega), h2, h3, h.mg.stay ho (fun k hk hs => by have := (h.mg.inside k hk).1; have := hS k hs; omega), h.ig, h.bg.only ho (fun hs => by have := hS _ hs; omega)⟩
theorem StR.markG (h : StR w W px py U va vb ms ns T tv qv ts qs X Y vc vd cs ds) (ho : Only (blkR vc vd cs ds) W W') {cs' ds' : List El} (hm : RawO W' X vc vd cs' ds') (he : (cs' ++ ds').map El.a = (cs ++ ds).map El.a) : StR w W' px py U va vb ms ns T tv qv ts qs X Y vc vd cs' ds' := by
  have h1 := h.hU; have h2 := h.hX; have h3 := h.hY; have h4 := h.bg.lt; have h5 := h.hT
  have hS : ∀ k, blkR vc vd cs ds k → X ≤ k ∧ k < Y := fun k hk => ⟨(h.mg.inside k hk).1, h.ig k hk⟩
  exact ⟨h.arg.only ho (fun k hk => by have := hS k hk; omega), h1, h.mw.stay ho (fun k hk hs => by have := h.iw k hk; have := hS k hs; omega), h.iw, h.bw.only ho (fun hs => by have := hS _ hs; omega), h5,
    h.rx.stay ho (fun k hk hs => by have := h.ix k hk; have := hS k hs; omega), h.ix, h.bx.only ho (fun hs => by have := hS _ hs; omega), h2, h3, hm, fun k hk => h.ig k (blk_of_a he hk), h.bg.only ho (fun hs => by have := hS _ hs; omega)⟩
end
end Go.Proofs.Ytajhaoclkomjnaa
