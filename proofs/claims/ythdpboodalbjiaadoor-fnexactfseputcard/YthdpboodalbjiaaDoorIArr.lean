/-
  An answer of numbers that is an array's slice: the words of MinI, SnapI, and the law's marks, for it.
-/
import Derived.Test.YthdpboodalbjiaaDoorISnap
namespace Go.Proofs.YthdpboodalbjiaaDoor
open Go.RowKit
set_option linter.unusedVariables false

/-- The numbers of an answer: nothing, or a whole block of its own, of whatever type, between two blocks. -/
def ArI (w : World) (B U : Nat) (a : Option Addr) (zs : List Int) : Prop :=
  (∀ z ∈ zs, -9223372036854775808 ≤ z ∧ z ≤ 9223372036854775807) ∧ ((a = none ∧ zs = []) ∨ ∃ g T, a = some ⟨g, 0, none⟩ ∧ B ≤ g ∧ g < U ∧ w.heap[g]? = some (.cells (zs.map (Value.int .i64)).toArray T (0, 0)))
theorem arr_cell {w : World} {g : Nat} {T : TypeId} {tb : List Int} (h : w.heap[g]? = some (.cells (tb.map (Value.int .i64)).toArray T (0, 0))) (x : Nat) (hx : x < tb.length) : w.cell? ⟨g, x, none⟩ = some (.int .i64 (tb.getD x 0)) := by
  rw [cell_of_row _ _ x _ _ _ h]
  simp [List.getD_eq_getElem?_getD, hx]
section
variable {w W W' : World} {B U B' U' : Nat} {a : Option Addr} {zs : List Int}
theorem ArI.byt (h : ArI w B U a zs) : Ins w a zs := by
  refine ⟨h.1, fun hp => ?_⟩
  rcases h.2 with ⟨_, rfl⟩ | ⟨g, T, rfl, _, _, h2⟩
  · simp at hp
  · exact ⟨g, 0, rfl, (Array.getElem?_eq_some_iff.1 h2).1, fun i hi => by rw [Nat.zero_add]; exact arr_cell h2 i hi⟩
theorem ArI.only {S : Nat → Prop} (h : ArI w B U a zs) (ho : Only S w W') (hs : ∀ k, B ≤ k → k < U → ¬ S k) : ArI W' B U a zs := by
  refine ⟨h.1, ?_⟩
  rcases h.2 with h | ⟨g, T, rfl, h1, h2, h3⟩
  · exact .inl h
  · exact .inr ⟨g, T, rfl, h1, h2, (ho.block g (Array.getElem?_eq_some_iff.1 h3).1 (hs g h1 h2)).trans h3⟩
theorem ArI.below (h : ArI w B U a zs) (ho : Below w.heap.size w W') : ArI W' B U a zs := h.only (Only.ofBelow (S := fun _ => False) ho (Nat.le_refl _)) (by simp)
theorem ArI.mono (h : ArI w B U a zs) (h1 : B' ≤ B) (h2 : U ≤ U') : ArI w B' U' a zs := by
  refine ⟨h.1, ?_⟩
  rcases h.2 with h | ⟨g, T, rfl, g1, g2, h3⟩
  · exact .inl h
  · exact .inr ⟨g, T, rfl, by omega, by omega, h3⟩
theorem ArI.row (h : ArI w B U a zs) {k : Nat} (hk : rowOf a k) : B ≤ k ∧ k < U := by
  obtain ⟨x, hx, rfl⟩ := hk
  rcases h.2 with ⟨h', _⟩ | ⟨g, T, h', g1, g2, _⟩
  · rw [h'] at hx; cases hx
  · rw [h'] at hx
    simp at hx
    rw [← hx]
    exact ⟨g1, g2⟩
end

set_option maxHeartbeats 400000 in
theorem markIntS_arr (a : Option Addr) (B U cap : Nat) (zs : List Int) (k : Int) (w : World) (h : ArI w B U a zs) (hn : zs.length ≤ 2097152) (h0 : 0 ≤ k) (h1 : k ≤ 2097152) :
    Calls Tryd.prog 12 #[.slice a zs.length cap, .int .i64 k] w fun e w' => e = .returned (.int .i64 (k + zs.length)) ∧ ArI w' B U a (marksI k zs.length) ∧ Only (rowOf a) w w' := by
  rcases h.2 with ⟨rfl, rfl⟩ | ⟨g, T, rfl, g1, g2, h⟩
  · go_enter Tryd.func12, Tryd.ntmps12
    go_wp2
    refine wp_loop_rounds 1 ?_
    rw [rounds_succ]
    go_wp2
    go_ret
    exact ⟨by simp, ⟨by simp [marksI], .inl ⟨rfl, rfl⟩⟩, Only.refl _ _⟩
  · generalize hlen : zs.length = n at *
    have HL : Hid (zs.length = n) := hlen
    clear hlen
    have HO : Hid (w.heap[g]? = some (.cells (zs.map (Value.int .i64)).toArray T (0, 0))) := h
    clear h
    have HMR : Hid (∀ z ∈ marksI k n, -9223372036854775808 ≤ z ∧ z ≤ 9223372036854775807) := by
      intro z hz
      obtain ⟨i, hi, rfl⟩ := List.getElem_of_mem hz
      have hi' : i < n := by rw [marksI_len] at hi; exact hi
      have := marksI_get k n i hi'
      rw [List.getD_eq_getElem?_getD, List.getElem?_eq_getElem hi] at this
      simp at this
      omega
    go_enter Tryd.func12, Tryd.ntmps12
    go_wp2
    go_loopw [1, 5] (fun q i wr => ∃ j : Nat, j ≤ n ∧ i = .int .i64 j ∧ q = .int .i64 (k + j) ∧ wr.heap[g]? = some (.cells ((marksI k j ++ zs.drop j).map (Value.int .i64)).toArray T (0, 0)) ∧ Only (· = g) w wr) (fun _ i _ => n - (intOf i).toNat)
    case atStart => exact ⟨0, Nat.zero_le _, rfl, by simp, by simpa [marksI] using HO.out, Only.refl _ _⟩
    case round =>
      obtain ⟨j, hj, rfl, rfl, hown, honly⟩ := hrel
      by_cases hlt : j < n
      · have hl : (marksI k j ++ zs.drop j).length = n := by rw [List.length_append, marksI_len, List.length_drop, HL.out]; omega
        have hdst := arr_cell hown j (by omega)
        have hfz := frozen_of_row wr _ j _ _ hown
        have R : (wr.setCell ⟨g, j, none⟩ (.int .i64 (k + j))).heap[g]? = some (.cells ((marksI k (j + 1) ++ zs.drop (j + 1)).map (Value.int .i64)).toArray T (0, 0)) := by
          rw [heap_setCell_same _ _ j _ _ _ hown, ← marksI_step k zs j (by rw [HL.out]; exact hlt)]
          simp [List.map_set]
        have HR : Hid _ := R
        have HB : Hid (Only (· = g) w (wr.setCell ⟨g, j, none⟩ (.int .i64 (k + j)))) := honly.setCell (.inl rfl) _
        generalize (marksI k j ++ zs.drop j).getD j 0 = old at *
        clear R hown honly hl
        go_wp2
        go_roundw
        case rel => exact ⟨j + 1, by omega, by go_num, by go_num, HR.out, HB.out⟩
        case measure => simp [intOf]; omega
      · have hjn : j = n := by omega
        subst hjn
        have hown' := hown
        rw [List.drop_of_length_le (by rw [HL.out]; exact Nat.le_refl _), List.append_nil] at hown'
        have HF : Hid _ := hown'
        clear hown hown'
        go_wp2
        go_ret
        exact ⟨rfl, ⟨HMR.out, .inr ⟨g, T, rfl, g1, g2, HF.out⟩⟩, honly.mono (fun k _ hk => ⟨_, rfl, hk.symm⟩)⟩

structure SnapA (w W : World) (aw : Option Addr) (cw : Nat) (ys : List Int) (U : Nat) (ax : Option Addr) (cx : Nat) (xs : List Int) (V : Nat) (ag : Option Addr) (ts : List Int) : Prop where
  bel : Below w.heap.size w W
  hU : w.heap.size ≤ U ∧ U ≤ V ∧ V ≤ W.heap.size
  mw : MinI W w.heap.size U aw cw ys
  mx : MinI W U V ax cx xs
  mg : ArI W V W.heap.size ag ts

section
variable {w W W' : World} {aw : Option Addr} {cw : Nat} {ys : List Int} {U : Nat} {ax : Option Addr} {cx : Nat} {xs : List Int} {V : Nat} {ag : Option Addr} {ts : List Int}
theorem SnapA.step (h : SnapA w W aw cw ys U ax cx xs V ag ts) (hb : Below W.heap.size W W') : SnapA w W' aw cw ys U ax cx xs V ag ts := by
  have h1 := h.hU; have hs := hb.size
  exact ⟨h.bel.trans (hb.mono (by omega)), ⟨h1.1, h1.2.1, by omega⟩, h.mw.below hb, h.mx.below hb, (h.mg.below hb).mono (Nat.le_refl _) hs⟩
theorem SnapA.markX (h : SnapA w W aw cw ys U ax cx xs V ag ts) (ho : Only (rowOf ax) W W') {xs' : List Int} (hm : MinI W' U V ax cx xs') : SnapA w W' aw cw ys U ax cx xs' V ag ts := by
  have h1 := h.hU; have hs := ho.size
  have hin : ∀ k, rowOf ax k → U ≤ k ∧ k < V := fun k hk => h.mx.row hk
  have hbel : Below w.heap.size W W' := ho.below (by omega) (fun k hk => by have := hin k hk; omega)
  exact ⟨h.bel.trans hbel, ⟨h1.1, h1.2.1, by omega⟩, h.mw.only ho (fun k _ _ hk => by have := hin k hk; omega), hm, (h.mg.only ho (fun k _ _ hk => by have := hin k hk; omega)).mono (Nat.le_refl _) hs⟩
theorem SnapA.markG (h : SnapA w W aw cw ys U ax cx xs V ag ts) (ho : Only (rowOf ag) W W') {ts' : List Int} (hm : ArI W' V W.heap.size ag ts') : SnapA w W' aw cw ys U ax cx xs V ag ts' := by
  have h1 := h.hU; have hs := ho.size
  have hin : ∀ k, rowOf ag k → V ≤ k ∧ k < W.heap.size := fun k hk => h.mg.row hk
  have hbel : Below w.heap.size W W' := ho.below (by omega) (fun k hk => by have := hin k hk; omega)
  exact ⟨h.bel.trans hbel, ⟨h1.1, h1.2.1, by omega⟩, h.mw.only ho (fun k _ _ hk => by have := hin k hk; omega), h.mx.only ho (fun k _ _ hk => by have := hin k hk; omega), hm.mono (Nat.le_refl _) hs⟩
end
end Go.Proofs.YthdpboodalbjiaaDoor
