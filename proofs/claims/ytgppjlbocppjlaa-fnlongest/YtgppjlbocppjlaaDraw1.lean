/-
  The draws: a cursor, a byte of it, a number below another.
-/
import Derived.Test.YtgppjlbocppjlaaIBase
import Derived.Laws.BitsAllLaws
import Derived.BigQuiet
namespace Go.Proofs.Ytgppjlbocppjlaa
open Go.RowKit
set_option linter.unusedVariables false

theorem and255 (y : Int) : 0 ≤ bits .and .i64 y 255 ∧ bits .and .i64 y 255 ≤ 255 := by
  have h : bits .and .i64 y 255 = IntKind.i64.wrap ((BitVec.ofInt 64 y &&& BitVec.ofInt 64 255).toNat : Int) := rfl
  rw [h, BitVec.toNat_and]
  have h2 : (BitVec.ofInt 64 y).toNat &&& (BitVec.ofInt 64 255).toNat ≤ 255 := Nat.le_trans Nat.and_le_right (by decide)
  generalize (BitVec.ofInt 64 y).toNat &&& (BitVec.ofInt 64 255).toNat = q at *
  rw [IntWalk.i64_in _ (by omega)]
  omega

/-- A cursor at R over the bytes that lie at a. -/
def Cur (w : World) (B R : Nat) (a : Option Addr) (L cap : Nat) : Prop := ∃ i h : Int, w.heap[R]? = some (.cells #[.slice a L cap, .int .i64 i, .int .i64 h] 40 (0, 0)) ∧ 0 ≤ i ∧ i ≤ L ∧ B ≤ R ∧ B ≤ w.heap.size
theorem cellC {w : World} {R j : Nat} {cur : Array Value} {T : TypeId} {v : Value} (hR : w.heap[R]? = some (.cells cur T (0, 0))) (hv : cur[j]? = some v) : w.cell? ⟨R, j, none⟩ = some v := by
  rw [cell_of_row w R j cur T (0, 0) hR]; exact hv
theorem Cur.only {w w' : World} {B R : Nat} {a : Option Addr} {L cap : Nat} {S : Nat → Prop} (h : Cur w B R a L cap) (ho : Only S w w') (hs : ¬ S R) : Cur w' B R a L cap := by
  obtain ⟨i, x, hR, h1, h2, h3, h4⟩ := h
  exact ⟨i, x, (ho.block R (Array.getElem?_eq_some_iff.1 hR).1 hs).trans hR, h1, h2, h3, Nat.le_trans h4 ho.size⟩
theorem Cur.lt {w : World} {B R : Nat} {a : Option Addr} {L cap : Nat} (h : Cur w B R a L cap) : B ≤ R ∧ R < w.heap.size := by
  obtain ⟨i, x, hR, h1, h2, h3, h4⟩ := h
  exact ⟨h3, (Array.getElem?_eq_some_iff.1 hR).1⟩
theorem only_below {w w' : World} {B R : Nat} (h : Only (fun k => k = R) w w') (hB : B ≤ w.heap.size) (hR : B ≤ R) : Below B w w' := h.below hB (fun k hk => by rw [hk]; exact hR)

set_option maxHeartbeats 1600000 in
theorem l1Byte_any (R B : Nat) (a : Option Addr) (bs : List Int) (cap : Nat) (w0 w : World) (hb : Byt w0 a bs) (hB : w0.heap.size = B) (hl : bs.length ≤ maxLen) (hbel : Below B w0 w) (hc : Cur w B R a bs.length cap) :
    Calls Try.prog 12 #[.pointer (some ⟨R, 0, none⟩)] w fun e w' => (∃ x : Int, 0 ≤ x ∧ x ≤ 255 ∧ e = .returned (.int .i64 x)) ∧ Cur w' B R a bs.length cap ∧ Only (fun k => k = R) w w' := by
  obtain ⟨i, h, hR, hi0, hi1, hBR, hBw⟩ := hc
  have hRl : R < w.heap.size := (Array.getElem?_eq_some_iff.1 hR).1
  have c0 := cellC (j := 0) hR rfl
  have c1 := cellC (j := 1) hR rfl
  have c2 := cellC (j := 2) hR rfl
  have f2 : w.frozen? ⟨R, 2, none⟩ = false := frozen_of_row w R 2 _ _ hR
  have HR : Hid (w.heap[R]? = some (.cells #[.slice a bs.length cap, .int .i64 i, .int .i64 h] 40 (0, 0))) := hR
  clear hR
  unfold maxLen at hl
  go_enter Try.func12, Try.ntmps12
  go_wp2
  clear c0 c1 c2 f2
  generalize wrap64 (wrap64 (h * 6364136223846793005) + 1442695040888963407) = h2
  have hR2 : (w.setCell ⟨R, 2, none⟩ (.int .i64 h2)).heap[R]? = some (.cells #[.slice a bs.length cap, .int .i64 i, .int .i64 h2] 40 (0, 0)) := by
    rw [heap_setCell_same _ R 2 _ _ _ HR.out]; simp
  have hO : Only (fun k => k = R) w (w.setCell ⟨R, 2, none⟩ (.int .i64 h2)) := Only.setCell (Only.refl (fun k => k = R) w) (p := ⟨R, 2, none⟩) (.inl rfl) _
  generalize w.setCell ⟨R, 2, none⟩ (.int .i64 h2) = W at *
  have hbW : Below B w0 W := hbel.trans (only_below hO hBw hBR)
  have c0 := cellC (j := 0) hR2 rfl
  have c1 := cellC (j := 1) hR2 rfl
  have c2 := cellC (j := 2) hR2 rfl
  have f1 : W.frozen? ⟨R, 1, none⟩ = false := frozen_of_row W R 1 _ _ hR2
  have HR2 : Hid (W.heap[R]? = some (.cells #[.slice a bs.length cap, .int .i64 i, .int .i64 h2] 40 (0, 0))) := hR2
  have HO : Hid (Only (fun k => k = R) w W) := hO
  have hsW := hO.size
  clear hR2 hO HR
  generalize hx : bits .and .i64 (bits .xor .i64 (h2 / 2 ^ 33) (h2 / 2 ^ 45)) 255 = x0
  by_cases hlt : i < bs.length
  · obtain ⟨q, rfl⟩ := Int.eq_ofNat_of_zero_le hi0
    obtain ⟨b1, o1, rfl, hb1, hc1⟩ := (hb.below hbW (by omega)).len_pos q (by omega)
    have hs1 := hc1 q (by omega)
    have hz := getD_rng hb.1 q
    clear hc1
    generalize bs.getD q 0 = z at *
    go_wp2
    go_quiet (fail)
    go_wp2
    go_quiet (fail)
    go_wp2
    go_quiet (fail)
    go_wp2
    go_ret
    have hB2 : B ≤ W.heap.size := by omega
    refine ⟨⟨_, (and255 _).1, (and255 _).2, rfl⟩, ⟨(q : Int) + 1, h2, by rw [heap_setCell_same _ R 1 _ _ _ (by exact HR2.out)]; simp, by omega, by omega, hBR, ?_⟩, ?_⟩
    · simp [World.setCell]; exact hB2
    · refine Only.setCell (S := fun k => k = R) (p := ⟨R, 1, none⟩) ?_ (.inl rfl) _
      have H := HO.out
      exact ⟨H.os, H.tape, H.output, H.size, H.block⟩
  · go_wp2
    go_quiet (fail)
    go_wp2
    go_quiet (fail)
    go_wp2
    go_ret
    have H := HO.out
    exact ⟨⟨_, (and255 _).1, (and255 _).2, rfl⟩, ⟨i, h2, HR2.out, hi0, hi1, hBR, by have := hsW; show B ≤ W.heap.size; omega⟩, ⟨H.os, H.tape, H.output, H.size, H.block⟩⟩
end Go.Proofs.Ytgppjlbocppjlaa
