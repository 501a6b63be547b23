/-
  HuffGet of the model: what it refuses.
-/
import Derived.Test.YtpmagpjiacpheaaDoorHGet4
namespace Go.Proofs.YtpmagpjiacpheaaDoor
open Go.RowKit
set_option linter.unusedVariables false

def hgArgs (ls : List Int) (N p s : Int) (zs : List Int) : Prop := lensB ls = true ∧ okB N zs = true ∧ 0 ≤ p ∧ p ≤ N ∧ 0 ≤ s ∧ s ≤ 300

set_option maxRecDepth 20000 in
set_option maxHeartbeats 4000000 in
theorem specHuffGet_no (a : Option Addr) (ca : Nat) (ls : List Int) (x : Option Addr) (cx : Nat) (zs : List Int) (N p s : Int) (w : World) (ha : Ins w a ls) (hx : Byt w x zs) (hl1 : ls.length ≤ 281474976710656) (hl : zs.length ≤ 281474976710656) (h : ¬ hgArgs ls N p s zs) :
    Calls Tryd.prog 26 #[.slice a ls.length ca, .agg #[.slice x zs.length cx, .int .i64 N], .int .i64 p, .int .i64 s] w fun e w' =>
      e = .returned (.tuple #[.slice none 0 0, .int .i64 (-1), .bool false]) ∧ Below w.heap.size w w' := by
  have hw : Below w.heap.size w (w.alloc (Obj.cells #[Value.slice x zs.length cx, Value.int IntKind.i64 N] 33)) := (Below.refl _ _).alloc (Nat.le_refl _) _
  have HT := specLens_any a ca ls _ (ha.below hw (Nat.le_refl _)) hl1
  cases hlb : lensB ls with
  | false =>
    rw [hlb] at HT
    clear hlb h
    go_enter Tryd.func26, Tryd.ntmps26
    go_wp2_with fail
    refine HT.mono ?_
    clear HT
    rintro e w1 ⟨rfl, rfl⟩
    go_wp2
    exact bodyPost_ret (v := .tuple #[.slice none 0 0, .int .i64 (-1), .bool false]) (by simp [results, Tryd.results26, go_sem]) rfl ⟨rfl, hw⟩
  | true =>
    have key : okB N zs = false ∨ (okB N zs = true ∧ p < 0) ∨ (okB N zs = true ∧ 0 ≤ p ∧ N < p) ∨ (okB N zs = true ∧ 0 ≤ p ∧ p ≤ N ∧ s < 0) ∨ (okB N zs = true ∧ 0 ≤ p ∧ p ≤ N ∧ 0 ≤ s ∧ 300 < s) := by
      cases hO : okB N zs with
      | false => exact .inl rfl
      | true =>
        right
        unfold hgArgs at h
        rw [hO, hlb] at h
        simp only [true_and] at h ⊢
        omega
    rw [hlb] at HT
    clear h hlb
    rcases key with hO | ⟨hO, g1⟩ | ⟨hO, g1, g2⟩ | ⟨hO, g1, g2, g3⟩ | ⟨hO, g1, g2, g3, g4⟩
    all_goals
      have HO : Hid _ := hO
      clear hO
      go_enter Tryd.func26, Tryd.ntmps26
      go_wp2_with fail
      refine HT.mono ?_
      clear HT
      rintro e w0 ⟨rfl, rfl⟩
      go_wp2_with fail
      refine (specOk_any x cx zs _ _ (hx.below hw (Nat.le_refl _)) hl).mono ?_
      rintro e w1 ⟨rfl, hb1⟩
      rw [HO.out]
      have q1 : w1.cell? ⟨w.heap.size, 1, none⟩ = some (.int .i64 N) := keep hb1 (by simp) (by simp)
      have hbb := hw.trans (hb1.mono (by simp))
      clear hb1
      go_wp2
      exact bodyPost_ret (v := .tuple #[.slice none 0 0, .int .i64 (-1), .bool false]) (by simp [results, Tryd.results26, go_sem]) rfl ⟨rfl, hbb⟩
end Go.Proofs.YtpmagpjiacpheaaDoor
