/-
  A sector that is drawn.
-/
import Derived.Test.YtpedfcknmeeknaaDraw2
import Derived.Test.YtpedfcknmeeknaaElApp
namespace Go.Proofs.Ytpedfcknmeeknaa
open Go.RowKit
set_option linter.unusedVariables false
set_option linter.unusedSimpArgs false

set_option maxHeartbeats 1600000 in
theorem Dr.sector {w0 w : World} {B R : Nat} {a : Option Addr} {bs : List Int} {cap : Nat} (h : Dr w0 w B R a bs cap) :
    Calls Try.prog 19 #[.pointer (some ⟨R, 0, none⟩)] w fun e w' => (∃ (g : Nat) (zs : List Int), e = .returned (.slice (some ⟨g, 0, none⟩) 256 256) ∧ zs.length = 256 ∧ Own w' w.heap.size g 256 zs) ∧ Dr w0 w' B R a bs cap ∧ Only (fun k => k = R) w w' := by
  have H : Hid (Dr w0 w B R a bs cap) := h
  have hRl := h.cur.lt
  clear h
  obtain ⟨Z, hZ⟩ : ∃ Z : List Int, Z = List.replicate 256 0 := ⟨_, rfl⟩
  obtain ⟨w1, hmk, ho1, hb1⟩ := run_make_byt w 256 (by omega) Z hZ
  have hZl : Z.length = 256 := by rw [hZ]; exact List.length_replicate
  clear hZ
  have hmk2 : Sem.run Try.prog (Instr.makeSlice 22 (.int .i64 256) (.int .i64 256)) w = .ok (.slice (some ⟨w.heap.size, 0, none⟩) 256 256) w1 := hmk
  have hon1 : Only (fun k => k = R) w w1 := Only.ofBelow hb1 (Nat.le_refl _)
  have HO1 : Hid (Z.length = 256 ∧ Own w1 w.heap.size w.heap.size 256 Z ∧ Dr w0 w1 B R a bs cap ∧ Only (fun k => k = R) w w1) := ⟨hZl, ho1, H.out.other (S := fun _ => False) (Only.ofBelow hb1 (Nat.le_refl _)) (by simp) (by simp), hon1⟩
  clear hmk ho1 hb1 hon1 hZl
  go_enter Try.func19, Try.ntmps19
  go_wp2_with fail
  refine (HO1.out.2.2.1.below 6 (by omega) (by omega)).mono ?_
  clear hmk2
  rintro e w2 ⟨⟨n, hn0, hn6, rfl⟩, hd2, ho2⟩
  obtain ⟨n, rfl⟩ := Int.eq_ofNat_of_zero_le hn0
  have HS0 : Hid (Own w2 w.heap.size w.heap.size 256 Z ∧ Dr w0 w2 B R a bs cap ∧ Only (fun k => k = R) w w2) := ⟨HO1.out.2.1.only ho2 (by omega), hd2, HO1.out.2.2.2.trans ho2⟩
  clear hd2 ho2
  go_wp2
  go_loopw [5] (fun i wr => ∃ (k : Nat) (zs : List Int), k ≤ n ∧ i = .int .i64 k ∧ zs.length = 256 ∧ Own wr w.heap.size w.heap.size 256 zs ∧ Dr w0 wr B R a bs cap ∧ Only (fun k => k = R) w wr) (fun i _ => n - (intOf i).toNat)
  case atStart => exact ⟨0, Z, Nat.zero_le _, rfl, HO1.out.1, HS0.out.1, HS0.out.2.1, HS0.out.2.2⟩
  case round =>
    clear HS0 HO1 H
    obtain ⟨k, zs, hk, rfl, hzl, how, hdr, hon⟩ := hrel
    have HS : Hid (zs.length = 256 ∧ Own wr w.heap.size w.heap.size 256 zs ∧ Dr w0 wr B R a bs cap ∧ Only (fun k => k = R) w wr) := ⟨hzl, how, hdr, hon⟩
    clear hzl how hdr hon
    by_cases hlt : k < n
    · go_wp2_with fail
      refine (HS.out.2.2.1.below 256 (by omega) (by omega)).mono ?_
      rintro e w3 ⟨⟨x, hx0, hx1, rfl⟩, hd3, ho3⟩
      obtain ⟨x, rfl⟩ := Int.eq_ofNat_of_zero_le hx0
      have HD3 : Hid (Dr w0 w3 B R a bs cap ∧ Only (fun k => k = R) wr w3) := ⟨hd3, ho3⟩
      clear hd3 ho3
      go_wp2_with fail
      refine HD3.out.1.byte.mono ?_
      rintro e w4 ⟨⟨y, hy0, hy1, rfl⟩, hd4, ho4⟩
      have hcv : IntKind.u8.wrap y = y := IntWalk.u8_in _ (by omega)
      have ho34 := HD3.out.2.trans ho4
      have hw4 := HS.out.2.1.only ho34 (by omega)
      have hfz := hw4.frozen x
      have hcl := hw4.cell x (by rw [HS.out.1]; omega)
      have hon : Only (fun b => b = w.heap.size) w4 (w4.setCell ⟨w.heap.size, x, none⟩ (.int .u8 y)) := (Only.refl (fun b => b = w.heap.size) w4).setCell (p := ⟨w.heap.size, x, none⟩) (.inl rfl) _
      have HF : Hid ((zs.set x y).length = 256 ∧ Own (w4.setCell ⟨w.heap.size, x, none⟩ (.int .u8 y)) w.heap.size w.heap.size 256 (zs.set x y) ∧ Dr w0 (w4.setCell ⟨w.heap.size, x, none⟩ (.int .u8 y)) B R a bs cap ∧ Only (fun k => k = R) w (w4.setCell ⟨w.heap.size, x, none⟩ (.int .u8 y))) := ⟨by simpa using HS.out.1, hw4.store x y ⟨hy0, hy1⟩, hd4.other hon (by omega) (fun b hb => by omega), (HS.out.2.2.2.trans ho34).setCell (p := ⟨w.heap.size, x, none⟩) (.inr (by simp)) _⟩
      clear hd4 ho4 ho34 hw4 hon HD3 HS
      go_wp2
      go_roundw
      case rel => exact ⟨k + 1, zs.set x y, by omega, by go_num, HF.out.1, HF.out.2.1, HF.out.2.2.1, HF.out.2.2.2⟩
      case measure => simp [intOf]; omega
    · go_wp2
      go_ret
      exact ⟨⟨_, zs, rfl, HS.out.1, HS.out.2.1⟩, HS.out.2.2.1, HS.out.2.2.2⟩
end Go.Proofs.Ytpedfcknmeeknaa
