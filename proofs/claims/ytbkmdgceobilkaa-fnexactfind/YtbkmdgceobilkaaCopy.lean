/-
  laws.toByteS makes a new slice of the same bytes and leaves all that was there as it was.
-/
import Derived.Test.YtbkmdgceobilkaaBase
namespace Go.Proofs.Ytbkmdgceobilkaa
open Go.RowKit
set_option linter.unusedVariables false

set_option maxHeartbeats 400000 in
theorem toByteS_any (a : Option Addr) (cap : Nat) (zs : List Int) (w : World) (hb : Byt w a zs) (hn : zs.length ≤ 1048576) :
    Calls Try.prog 6 #[.slice a zs.length cap] w fun e w' =>
      e = .returned (.slice (some ⟨w.heap.size, 0, none⟩) zs.length zs.length) ∧ Own w' w.heap.size w.heap.size zs.length zs ∧ Below w.heap.size w w' := by
  obtain ⟨i0, hi, hz0, hz1, hz2⟩ := info_parts Try.infoU8
  generalize hlen : zs.length = n at *
  have HL : Hid (zs.length = n) := hlen
  clear hlen
  go_enter Try.func6, Try.ntmps6
  go_wp2_with (at_make; refine wpList_make_full _ rfl _ _ 22 rfl w.heap.size 5 i0 (.int .u8 0) 1 Try.underlying22 hi hz0 hz1 .i64 .i64 _ _ n rfl rfl rfl rfl (by rw [hz2]; omega) (by unfold maxLen; omega) (Nat.le_refl _) ?_; intro w1 hown hgrow)
  have h0 : Own w1 w.heap.size w.heap.size n (part zs 0) := by
    rw [part_zero, HL.out]
    refine ⟨?_, by intro z hz; simp at hz; omega⟩
    rw [made_zero] at hown
    simpa using hown
  have hbw : Below w.heap.size w w1 := (Below.refl _ _).grown hgrow (Nat.le_refl _) (by intro k hk; cases hk)
  have H0 : Hid (Own w1 w.heap.size w.heap.size n (part zs 0)) := h0
  clear h0 hown hgrow hi hz0 hz1 hz2
  go_loopw [4] (fun i wr => ∃ k : Nat, k ≤ n ∧ i = .int .i64 k ∧ Own wr w.heap.size w.heap.size n (part zs k) ∧ Below w.heap.size w wr) (fun i _ => n - (intOf i).toNat)
  case atStart => exact ⟨0, Nat.zero_le _, rfl, H0.out, hbw⟩
  case round =>
    obtain ⟨k, hk, rfl, hown, hbel⟩ := hrel
    have HO : Hid (Own wr w.heap.size w.heap.size n (part zs k)) := hown
    clear hown hbw
    by_cases hlt : k < n
    · obtain ⟨b, off, rfl, hbl, hcells⟩ := hb.len_pos k (by rw [HL.out]; exact hlt)
      have hpl : (part zs k).length = n := by rw [part_len _ _ (by rw [HL.out]; omega)]; exact HL.out
      have hsrc : wr.cell? ⟨b, off + k, none⟩ = some (.int .u8 (zs.getD k 0)) := (hbel.cell (p := ⟨b, off + k, none⟩) hbl).trans (hcells k (by rw [HL.out]; exact hlt))
      have hdst := HO.out.cell k (by omega)
      have hfz := HO.out.frozen k
      have hrng := getD_rng hb.1 k
      have R := HO.out.store k (zs.getD k 0) hrng
      rw [part_set _ _ (by rw [HL.out]; exact hlt)] at R
      have HR : Hid (Own (wr.setCell ⟨w.heap.size, k, none⟩ (.int .u8 (zs.getD k 0))) w.heap.size w.heap.size n (part zs (k + 1))) := R
      have hbel' := hbel.setCell (p := ⟨w.heap.size, k, none⟩) (Nat.le_refl _) (.int .u8 (zs.getD k 0))
      have HB : Hid (Below w.heap.size w (wr.setCell ⟨w.heap.size, k, none⟩ (.int .u8 (zs.getD k 0)))) := hbel'
      clear R hcells hpl hbel' hrng hb
      go_wp2
      go_roundw
      case rel => exact ⟨k + 1, by omega, by go_num, by simpa using HR.out, by simpa using HB.out⟩
      case measure => simp [intOf]; omega
    · have hkn : k = n := by omega
      subst hkn
      have hall := HO.out
      rw [← HL.out, part_all, HL.out] at hall
      have HA : Hid (Own wr w.heap.size w.heap.size k zs) := hall
      clear hall
      go_wp2
      go_ret
      exact ⟨rfl, HA.out, hbel⟩
end Go.Proofs.Ytbkmdgceobilkaa
