/-
  Counts of the model; both.
-/
import Derived.Test.YtaiikncdghjmjaaICountsI
import Derived.Test.YtaiikncdghjmjaaITxt
namespace Go.Proofs.Ytaiikncdghjmjaa
open Go.RowKit
set_option linter.unusedVariables false

set_option maxHeartbeats 800000 in
theorem l2counts_any (a : Option Addr) (cap : Nat) (zs : List Int) (n : Nat) (w : World) (hb : Ins w a zs) (ht : txtB zs n = true) :
    Calls Try.prog 17 #[.slice a zs.length cap, .int .i64 n] w fun e w' =>
      e = .returned (.slice (some ⟨w.heap.size, 0, none⟩) n n) ∧ OwI w' w.heap.size w.heap.size n (cnts zs n) ∧ Below w.heap.size w w' := by
  obtain ⟨i0, hi, hz0, hz1, hz2⟩ := info_parts Try.infoI64
  obtain ⟨hn1, hn2, hn3⟩ := txtB_bnd ht
  have HTX : Hid (txtB zs n = true) := ht
  clear ht
  generalize hlen : zs.length = L at *
  have HL : Hid (zs.length = L) := hlen
  clear hlen
  go_enter Try.func17, Try.ntmps17
  go_wp2_with (at_make; refine wpList_make_full _ rfl _ _ 22 rfl w.heap.size 3 i0 (.int .i64 0) 1 Try.underlying22 hi hz0 hz1 .i64 .i64 _ _ n rfl rfl rfl rfl (by rw [hz2]; omega) (by unfold maxLen; omega) (Nat.le_refl _) ?_; intro w1 hown hgrow)
  have h0 : OwI w1 w.heap.size w.heap.size n (cnts (zs.take 0) n) := by
    have e : cnts (zs.take 0) n = List.replicate n 0 := by simp [cnts]
    rw [e]
    refine ⟨?_, by intro z hz; simp at hz; omega⟩
    rw [made_zeroI] at hown
    simpa using hown
  have hbw : Below w.heap.size w w1 := (Below.refl _ _).grown hgrow (Nat.le_refl _) (by intro k hk; cases hk)
  have H0 : Hid (OwI w1 w.heap.size w.heap.size n (cnts (zs.take 0) n)) := h0
  clear h0 hown hgrow hi hz0 hz1 hz2
  go_loopw [6] (fun i wr => ∃ k : Nat, k ≤ L ∧ i = .int .i64 k ∧ OwI wr w.heap.size w.heap.size n (cnts (zs.take k) n) ∧ Below w.heap.size w wr) (fun i _ => L - (intOf i).toNat)
  case atStart => exact ⟨0, Nat.zero_le _, rfl, H0.out, hbw⟩
  case round =>
    obtain ⟨k, hk, rfl, hown, hbel⟩ := hrel
    have HO : Hid (OwI wr w.heap.size w.heap.size n (cnts (zs.take k) n)) := hown
    clear hown hbw
    by_cases hlt : k < L
    · obtain ⟨b, off, rfl, hbl, hcells⟩ := hb.len_pos k (by rw [HL.out]; exact hlt)
      have hsrc : wr.cell? ⟨b, off + k, none⟩ = some (.int .i64 (zs.getD k 0)) := (hbel.cell (p := ⟨b, off + k, none⟩) hbl).trans (hcells k (by rw [HL.out]; exact hlt))
      have hx := txtB_get HTX.out k (by rw [HL.out]; exact hlt)
      have HST : Hid (bump (cnts (zs.take k) n) (zs.getD k 0) = cnts (zs.take (k + 1)) n) := cnts_take_succ zs n k (by rw [HL.out]; exact hlt)
      generalize hxx : zs.getD k 0 = x at *
      obtain ⟨x, rfl⟩ : ∃ j : Nat, x = j := ⟨x.toNat, by omega⟩
      have hdst := HO.out.cell x (by rw [cnts_len]; omega)
      have hfz := HO.out.frozen x
      have hv : 0 ≤ (cnts (zs.take k) n).getD x 0 ∧ (cnts (zs.take k) n).getD x 0 ≤ 300 := by
        have := cnts_rng (zs.take k) n _ (getD_mem (zs := cnts (zs.take k) n) (k := x) (by rw [cnts_len]; omega))
        have h3 : (zs.take k).length ≤ 300 := by rw [List.length_take, HL.out]; omega
        omega
      have R := HO.out.store x ((cnts (zs.take k) n).getD x 0 + 1) (by omega)
      have e : (cnts (zs.take k) n).set x ((cnts (zs.take k) n).getD x 0 + 1) = cnts (zs.take (k + 1)) n := by rw [← HST.out]; simp [bump]
      rw [e] at R
      generalize (cnts (zs.take k) n).getD x 0 = v at *
      have HR : Hid (OwI (wr.setCell ⟨w.heap.size, x, none⟩ (.int .i64 (v + 1))) w.heap.size w.heap.size n (cnts (zs.take (k + 1)) n)) := R
      have HB : Hid (Below w.heap.size w (wr.setCell ⟨w.heap.size, x, none⟩ (.int .i64 (v + 1)))) := hbel.setCell (p := ⟨w.heap.size, x, none⟩) (Nat.le_refl _) (.int .i64 (v + 1))
      clear R e hcells hb hxx
      go_wp2
      go_roundw
      case rel => exact ⟨k + 1, by omega, by go_num, by simpa using HR.out, by simpa using HB.out⟩
      case measure => simp [intOf]; omega
    · have hkn : k = L := by omega
      subst hkn
      have hall := HO.out
      rw [List.take_of_length_le (by rw [HL.out]; exact Nat.le_refl _)] at hall
      have HA : Hid (OwI wr w.heap.size w.heap.size n (cnts zs n)) := hall
      clear hall
      go_wp2
      go_ret
      exact ⟨rfl, HA.out, hbel⟩

theorem specCounts_no (a : Option Addr) (cap : Nat) (zs : List Int) (s : Int) (w : World) (hb : Ins w a zs) (hn : zs.length ≤ 281474976710656) (ht : txtB zs s = false) :
    Calls Try.prog 10 #[.slice a zs.length cap, .int .i64 s] w fun e w' => e = .returned (.tuple #[.slice none 0 0, .bool false]) ∧ w' = w := by
  have HT := specTxt_any a cap zs s w hb hn
  rw [ht] at HT
  go_enter Try.func10, Try.ntmps10
  go_wp2_with fail
  refine HT.mono ?_
  rintro e w0 ⟨rfl, rfl⟩
  clear HT
  go_wp2
  exact bodyPost_ret (v := .tuple #[.slice none 0 0, .bool false]) (by simp [results, Try.results10, go_sem]) rfl ⟨rfl, rfl⟩

theorem specCounts_yes (a : Option Addr) (cap : Nat) (zs : List Int) (n : Nat) (w : World) (hb : Ins w a zs) (ht : txtB zs n = true) :
    Calls Try.prog 10 #[.slice a zs.length cap, .int .i64 n] w fun e w' =>
      e = .returned (.tuple #[.slice (some ⟨w.heap.size, 0, none⟩) n n, .bool true]) ∧ OwI w' w.heap.size w.heap.size n (cnts zs n) ∧ Below w.heap.size w w' := by
  have hL : zs.length ≤ 281474976710656 := by have := txtB_bnd ht; omega
  have HT := specTxt_any a cap zs (n : Int) w hb hL
  rw [ht] at HT
  go_enter Try.func10, Try.ntmps10
  go_wp2_with fail
  refine HT.mono ?_
  rintro e w0 ⟨rfl, rfl⟩
  clear HT
  go_wp2_with fail
  refine (l2counts_any a cap zs n w0 hb ht).mono ?_
  rintro e w1 ⟨rfl, ho, hbb⟩
  clear ht hb
  go_wp2
  exact bodyPost_ret (v := .tuple #[.slice (some ⟨w0.heap.size, 0, none⟩) n n, .bool true]) (by simp [results, Try.results10, go_sem]) rfl ⟨rfl, ho, hbb⟩

/-- The model and the program count alike. -/
theorem counts_both (zs : List Int) (s : Int) (hl : zs.length ≤ 1048576) : ∃ (ys : List Int) (ok : Bool), ys.length ≤ 1048576 ∧
    (∀ (a : Option Addr) (cap : Nat) (w : World), Ins w a zs → Calls Try.prog 10 #[.slice a zs.length cap, .int .i64 s] w fun e w' =>
      ∃ a' cp, e = .returned (.tuple #[.slice a' ys.length cp, .bool ok]) ∧ MinI w' w.heap.size w'.heap.size a' cp ys ∧ Below w.heap.size w w') ∧
    (∀ (a : Option Addr) (cap : Nat) (w : World), Ins w a zs → Calls Try.prog 11 #[.slice a zs.length cap, .int .i64 s] w fun e w' =>
      ∃ a' cp, e = .returned (.tuple #[.slice a' ys.length cp, .bool ok]) ∧ MinI w' w.heap.size w'.heap.size a' cp ys ∧ Below w.heap.size w w') := by
  cases ht : txtB zs s with
  | true =>
    obtain ⟨h1, h2, h3⟩ := txtB_bnd ht
    obtain ⟨n, rfl⟩ : ∃ n : Nat, s = n := ⟨s.toNat, by omega⟩
    refine ⟨cnts zs n, true, by rw [cnts_len]; omega, ?_, ?_⟩
    · intro a cap w hb
      refine (specCounts_yes a cap zs n w hb ht).mono ?_
      rintro e w' ⟨rfl, ho, hbb⟩
      exact ⟨_, n, by rw [cnts_len], ho.mine, hbb⟩
    · intro a cap w hb
      refine (implCounts_yes a cap zs n w hb ht).mono ?_
      rintro e w' ⟨rfl, ho, hbb⟩
      exact ⟨_, n, by rw [cnts_len], ho.mine, hbb⟩
  | false =>
    refine ⟨[], false, by simp, ?_, ?_⟩
    · intro a cap w hb
      refine (specCounts_no a cap zs s w hb (by omega) ht).mono ?_
      rintro e w' ⟨rfl, rfl⟩
      exact ⟨none, 0, rfl, .inl ⟨rfl, rfl, rfl⟩, Below.refl _ _⟩
    · intro a cap w hb
      refine (implCounts_no a cap zs s w hb (by omega) ht).mono ?_
      rintro e w' ⟨rfl, rfl⟩
      exact ⟨none, 0, rfl, .inl ⟨rfl, rfl, rfl⟩, Below.refl _ _⟩
end Go.Proofs.Ytaiikncdghjmjaa
