/-
  putText of the program.
-/
import Derived.Test.YtmhpgkfaihcmeaaDoorSp3
import Derived.Test.YtmhpgkfaihcmeaaDoorFp4
import Derived.Test.YtmhpgkfaihcmeaaDoorWCells
import Derived.Deep.RegionHeld3
namespace Go.Proofs.YtmhpgkfaihcmeaaDoor
open Go.RowKit
set_option linter.unusedVariables false

theorem drew_block {w : World} {g : Nat} {o : Obj} (h : w.heap[g]? = some o) : w.drew.heap[g]? = some o := h
theorem WI.drewS {w : World} {B R n V : Nat} (h : WI w B R n V) : WI w.drew B R n V := h

set_option maxRecDepth 20000 in
set_option maxHeartbeats 8000000 in
/-- The writer has n0 bits already. -/
theorem putText_any (R B g n0 V0 : Nat) (b : Option Addr) (cb : Nat) (ls ts T : List Int) (w0 w : World) (hw : WI w B R n0 V0) (hg : w.heap[g]? = some (.cells (cel T) 83 (0, 0))) (hgR : g ≠ R) (hT : Tab T ls) (hb : Ins w0 b ts) (hB : w0.heap.size = B) (hbel : Below B w0 w) (htl : ts.length ≤ 300) (hn0 : n0 + (ts.length * 6 + 6) ≤ 4096) (hts : ∀ k, k < ts.length → 0 ≤ ts.getD k 0 ∧ ts.getD k 0 < ls.length) (hS : Sent w0 2) (hSG : 2 < B) :
    Calls Tryd.prog 26 #[.pointer (some ⟨R, 0, none⟩), .pointer (some ⟨g, 0, none⟩), .slice b ts.length cb] w fun e w' => Below B w0 w' ∧
      (shd ls ts → e = .returned .nilIface ∧ WI w' B R (n0 + fN T ts) (V0 + fV T ts * 2 ^ n0)) ∧ (¬ shd ls ts → ∃ T' y, e = .returned (.iface T' y)) := by
  have HP : Hid (Ins w0 b ts ∧ (∀ k, k < ts.length → 0 ≤ ts.getD k 0 ∧ ts.getD k 0 < ls.length) ∧ Tab T ls ∧ Sent w0 2 ∧ w0.heap.size = B) := ⟨hb, hts, hT, hS, hB⟩
  have HW : Hid (WI w B R (n0 + 0) (V0 + 0 * 2 ^ n0) ∧ w.heap[g]? = some (.cells (cel T) 83 (0, 0)) ∧ Below B w0 w) := ⟨by simpa using hw, hg, hbel⟩
  clear hw hg hT hb hB hbel hts hS
  generalize hLn : ts.length = n at *
  have HLn : Hid (ts.length = n ∧ True) := ⟨hLn, trivial⟩
  clear hLn
  go_enter Tryd.func26, Tryd.ntmps26
  go_wp2
  go_loopw [7, 8] (fun s i wr => ∃ (k : Nat) (iz : Int), k ≤ n ∧ i = .int .i64 iz ∧ iz = (n : Int) - 1 - k ∧ s = .int .i64 ((fpS T ts k).1 : Nat) ∧ WI wr B R (n0 + (fpS T ts k).2.1) (V0 + (fpS T ts k).2.2 * 2 ^ n0) ∧ wr.heap[g]? = some (.cells (cel T) 83 (0, 0)) ∧ Below B w0 wr ∧ ∀ j, j < k → ls.getD (ts.getD (n - 1 - j) 0).toNat 0 ≠ 0) (fun _ i _ => (intOf i + 1).toNat)
  case atStart => exact ⟨0, (n : Int) - 1, Nat.zero_le _, rfl, by simp, rfl, HW.out.1, HW.out.2.1, HW.out.2.2, fun j hj => by omega⟩
  case round =>
    clear HW
    obtain ⟨k, iz, hk, rfl, hiz, rfl, hwi, hgb, hbel, hcod⟩ := hrel
    have hcod' : ∀ j, j < k → ls.getD (ts.getD (ts.length - 1 - j) 0).toNat 0 ≠ 0 := by rw [HLn.out.1]; exact hcod
    obtain ⟨h1, h2, h3⟩ := fpS_ok HP.out.2.2.1 (by rw [HLn.out.1]; exact HP.out.2.1) k (by rw [HLn.out.1]; exact hk) hcod'
    have HS : Hid (WI wr B R (n0 + (fpS T ts k).2.1) (V0 + (fpS T ts k).2.2 * 2 ^ n0) ∧ wr.heap[g]? = some (.cells (cel T) 83 (0, 0)) ∧ Below B w0 wr ∧ (fpS T ts k).2.1 ≤ 6 * k ∧ iz = (n : Int) - 1 - k ∧ ∀ j, j < k → ls.getD (ts.getD (n - 1 - j) 0).toNat 0 ≠ 0) := ⟨hwi, hgb, hbel, h2, hiz, hcod⟩
    by_cases hlt : k < n
    · obtain ⟨j, hj⟩ : ∃ j : Nat, iz = j := ⟨iz.toNat, by omega⟩
      subst hj
      have hjn : j < n := by omega
      have hjk : n - 1 - k = j := by omega
      obtain ⟨b1, o1, rfl, hb1, hc1⟩ := (HP.out.1.below hbel (by rw [HP.out.2.2.2.2]; exact Nat.le_refl _)).len_pos j (by rw [HLn.out.1]; exact hjn)
      have hs0 := hc1 j (by rw [HLn.out.1]; exact hjn)
      have hsy := HP.out.2.1 j hjn
      have HPF := placeFor_any g T ls.length (ts.getD j 0) (fpS T ts k).1 wr hgb HP.out.2.2.1.gd h1 (HP.out.2.2.2.1.below hbel hSG)
      have HJK : Hid (n - 1 - k = j ∧ 0 ≤ ts.getD j 0 ∧ ts.getD j 0 < ls.length) := ⟨hjk, hsy⟩
      have hwb : B ≤ wr.heap.size := by obtain ⟨_, _, _, _, _, h⟩ := hwi; exact h
      clear hc1 hwi hgb hbel hcod hcod' hiz h2 h3 hjk hsy
      generalize htj : ts.getD j 0 = tj at *
      have HTJ : Hid (ts.getD j 0 = tj ∧ True) := ⟨htj, trivial⟩
      clear htj
      go_wp2_with fail
      refine HPF.mono ?_
      clear HPF hs0
      rintro e w2 ⟨hb2, ⟨q, hF, rfl⟩ | ⟨hno, T', y, rfl⟩⟩
      · have hshk : ls.getD tj.toNat 0 ≠ 0 := by
          intro h0
          exact HP.out.2.2.1.no tj (fpS T ts k).1 (fun k' hk' => by rw [hk', Int.toNat_natCast] at h0; exact h0) q hF.1 hF.2.1
        have HCO : Hid (∀ j, j < k + 1 → ls.getD (ts.getD (n - 1 - j) 0).toNat 0 ≠ 0) := by
          intro i hi
          by_cases e : i = k
          · rw [e, HJK.out.1, HTJ.out.1]; exact hshk
          · exact HS.out.2.2.2.2.2 i (by omega)
        have hF2 := fpS_first HP.out.2.2.1 (by rw [HLn.out.1]; exact HP.out.2.1) k (by rw [HLn.out.1]; exact hlt) (by rw [HLn.out.1]; exact HCO.out)
        rw [HLn.out.1, HJK.out.1, HTJ.out.1] at hF2
        have hqe := hF2.unique hF
        have hq64 := hF.1
        obtain ⟨sy, bb, z, e1, e2, e3, _, hb6, hz64⟩ := HP.out.2.2.1.gd.cell q hq64
        have hcb : cB T q = bb := by unfold cB; rw [e2, Int.toNat_natCast]
        have hcz : cZ T q = z := by unfold cZ; rw [e3, Int.toNat_natCast]
        have hh := hF.2.1
        unfold hit at hh
        rw [hcb, hcz] at hh
        have HPX : Hid ((fpS T ts k).1 - z < 2 ^ bb) := by have := hh.2; unfold Hid; omega
        have hzp : z ≤ (fpS T ts k).1 := hh.2.1
        have HST : Hid ((fpS T ts (k + 1)).1 = q ∧ (fpS T ts (k + 1)).2.1 = (fpS T ts k).2.1 + bb ∧ (fpS T ts (k + 1)).2.2 = (fpS T ts k).2.2 + ((fpS T ts k).1 - z) * 2 ^ (fpS T ts k).2.1) := by
          refine ⟨hqe, ?_, ?_⟩
          · rw [← hcb, ← hqe]; rfl
          · rw [← hcz, ← hqe]; rfl
        have hgb2 : w2.heap[g]? = some (.cells (cel T) 83 (0, 0)) := (hb2.block g (Array.getElem?_eq_some_iff.1 HS.out.2.1).1).trans HS.out.2.1
        have t1 := arr_cell (tb := T) hgb2 (q * 3 + 1) (by rw [HP.out.2.2.1.gd.len]; omega)
        have t2 := arr_cell (tb := T) hgb2 (q * 3 + 2) (by rw [HP.out.2.2.1.gd.len]; omega)
        rw [e2] at t1
        rw [e3] at t2
        have HC : Hid (w2.cell? ⟨g, q * 3 + 2, none⟩ = some (.int .i64 z) ∧ w2.cell? ⟨g, q * 3 + 1, none⟩ = some (.int .i64 bb)) := ⟨t2, t1⟩
        have HW2 : Hid (WI w2 B R (n0 + (fpS T ts k).2.1) (V0 + (fpS T ts k).2.2 * 2 ^ n0) ∧ w2.heap[g]? = some (.cells (cel T) 83 (0, 0)) ∧ Below B w0 w2) := ⟨HS.out.1.stay hb2, hgb2, HS.out.2.2.1.trans (hb2.mono hwb)⟩
        have HPU : Hid (∀ W : World, WI W B R (n0 + (fpS T ts k).2.1) (V0 + (fpS T ts k).2.2 * 2 ^ n0) → W.heap[g]? = some (.cells (cel T) 83 (0, 0)) → Calls Tryd.prog 41 #[.pointer (some ⟨R, 0, none⟩), .int .i64 (IntKind.i64.wrap (((fpS T ts k).1 : Int) - (z : Int))), .int .i64 (bb : Int)] W fun e w' => e = .returned .nilIface ∧ WI w' B R (n0 + (fpS T ts (k + 1)).2.1) (V0 + (fpS T ts (k + 1)).2.2 * 2 ^ n0) ∧ Below B W w' ∧ w'.heap[g]? = some (.cells (cel T) 83 (0, 0))) := by
          intro W hW hgW
          rw [IntWalk.i64_in _ (by omega)]
          have := hW.putG hgW (by decide) hgR ((fpS T ts k).1 - z) bb (by omega) HPX.out (by have := HS.out.2.2.2.1; omega)
          rw [show (((fpS T ts k).1 - z : Nat) : Int) = ((fpS T ts k).1 : Int) - (z : Int) from by omega, Nat.add_assoc, ← HST.out.2.1, put_at, ← HST.out.2.2] at this
          exact this
        clear hb2 hF hF2 hqe e1 e2 e3 hcb hcz hh hgb2 t1 t2 hz64 HPX hshk
        have hq0 : (q : Int) < 64 := by omega
        generalize hpp : (fpS T ts k).1 = pp at *
        clear hpp
        go_wp2_with fail
        have hq00 : (0 : Int) ≤ (q : Int) := by omega
        go_region_held3 (fun W => W.cell? ⟨g, q * 3 + 2, none⟩ = some (.int .i64 z) ∧ W.cell? ⟨g, q * 3 + 1, none⟩ = some (.int .i64 bb))
          (first | exact HC.out | exact HC8.out)
          (first
            | (go_at_call 41; refine (HPU.out _ (by exact HW2.out.1) (by exact HW2.out.2.1)).mono ?_; rintro e w8 ⟨rfl, hw8, hb8, hg8⟩; have HW8 : Hid (WI w8 B R (n0 + (fpS T ts (k + 1)).2.1) (V0 + (fpS T ts (k + 1)).2.2 * 2 ^ n0) ∧ w8.heap[g]? = some (.cells (cel T) 83 (0, 0)) ∧ Below B w0 w8) := ⟨hw8, hg8, HW2.out.2.2.trans (Below.drewS hb8)⟩; have HC8 : Hid (w8.cell? ⟨g, q * 3 + 2, none⟩ = some (.int .i64 z) ∧ w8.cell? ⟨g, q * 3 + 1, none⟩ = some (.int .i64 bb)) := ⟨(by rw [cell_of_row _ _ _ _ _ _ hg8, ← cell_of_row _ _ _ _ _ _ HW2.out.2.1]; exact HC.out.1), (by rw [cell_of_row _ _ _ _ _ _ hg8, ← cell_of_row _ _ _ _ _ _ HW2.out.2.1]; exact HC.out.2)⟩; clear hw8 hb8 hg8))
        all_goals
          clear HC HC8 HPU HW2
          go_wp2
          go_roundw
          case rel => exact ⟨k + 1, (j : Int) - 1, by omega, rfl, by have := HS.out.2.2.2.2.1; omega, by rw [HST.out.1], HW8.out.1, HW8.out.2.1, HW8.out.2.2, HCO.out⟩
          case measure => simp [intOf]
      · have HNS : Hid (¬ shd ls ts) := by
          intro h
          have hs := h j (by rw [HLn.out.1]; exact hjn)
          rw [HTJ.out.1] at hs
          obtain ⟨s, hse⟩ := Int.eq_ofNat_of_zero_le HJK.out.2.1
          rw [hse, Int.toNat_natCast] at hs
          obtain ⟨q, hq, hh⟩ := HP.out.2.2.1.ex s (fpS T ts k).1 (by have := HJK.out.2.2; omega) h1 hs
          rw [hse] at hno
          exact hno q hq hh
        have HB2 : Hid (Below B w0 w2 ∧ True) := ⟨HS.out.2.2.1.trans (hb2.mono hwb), trivial⟩
        clear hno hb2 HS
        go_wp2
        go_ret
        exact ⟨HB2.out.1, fun h => absurd h HNS.out, fun _ => ⟨T', y, rfl⟩⟩
    · have hkn : k = n := by omega
      subst hkn
      have hiz1 : iz = -1 := by omega
      subst hiz1
      have HSH : Hid (shd ls ts) := by
        intro i hi
        have := hcod (k - 1 - i) (by rw [HLn.out.1] at hi; omega)
        rw [show k - 1 - (k - 1 - i) = i from by rw [HLn.out.1] at hi; omega] at this
        exact this
      have HFN : Hid (fN T ts = (fpS T ts k).2.1 + 6 ∧ fV T ts = (fpS T ts k).2.2 + (fpS T ts k).1 * 2 ^ (fpS T ts k).2.1) := by unfold fN fV; rw [HLn.out.1]; exact ⟨rfl, rfl⟩
      have HPT := hwi.putG hgb (by decide) hgR (fpS T ts k).1 6 (by omega) (by omega) (by omega)
      rw [Nat.add_assoc, ← HFN.out.1, put_at, ← HFN.out.2] at HPT
      clear hwi hgb hcod hcod' hiz h3
      generalize (fpS T ts k).1 = pp at *
      go_wp2_with fail
      refine HPT.mono ?_
      clear HPT
      rintro e w3 ⟨rfl, hw3, hb3, _⟩
      have HF : Hid (WI w3 B R (n0 + fN T ts) (V0 + fV T ts * 2 ^ n0) ∧ Below B w0 w3) := ⟨hw3, hbel.trans hb3⟩
      clear hw3 hb3 hbel HS
      go_wp2
      go_ret
      exact ⟨HF.out.2, fun _ => ⟨rfl, HF.out.1⟩, fun h => absurd HSH.out h⟩
end Go.Proofs.YtmhpgkfaihcmeaaDoor
