/-
  down of container/heap, over the heap of parcels.
-/
import Derived.Test.YtkjebacpmmfflaaDoorPcO
namespace Go.Proofs.YtkjebacpmmfflaaDoor
open Go.RowKit
set_option linter.unusedVariables false
set_option linter.unusedSimpArgs false

/-- The heap lies in the block H, its row at g. -/
structure HpS (W : World) (B H g cap : Nat) (ps : List Pc) : Prop where
  blk : W.heap[H]? = some (.cells #[.slice (some ⟨g, 0, none⟩) ps.length cap] 94 (0, 0))
  row : OwV W B g cap ps
  fin : ∀ p ∈ ps, p.fine
theorem HpS.c0 {W : World} {B H g cap : Nat} {ps : List Pc} (h : HpS W B H g cap ps) : W.cell? ⟨H, 0, none⟩ = some (.slice (some ⟨g, 0, none⟩) ps.length cap) := by
  rw [cell_of_row W H 0 _ _ (0, 0) h.blk]; rfl
theorem HpS.lt {W : World} {B H g cap : Nat} {ps : List Pc} (h : HpS W B H g cap ps) : H < W.heap.size := (Array.getElem?_eq_some_iff.1 h.blk).1
theorem HpS.ne {W : World} {B H g cap : Nat} {ps : List Pc} (h : HpS W B H g cap ps) : H ≠ g := fun e => by
  obtain ⟨cur, hc⟩ := h.row.tag
  rw [← e, h.blk] at hc
  simp at hc
theorem HpS.below {W W' : World} {B H g cap : Nat} {ps : List Pc} (h : HpS W B H g cap ps) (hb : Below W.heap.size W W') : HpS W' B H g cap ps :=
  ⟨(hb.block H h.lt).trans h.blk, h.row.only (Only.ofBelow (S := fun _ => False) hb (Nat.le_refl _)) (by simp), h.fin⟩
theorem HpS.fineAt {W : World} {B H g cap : Nat} {ps : List Pc} (h : HpS W B H g cap ps) (i : Nat) : (ps.getD i dpc).fine := by
  rw [List.getD_eq_getElem?_getD]
  cases he : ps[i]? with
  | none => exact ⟨by simp [dpc, Pc.wt], by simp [dpc, Pc.plc]⟩
  | some p => exact h.fin p (List.mem_of_getElem? he)
/-- Less, asked of it. -/
theorem HpS.less {W : World} {B H g cap : Nat} {ps : List Pc} (h : HpS W B H g cap ps) (i j : Nat) (hi : i < ps.length) (hj : j < ps.length) :
    Calls Tryd.prog 101 #[.slice (some ⟨g, 0, none⟩) ps.length cap, .int .i64 i, .int .i64 j] W fun e w' => e = .returned (.bool (decide (kAt ps i < kAt ps j))) ∧ Below W.heap.size W w' :=
  less_two g 0 i j ps.length cap (ps.getD i dpc) (ps.getD j dpc) W h.row.lt.2 (by rw [Nat.zero_add]; exact h.row.cell i hi) (by rw [Nat.zero_add]; exact h.row.cell j hj) (h.fineAt i) (h.fineAt j) hi hj
theorem Tryd.methH_Less (H : Nat) (w : World) : Sem.run Tryd.prog (method 288 96 (.pointer (some ⟨H, 0, none⟩)) "Less") w = Sem.run Tryd.prog (do let v ← loadVar 94 ⟨H, 0, none⟩; pure (101, v)) w := by kernel_rfl
theorem HpS.mLess {w : World} {B H g cap : Nat} {ps : List Pc} (h : HpS w B H g cap ps) : Sem.run Tryd.prog (method 288 96 (.pointer (some ⟨H, 0, none⟩)) "Less") w = .ok (101, .slice (some ⟨g, 0, none⟩) ps.length cap) w := by
  rw [Tryd.methH_Less]
  simp [loadVar, isAgg, h.c0]
theorem Tryd.methH_Swap (H : Nat) (w : World) : Sem.run Tryd.prog (method 288 96 (.pointer (some ⟨H, 0, none⟩)) "Swap") w = Sem.run Tryd.prog (do let v ← loadVar 94 ⟨H, 0, none⟩; pure (102, v)) w := by kernel_rfl
theorem HpS.mSwap {w : World} {B H g cap : Nat} {ps : List Pc} (h : HpS w B H g cap ps) : Sem.run Tryd.prog (method 288 96 (.pointer (some ⟨H, 0, none⟩)) "Swap") w = .ok (102, .slice (some ⟨g, 0, none⟩) ps.length cap) w := by
  rw [Tryd.methH_Swap]
  simp [loadVar, isAgg, h.c0]
theorem Tryd.methH_Len (H : Nat) (w : World) : Sem.run Tryd.prog (method 288 96 (.pointer (some ⟨H, 0, none⟩)) "Len") w = Sem.run Tryd.prog (do let v ← loadVar 94 ⟨H, 0, none⟩; pure (55, v)) w := by kernel_rfl
theorem HpS.mLen {w : World} {B H g cap : Nat} {ps : List Pc} (h : HpS w B H g cap ps) : Sem.run Tryd.prog (method 288 96 (.pointer (some ⟨H, 0, none⟩)) "Len") w = .ok (55, .slice (some ⟨g, 0, none⟩) ps.length cap) w := by
  rw [Tryd.methH_Len]
  simp [loadVar, isAgg, h.c0]
/-- Swap, asked of it. -/
theorem HpS.swap {W : World} {B H g cap : Nat} {ps : List Pc} (h : HpS W B H g cap ps) (i j : Nat) (hi : i < ps.length) (hj : j < ps.length) :
    Calls Tryd.prog 102 #[.slice (some ⟨g, 0, none⟩) ps.length cap, .int .i64 i, .int .i64 j] W fun e w' => e = .returned (.tuple #[]) ∧ HpS w' B H g cap (swp ps i j) ∧ Only (fun k => k = g) W w' := by
  refine (swap_any B g cap ps i j W h.row hi hj).mono ?_
  rintro e w' ⟨rfl, h1, h2⟩
  refine ⟨rfl, ⟨?_, h1, fun p hp => h.fin p ((swp_perm ps i j hi hj).mem_iff.1 hp)⟩, h2⟩
  rw [swp_len]
  exact (h2.block H h.lt h.ne).trans h.blk

set_option maxRecDepth 20000 in
set_option maxHeartbeats 8000000 in
theorem down_any (B H g cap lo n : Nat) (ps : List Pc) (w : World) (h : HpS w B H g cap ps) (hn : n ≤ ps.length) (hm : ps.length ≤ 1000) (hlo : lo ≤ 1000) (ho : HO ps (lo + 1) n n) :
    Calls Tryd.prog 72 #[.iface 96 (.pointer (some ⟨H, 0, none⟩)), .int .i64 lo, .int .i64 n] w fun e w' => (∃ b : Bool, e = .returned (.bool b)) ∧
      ∃ qs : List Pc, qs.Perm ps ∧ HpS w' B H g cap qs ∧ HO qs lo n n ∧ (∀ k, n ≤ k → qs.getD k dpc = ps.getD k dpc) ∧ Only (fun k => k = g) w w' := by
  have H0 : Hid (HpS w B H g cap ps ∧ HO ps lo n lo) := ⟨h, HO_start ho⟩
  have HN : Hid (n ≤ ps.length ∧ ps.length ≤ 1000) := ⟨hn, hm⟩
  have hn1 : n ≤ 1000 := by omega
  clear h ho hn hm
  go_enter Tryd.func72, Tryd.ntmps72
  go_wp2
  go_loopw [7] (fun i W => ∃ (k : Nat) (qs : List Pc), i = .int .i64 k ∧ lo ≤ k ∧ k ≤ 1000 ∧ qs.Perm ps ∧ HpS W B H g cap qs ∧ HO qs lo n k ∧ HG qs lo n k ∧ (∀ k, n ≤ k → qs.getD k dpc = ps.getD k dpc) ∧ Only (fun k => k = g) w W) (fun i _ => 1000 - (intOf i).toNat)
  case atStart => exact ⟨lo, ps, rfl, Nat.le_refl _, hlo, List.Perm.refl _, H0.out.1, H0.out.2, HG_start ps lo n, fun _ _ => rfl, Only.refl _ _⟩
  case round =>
    obtain ⟨k, qs, rfl, hk, hk2, hperm, hps, hho, hhg, hge, hon⟩ := hrel
    have HR : Hid (qs.Perm ps ∧ HpS wr B H g cap qs ∧ HO qs lo n k ∧ HG qs lo n k ∧ (∀ k, n ≤ k → qs.getD k dpc = ps.getD k dpc) ∧ Only (fun k => k = g) w wr) := ⟨hperm, hps, hho, hhg, hge, hon⟩
    have hql : qs.length = ps.length := hperm.length_eq
    have HQL : Hid (n ≤ qs.length ∧ qs.length ≤ 1000) := by unfold Hid; rw [hql]; exact HN.out
    have hml := hps.mLess
    have hms := hps.mSwap
    clear hperm hps hho hhg hge hon hql
    obtain ⟨j1, hj1⟩ : ∃ j, j = 2 * k + 1 := ⟨_, rfl⟩
    have hj1i : 2 * (k : Int) + 1 = (j1 : Int) := by omega
    have HJ1 : Hid (j1 = 2 * k + 1 ∧ True) := ⟨hj1, trivial⟩
    have hj1b : j1 ≤ 2001 := by omega
    clear hj1
    by_cases hA : n ≤ j1
    · have hA2 : (n : Int) ≤ (j1 : Int) := by omega
      have hL : HO qs lo n n := HO_leaf HR.out.2.2.1 (by have := HJ1.out.1; omega)
      go_wp2
      go_ret
      exact ⟨⟨_, rfl⟩, qs, HR.out.1, HR.out.2.1, hL, HR.out.2.2.2.2.1, HR.out.2.2.2.2.2⟩
    · have hA2 : ¬ (n : Int) ≤ (j1 : Int) := by omega
      have hA3 : ¬ (j1 : Int) < 0 := by omega
      have hkn : k < qs.length := by have := HJ1.out.1; have := HQL.out.1; omega
      have hj1q : j1 < qs.length := by have := HQL.out.1; omega
      obtain ⟨j2, hj2⟩ : ∃ j, j = j1 + 1 := ⟨_, rfl⟩
      have hj2i : (j1 : Int) + 1 = (j2 : Int) := by omega
      have HJ2 : Hid (j2 = j1 + 1 ∧ True) := ⟨hj2, trivial⟩
      have hj2b : j2 ≤ 2002 := by omega
      clear hj2
      by_cases hB : n ≤ j2
      · have hB2 : ¬ (j2 : Int) < (n : Int) := by omega
        have hd : decide ((j2 : Int) < (n : Int)) = false := decide_eq_false hB2
        have HL2 := (HR.out.2.1).less j1 k (by omega) (by omega)
        go_wp2_with fail
        refine HL2.mono ?_
        clear HL2
        rintro e w2 ⟨rfl, hb2⟩
        have hp2 := (HR.out.2.1).below hb2
        have HP2 : Hid (HpS w2 B H g cap qs ∧ Only (fun k => k = g) w w2) := ⟨hp2, HR.out.2.2.2.2.2.trans (Only.ofBelow hb2 (Nat.le_refl _))⟩
        have hms2 := hp2.mSwap
        clear hb2 hp2
        by_cases hc : kAt qs j1 < kAt qs k
        · rw [decide_eq_true hc]
          have HSW := HP2.out.1.swap k j1 (by omega) (by omega)
          have HSO := HO_swap HR.out.2.2.1 HR.out.2.2.2.1 hk (j := j1) (by have := HJ1.out.1; have := HJ2.out.1; omega) (by omega) HQL.out.1 (by intro c hc hcn; have h1 := HJ1.out.1; have h2 := HJ2.out.1; rw [show c = j1 by omega]; exact Nat.le_refl _) hc
          have HFX : Hid ((swp qs k j1).Perm ps ∧ HO (swp qs k j1) lo n j1 ∧ HG (swp qs k j1) lo n j1 ∧ (∀ i, n ≤ i → (swp qs k j1).getD i dpc = ps.getD i dpc)) := by
            refine ⟨(swp_perm qs k j1 (by omega) (by omega)).trans HR.out.1, HSO.1, HSO.2, fun i hi => ?_⟩
            rw [swp_get qs k j1 i (by omega) (by omega), if_neg (by omega), if_neg (by have := HJ1.out.1; omega)]
            exact HR.out.2.2.2.2.1 i hi
          clear hc HSO
          go_wp2_with fail
          refine HSW.mono ?_
          clear HSW
          rintro e w3 ⟨rfl, hp3, ho3⟩
          have HP3 : Hid (HpS w3 B H g cap (swp qs k j1) ∧ Only (fun k => k = g) w w3) := ⟨hp3, HP2.out.2.trans ho3⟩
          clear hp3 ho3
          go_wp2
          go_roundw
          case rel => exact ⟨j1, swp qs k j1, rfl, by have := HJ1.out.1; have := HJ2.out.1; omega, by omega, HFX.out.1, HP3.out.1, HFX.out.2.1, HFX.out.2.2.1, HFX.out.2.2.2, HP3.out.2⟩
          case measure => simp [intOf]; have := HJ1.out.1; have := HJ2.out.1; omega
        · rw [decide_eq_false hc]
          have hD : HO qs lo n n := HO_done HR.out.2.2.1 (j := j1) (by intro c hc hcn; have h1 := HJ1.out.1; have h2 := HJ2.out.1; rw [show c = j1 by omega]; exact Nat.le_refl _) (by omega)
          clear hc
          go_wp2
          go_ret
          exact ⟨⟨_, rfl⟩, qs, HR.out.1, HP2.out.1, hD, HR.out.2.2.2.2.1, HP2.out.2⟩
      · have hB2 : (j2 : Int) < (n : Int) := by omega
        have hd : decide ((j2 : Int) < (n : Int)) = true := decide_eq_true hB2
        have hj2q : j2 < qs.length := by have := HQL.out.1; omega
        have HL1 := HR.out.2.1.less j2 j1 (by omega) (by omega)
        by_cases hc1 : kAt qs j2 < kAt qs j1
        · rw [decide_eq_true hc1] at HL1
          have HC1 : Hid (kAt qs j2 < kAt qs j1 ∧ True) := ⟨hc1, trivial⟩
          clear hc1
          go_wp2_with fail
          refine HL1.mono ?_
          clear HL1
          rintro e w1 ⟨rfl, hb1⟩
          have hp1 := HR.out.2.1.below hb1
          have HP1 : Hid (HpS w1 B H g cap qs ∧ Only (fun k => k = g) w w1) := ⟨hp1, HR.out.2.2.2.2.2.trans (Only.ofBelow hb1 (Nat.le_refl _))⟩
          have hml1 := hp1.mLess
          clear hb1 hp1
          have HL2 := (HP1.out.1).less j2 k (by omega) (by omega)
          go_wp2_with fail
          refine HL2.mono ?_
          clear HL2
          rintro e w2 ⟨rfl, hb2⟩
          have hp2 := (HP1.out.1).below hb2
          have HP2 : Hid (HpS w2 B H g cap qs ∧ Only (fun k => k = g) w w2) := ⟨hp2, HP1.out.2.trans (Only.ofBelow hb2 (Nat.le_refl _))⟩
          have hms2 := hp2.mSwap
          clear hb2 hp2
          by_cases hc : kAt qs j2 < kAt qs k
          · rw [decide_eq_true hc]
            have HSW := HP2.out.1.swap k j2 (by omega) (by omega)
            have HSO := HO_swap HR.out.2.2.1 HR.out.2.2.2.1 hk (j := j2) (by have := HJ1.out.1; have := HJ2.out.1; omega) (by omega) HQL.out.1 (by intro c hc hcn; have h1 := HJ1.out.1; have h2 := HJ2.out.1; have h3 := HC1.out.1; rcases (show c = j1 ∨ c = j2 by omega) with rfl | rfl <;> omega) hc
            have HFX : Hid ((swp qs k j2).Perm ps ∧ HO (swp qs k j2) lo n j2 ∧ HG (swp qs k j2) lo n j2 ∧ (∀ i, n ≤ i → (swp qs k j2).getD i dpc = ps.getD i dpc)) := by
              refine ⟨(swp_perm qs k j2 (by omega) (by omega)).trans HR.out.1, HSO.1, HSO.2, fun i hi => ?_⟩
              rw [swp_get qs k j2 i (by omega) (by omega), if_neg (by omega), if_neg (by have := HJ1.out.1; omega)]
              exact HR.out.2.2.2.2.1 i hi
            clear hc HSO
            go_wp2_with fail
            refine HSW.mono ?_
            clear HSW
            rintro e w3 ⟨rfl, hp3, ho3⟩
            have HP3 : Hid (HpS w3 B H g cap (swp qs k j2) ∧ Only (fun k => k = g) w w3) := ⟨hp3, HP2.out.2.trans ho3⟩
            clear hp3 ho3
            go_wp2
            go_roundw
            case rel => exact ⟨j2, swp qs k j2, rfl, by have := HJ1.out.1; have := HJ2.out.1; omega, by omega, HFX.out.1, HP3.out.1, HFX.out.2.1, HFX.out.2.2.1, HFX.out.2.2.2, HP3.out.2⟩
            case measure => simp [intOf]; have := HJ1.out.1; have := HJ2.out.1; omega
          · rw [decide_eq_false hc]
            have hD : HO qs lo n n := HO_done HR.out.2.2.1 (j := j2) (by intro c hc hcn; have h1 := HJ1.out.1; have h2 := HJ2.out.1; have h3 := HC1.out.1; rcases (show c = j1 ∨ c = j2 by omega) with rfl | rfl <;> omega) (by omega)
            clear hc
            go_wp2
            go_ret
            exact ⟨⟨_, rfl⟩, qs, HR.out.1, HP2.out.1, hD, HR.out.2.2.2.2.1, HP2.out.2⟩
        · rw [decide_eq_false hc1] at HL1
          have HC1 : Hid (¬ kAt qs j2 < kAt qs j1 ∧ True) := ⟨hc1, trivial⟩
          clear hc1
          go_wp2_with fail
          refine HL1.mono ?_
          clear HL1
          rintro e w1 ⟨rfl, hb1⟩
          have hp1 := HR.out.2.1.below hb1
          have HP1 : Hid (HpS w1 B H g cap qs ∧ Only (fun k => k = g) w w1) := ⟨hp1, HR.out.2.2.2.2.2.trans (Only.ofBelow hb1 (Nat.le_refl _))⟩
          have hml1 := hp1.mLess
          clear hb1 hp1
          have HL2 := (HP1.out.1).less j1 k (by omega) (by omega)
          go_wp2_with fail
          refine HL2.mono ?_
          clear HL2
          rintro e w2 ⟨rfl, hb2⟩
          have hp2 := (HP1.out.1).below hb2
          have HP2 : Hid (HpS w2 B H g cap qs ∧ Only (fun k => k = g) w w2) := ⟨hp2, HP1.out.2.trans (Only.ofBelow hb2 (Nat.le_refl _))⟩
          have hms2 := hp2.mSwap
          clear hb2 hp2
          by_cases hc : kAt qs j1 < kAt qs k
          · rw [decide_eq_true hc]
            have HSW := HP2.out.1.swap k j1 (by omega) (by omega)
            have HSO := HO_swap HR.out.2.2.1 HR.out.2.2.2.1 hk (j := j1) (by have := HJ1.out.1; have := HJ2.out.1; omega) (by omega) HQL.out.1 (by intro c hc hcn; have h1 := HJ1.out.1; have h2 := HJ2.out.1; have h3 := HC1.out.1; rcases (show c = j1 ∨ c = j2 by omega) with rfl | rfl <;> omega) hc
            have HFX : Hid ((swp qs k j1).Perm ps ∧ HO (swp qs k j1) lo n j1 ∧ HG (swp qs k j1) lo n j1 ∧ (∀ i, n ≤ i → (swp qs k j1).getD i dpc = ps.getD i dpc)) := by
              refine ⟨(swp_perm qs k j1 (by omega) (by omega)).trans HR.out.1, HSO.1, HSO.2, fun i hi => ?_⟩
              rw [swp_get qs k j1 i (by omega) (by omega), if_neg (by omega), if_neg (by have := HJ1.out.1; omega)]
              exact HR.out.2.2.2.2.1 i hi
            clear hc HSO
            go_wp2_with fail
            refine HSW.mono ?_
            clear HSW
            rintro e w3 ⟨rfl, hp3, ho3⟩
            have HP3 : Hid (HpS w3 B H g cap (swp qs k j1) ∧ Only (fun k => k = g) w w3) := ⟨hp3, HP2.out.2.trans ho3⟩
            clear hp3 ho3
            go_wp2
            go_roundw
            case rel => exact ⟨j1, swp qs k j1, rfl, by have := HJ1.out.1; have := HJ2.out.1; omega, by omega, HFX.out.1, HP3.out.1, HFX.out.2.1, HFX.out.2.2.1, HFX.out.2.2.2, HP3.out.2⟩
            case measure => simp [intOf]; have := HJ1.out.1; have := HJ2.out.1; omega
          · rw [decide_eq_false hc]
            have hD : HO qs lo n n := HO_done HR.out.2.2.1 (j := j1) (by intro c hc hcn; have h1 := HJ1.out.1; have h2 := HJ2.out.1; have h3 := HC1.out.1; rcases (show c = j1 ∨ c = j2 by omega) with rfl | rfl <;> omega) (by omega)
            clear hc
            go_wp2
            go_ret
            exact ⟨⟨_, rfl⟩, qs, HR.out.1, HP2.out.1, hD, HR.out.2.2.2.2.1, HP2.out.2⟩
end Go.Proofs.YtkjebacpmmfflaaDoor
