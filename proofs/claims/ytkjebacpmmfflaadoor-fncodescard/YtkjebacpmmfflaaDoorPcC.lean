/-
  coinsOf and packsOf of the program.
-/
import Derived.Test.YtkjebacpmmfflaaDoorPcS
import Derived.Test.YtkjebacpmmfflaaDoorCut2
namespace Go.Proofs.YtkjebacpmmfflaaDoor
open Go.RowKit
set_option linter.unusedVariables false
set_option linter.unusedSimpArgs false

/-- The coins of the first k counts. -/
def coinsL (zs : List Int) : Nat → List Pc
  | 0 => []
  | k + 1 => if 0 < zs.getD k 0 then coinsL zs k ++ [.coin k (zs.getD k 0).toNat] else coinsL zs k
theorem coinsL_len (zs : List Int) : ∀ k, (coinsL zs k).length ≤ k
  | 0 => Nat.le_refl _
  | k + 1 => by
    have := coinsL_len zs k
    simp only [coinsL]
    split
    · simp; omega
    · omega

set_option maxRecDepth 20000 in
set_option maxHeartbeats 4000000 in
theorem coinsOf_any (a : Option Addr) (c : Nat) (zs : List Int) (w : World) (hb : Ins w a zs) (hl : zs.length ≤ 80) (hz : ∀ z ∈ zs, 0 ≤ z) :
    Calls Tryd.prog 30 #[.slice a zs.length c] w fun e w' => ∃ v, e = .returned v ∧ OVV w' w.heap.size v (coinsL zs zs.length) ∧ Below w.heap.size w w' := by
  have HY : Hid (Ins w a zs ∧ ∀ z ∈ zs, 0 ≤ z) := ⟨hb, hz⟩
  have HCL : Hid (∀ k, (coinsL zs k).length ≤ k) := coinsL_len zs
  have HC1 : Hid (∀ k, 0 < zs.getD k 0 → coinsL zs (k + 1) = coinsL zs k ++ [.coin k (zs.getD k 0).toNat]) := fun k h => by simp only [coinsL]; rw [if_pos h]
  have HC0 : Hid (∀ k, ¬ 0 < zs.getD k 0 → coinsL zs k = coinsL zs (k + 1)) := fun k h => by simp only [coinsL]; rw [if_neg h]
  have HCZ : Hid (coinsL zs 0 = [] ∧ True) := ⟨rfl, trivial⟩
  clear hb hz
  generalize hL : zs.length = n at *
  have HL : Hid (zs.length = n ∧ True) := ⟨hL, trivial⟩
  clear hL
  go_enter Tryd.func30, Tryd.ntmps30
  go_wp2
  go_loopw [8, 3] (fun i lv W => ∃ k : Nat, k ≤ n ∧ i = .int .i64 k ∧ OVV W w.heap.size lv (coinsL zs k) ∧ Below w.heap.size w W) (fun i _ _ => n - (intOf i).toNat)
  case atStart => exact ⟨0, Nat.zero_le _, rfl, by rw [HCZ.out.1]; exact OVV.nil _ _, Below.refl _ _⟩
  case round =>
    obtain ⟨k, hk, rfl, hov, hbel⟩ := hrel
    have HR : Hid (OVV wr w.heap.size u3 (coinsL zs k) ∧ Below w.heap.size w wr) := ⟨hov, hbel⟩
    clear hov hbel
    by_cases hlt : k < n
    · obtain ⟨b1, o1, rfl, hb1, hc1⟩ := HY.out.1.2 (by rw [HL.out.1]; omega)
      have hc := keep HR.out.2 hb1 (hc1 k (by rw [HL.out.1]; exact hlt))
      have hz0 : 0 ≤ zs.getD k 0 := HY.out.2 _ (by rw [List.getD_eq_getElem?_getD, List.getElem?_eq_getElem (by rw [HL.out.1]; exact hlt)]; exact List.getElem_mem _)
      obtain ⟨z, hzz⟩ : ∃ z : Nat, zs.getD k 0 = z := ⟨(zs.getD k 0).toNat, by omega⟩
      have H1 := HC1.out k
      have H0 := HC0.out k
      rw [hzz] at hc H1 H0
      have hkn : (k : Int) < (n : Int) := by omega
      have hll := HCL.out k
      obtain ⟨la, lc, hv3, -, -⟩ := HR.out.1.slice
      subst hv3
      clear hc1 hz0 hzz
      by_cases hp : 0 < z
      · have hp2 : (0 : Int) < (z : Int) := by omega
        have HE : Hid (coinsL zs (k + 1) = coinsL zs k ++ [.coin k z]) := H1 hp2
        have HYY : Hid (OVV (wr.alloc (Obj.cells #[.iface 93 (.agg #[.int .i64 k, .int .i64 z])] 56)) w.heap.size (.slice la (coinsL zs k).length lc) (coinsL zs k) ∧ Pcs (wr.alloc (Obj.cells #[.iface 93 (.agg #[.int .i64 k, .int .i64 z])] 56)) (some ⟨wr.heap.size, 0, none⟩) [.coin k z] ∧ w.heap.size ≤ (wr.alloc (Obj.cells #[.iface 93 (.agg #[.int .i64 k, .int .i64 z])] 56)).heap.size ∧ Below w.heap.size w (wr.alloc (Obj.cells #[.iface 93 (.agg #[.int .i64 k, .int .i64 z])] 56))) :=
          ⟨HR.out.1.below ((Below.refl _ _).alloc (Nat.le_refl _) _), pcs_one wr (.coin k z), by have := HR.out.2.size; simp; omega, HR.out.2.alloc HR.out.2.size _⟩
        clear H1 H0
        go_wp2_with (at_builtin; (refine wpList_append_pc (v := .slice la (coinsL zs k).length lc) (qs := [.coin k z]) rfl (.tmp 15) (.tmp 20) 53 53 rfl Tryd.underlying53 Tryd.underlying53 rfl rfl rfl HYY.out.1 HYY.out.2.1 (show (coinsL zs k).length + 1 ≤ 100000 by omega) HYY.out.2.2.1 ?_; intro v9 w9 hov9 hg9 hat9; have H9 : Hid (OVV w9 w.heap.size v9 (coinsL zs (k + 1)) ∧ Below w.heap.size w w9) := ⟨(by rw [HE.out]; exact hov9), HYY.out.2.2.2.grown hg9 HYY.out.2.2.1 (fun j hj => (World.ownsRow.lt HYY.out.1 j hj).1)⟩; clear hov9 hg9 hat9))
        go_roundw
        case rel => exact ⟨k + 1, by omega, by go_num, H9.out.1, H9.out.2⟩
        case measure => simp [intOf]; omega
      · have hp2 : ¬ (0 : Int) < (z : Int) := by omega
        have HE : Hid (coinsL zs k = coinsL zs (k + 1)) := H0 (by omega)
        clear H1 H0
        go_wp2
        go_roundw
        case rel => exact ⟨k + 1, by omega, by go_num, by rw [← HE.out]; exact HR.out.1, HR.out.2⟩
        case measure => simp [intOf]; omega
    · have hkn : k = n := by omega
      subst hkn
      go_wp2
      go_ret
      exact ⟨_, rfl, HR.out.1, HR.out.2⟩
end Go.Proofs.YtkjebacpmmfflaaDoor
