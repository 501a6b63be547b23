/-
  The program's putLens.
-/
import Derived.Test.YtkolfmjlkfkleaaDoorLPut
namespace Go.Proofs.YtkolfmjlkfkleaaDoor
open Go.RowKit
set_option linter.unusedVariables false

set_option maxHeartbeats 1600000 in
theorem putLens_yes (a : Option Addr) (cap : Nat) (zs : List Int) (R B : Nat) (w0 w : World) (hb : Ins w0 a zs) (hB : w0.heap.size = B) (hbel : Below B w0 w) (hw : WI w B R 0 0) (hn : zs.length ≤ 80) (hcap : zs.length ≤ cap) (hok : ∀ z ∈ zs, 0 ≤ z ∧ z ≤ 12) :
    Calls Tryd.prog 56 #[.pointer (some ⟨R, 0, none⟩), .slice a zs.length cap] w fun e w' => e = .returned .nilIface ∧ WI w' B R (lpF zs).1 (lpF zs).2 ∧ Below B w0 w' := by
  have HOK : Hid (∀ k, k < zs.length → 0 ≤ zs.getD k 0 ∧ zs.getD k 0 ≤ 12) := fun k hk => hok _ (getD_mem hk)
  have HRL : Hid _ := fun i hi => run_le zs i hi
  have HLE : Hid _ := lp_end zs
  have HLZ : Hid _ := lp_zero zs
  have HLP : Hid _ := lp_pos zs
  have HW : Hid (WI w B R 0 0) := hw
  have HF : Hid (lp zs zs.length 0 0 0 = lpF zs) := rfl
  have HND : Hid (∀ (a : Option Addr) (cap i m : Nat) (w : World), m = zs.length - i → Ins w a (zs.drop i) → Calls Tryd.prog 71 #[.slice a m cap] w fun e w' => e = .returned (.int .i64 (nou (zs.drop i) : Nat)) ∧ w' = w)   := fun a cap i m w hm h => by
    subst hm
    have := noughts_any a cap (zs.drop i) w h (by rw [List.length_drop]; omega)
    rw [List.length_drop] at this
    exact this
  clear hok hw
  generalize hlen : zs.length = n at *
  have HL : Hid (zs.length = n) := hlen
  clear hlen
  go_enter Tryd.func56, Tryd.ntmps56
  go_wp2
  go_loopw [5] (fun i wr => ∃ k N V f : Nat, k ≤ n ∧ i = .int .i64 k ∧ N ≤ 7 * k ∧ n - k ≤ f ∧ lp zs f k N V = lpF zs ∧ WI wr B R N V ∧ Below B w0 wr) (fun i _ => n - (intOf i).toNat)
  case atStart => exact ⟨0, 0, 0, n, Nat.zero_le _, rfl, by omega, by omega, HF.out, HW.out, hbel⟩
  case round =>
    clear HW hbel HF
    obtain ⟨k, N, V, f, hk, rfl, hN, hf, hlp, hwi, hbel⟩ := hrel
    have HWI : Hid (WI wr B R N V) := hwi
    have HP : Hid (lp zs f k N V = lpF zs) := hlp
    clear hwi hlp
    by_cases hlt : k < n
    · obtain ⟨b1, o1, rfl, hb1, hc1⟩ := (hb.below hbel (by omega)).len_pos k (by rw [HL.out]; exact hlt)
      have hs1 := hc1 k (by rw [HL.out]; exact hlt)
      have hx := HOK.out k hlt
      have hr := HRL.out k hlt
      obtain ⟨f, rfl⟩ : ∃ f', f = f' + 1 := ⟨f - 1, by omega⟩
      have HZ := HLZ.out f k N V hlt
      have HQ := HLP.out f k N V hlt
      rw [HP.out] at HZ HQ
      have HZ' : Hid _ := HZ
      have HQ' : Hid _ := HQ
      clear hc1 HZ HQ HP
      generalize hxx : zs.getD k 0 = x at *
      go_wp2_with fail
      refine (HWI.out.put x 4 hx.1 (by omega) (by omega) (by simp; omega) (by omega) (by omega)).mono ?_
      rintro e w2 ⟨rfl, hwi2, hb2⟩
      have HWI2 : Hid (WI w2 B R (N + 4) (V + x.toNat * 2 ^ N)) := hwi2
      have hbel2 : Below B w0 w2 := hbel.trans hb2
      obtain ⟨b3, o3, he3, hb3, hc3⟩ := (hb.below hbel2 (by omega)).len_pos k (by rw [HL.out]; exact hlt)
      obtain ⟨rfl, rfl⟩ : b1 = b3 ∧ o1 = o3 := by simpa using he3
      have hs3 := hc3 k (by rw [HL.out]; exact hlt)
      rw [hxx] at hs3
      clear hwi2 hb2 hbel HWI hc3 he3 hs1
      by_cases hz : x = 0
      · have E := HZ'.out hz
        have HE : Hid (lp zs f (k + 1 + run zs k) (N + 7) (V + run zs k * 2 ^ (N + 4)) = lpF zs) := E.symm
        have HRU : Hid (run zs k = min (nou (zs.drop (k + 1))) 7) := rfl
        clear HZ' HQ' E
        subst hz
        have HWI3 : Hid (WI w2 B R (N + 4) V) := by simpa [Hid] using HWI2.out
        clear HWI2
        have HIN : Hid (∀ a', (a' = some ⟨b1, o1 + (k + 1), none⟩ ∨ n ≤ k + 1) → Ins w2 a' (zs.drop (k + 1))) := by
          rintro a' (rfl | h)
          · exact (hb.below hbel2 (by omega)).drop (k + 1)
          · have e : zs.drop (k + 1) = [] := List.drop_eq_nil_of_le (by rw [HL.out]; exact h)
            rw [e]
            exact ⟨by simp, by simp⟩
        by_cases hcc : cap = k + 1
        · subst hcc
          go_wp2_with fail
          refine (HND.out _ _ (k + 1) _ w2 (by omega) (HIN.out _ (by first | exact .inl rfl | exact .inr (by omega)))).mono ?_
          rintro e w3 ⟨rfl, rfl⟩
          generalize nou (zs.drop (k + 1)) = q at *
          generalize run zs k = r at *
          have hrq : r = min q 7 := HRU.out
          clear HRU HIN
          rcases (show (q ≤ 7 ∧ r = q) ∨ (7 < q ∧ r = 7) by omega) with ⟨hq, hr2⟩ | ⟨hq, hr2⟩
          · subst hr2
            clear hrq
            go_wp2_with fail
            refine (HWI3.out.put (r : Nat) 3 (by omega) (by omega) (by omega) (by simp; try omega) (by omega) (by omega)).mono ?_
            rintro e w4 ⟨rfl, hwi4, hb4⟩
            have HWI4 : Hid (WI w4 B R (N + 7) (V + r * 2 ^ (N + 4))) := by simpa [Hid] using hwi4
            have HB4 : Hid (Below B w0 w4) := hbel2.trans hb4
            clear hwi4 hb4 HWI3
            go_wp2
            go_roundw
            case rel => exact ⟨k + 1 + r, N + 7, V + r * 2 ^ (N + 4), f, by omega, by go_num, by omega, by omega, HE.out, HWI4.out, HB4.out⟩
            case measure => simp [intOf]; omega
          · subst hr2
            clear hrq
            go_wp2_with fail
            refine (HWI3.out.put 7 3 (by omega) (by omega) (by omega) (by simp; try omega) (by omega) (by omega)).mono ?_
            rintro e w4 ⟨rfl, hwi4, hb4⟩
            have HWI4 : Hid (WI w4 B R (N + 7) (V + 7 * 2 ^ (N + 4))) := by simpa [Hid] using hwi4
            have HB4 : Hid (Below B w0 w4) := hbel2.trans hb4
            clear hwi4 hb4 HWI3
            go_wp2
            go_roundw
            case rel => exact ⟨k + 1 + 7, N + 7, V + 7 * 2 ^ (N + 4), f, by omega, by go_num, by omega, by omega, HE.out, HWI4.out, HB4.out⟩
            case measure => simp [intOf]; omega
        · have hc2 : ¬ cap - (k + 1) = 0 := by omega
          go_wp2_with fail
          refine (HND.out _ _ (k + 1) _ w2 (by omega) (HIN.out _ (by first | exact .inl rfl | exact .inr (by omega)))).mono ?_
          rintro e w3 ⟨rfl, rfl⟩
          generalize nou (zs.drop (k + 1)) = q at *
          generalize run zs k = r at *
          have hrq : r = min q 7 := HRU.out
          clear HRU HIN
          rcases (show (q ≤ 7 ∧ r = q) ∨ (7 < q ∧ r = 7) by omega) with ⟨hq, hr2⟩ | ⟨hq, hr2⟩
          · subst hr2
            clear hrq
            go_wp2_with fail
            refine (HWI3.out.put (r : Nat) 3 (by omega) (by omega) (by omega) (by simp; try omega) (by omega) (by omega)).mono ?_
            rintro e w4 ⟨rfl, hwi4, hb4⟩
            have HWI4 : Hid (WI w4 B R (N + 7) (V + r * 2 ^ (N + 4))) := by simpa [Hid] using hwi4
            have HB4 : Hid (Below B w0 w4) := hbel2.trans hb4
            clear hwi4 hb4 HWI3
            go_wp2
            go_roundw
            case rel => exact ⟨k + 1 + r, N + 7, V + r * 2 ^ (N + 4), f, by omega, by go_num, by omega, by omega, HE.out, HWI4.out, HB4.out⟩
            case measure => simp [intOf]; omega
          · subst hr2
            clear hrq
            go_wp2_with fail
            refine (HWI3.out.put 7 3 (by omega) (by omega) (by omega) (by simp; try omega) (by omega) (by omega)).mono ?_
            rintro e w4 ⟨rfl, hwi4, hb4⟩
            have HWI4 : Hid (WI w4 B R (N + 7) (V + 7 * 2 ^ (N + 4))) := by simpa [Hid] using hwi4
            have HB4 : Hid (Below B w0 w4) := hbel2.trans hb4
            clear hwi4 hb4 HWI3
            go_wp2
            go_roundw
            case rel => exact ⟨k + 1 + 7, N + 7, V + 7 * 2 ^ (N + 4), f, by omega, by go_num, by omega, by omega, HE.out, HWI4.out, HB4.out⟩
            case measure => simp [intOf]; omega
      · have E := HQ'.out hz
        have HE : Hid (lp zs f (k + 1) (N + 4) (V + x.toNat * 2 ^ N) = lpF zs) := E.symm
        have hne : (x != 0) = true := by simpa using hz
        have HB2 : Hid (Below B w0 w2) := hbel2
        clear HZ' HQ' E hbel2
        go_wp2
        go_roundw
        case rel => exact ⟨k + 1, N + 4, V + x.toNat * 2 ^ N, f, by omega, by go_num, by omega, by omega, HE.out, HWI2.out, HB2.out⟩
        case measure => simp [intOf]; omega
    · have hkn : k = n := by omega
      subst hkn
      have E := HLE.out f k N V (by omega)
      rw [HP.out] at E
      have HA : Hid (WI wr B R (lpF zs).1 (lpF zs).2) := by rw [E]; exact HWI.out
      clear E HWI HP
      go_wp2
      go_ret
      exact ⟨rfl, HA.out, hbel⟩
end Go.Proofs.YtkolfmjlkfkleaaDoor
