/-
  The model's l2codes.
-/
import Derived.Test.YtpancccomdchnaaGreatDoorHPut3
import Derived.Test.YtpancccomdchnaaGreatDoorCodes1
namespace Go.Proofs.YtpancccomdchnaaGreatDoor
open Go.RowKit
set_option linter.unusedVariables false

set_option maxHeartbeats 3200000 in
theorem l2codes_any (a : Option Addr) (cap : Nat) (zs : List Int) (w : World) (hb : Ins w a zs) (hn : zs.length ≤ 80) :
    Calls Tryz.prog 46 #[.slice a zs.length cap] w fun e w' =>
      e = .returned (.slice (some ⟨w.heap.size, 0, none⟩) zs.length zs.length) ∧ OwI w' w.heap.size w.heap.size zs.length (crun zs (sbL zs 12)).2.2 ∧ Below w.heap.size w w' := by
  obtain ⟨i0, hi, hz0, hz1, hz2⟩ := info_parts Tryz.infoI64
  have HAF : Hid _ := at_first zs
  have HAB : Hid _ := fun M k c out (h : At zs M k c out) h1 h2 h3 => at_bound h h1 h2 hn h3
  have HAY : Hid _ := fun M k c out (h : At zs M k c out) => at_yes h
  have HAN : Hid _ := fun M k c out (h : At zs M k c out) => at_no h
  have HAS : Hid _ := fun M c out h1 h2 h3 => @at_start zs M c out h1 h2 h3
  have HAE : Hid _ := fun M c out h1 h2 => @at_end zs M c out h1 h2
  generalize hlen : zs.length = n at *
  have HL : Hid (zs.length = n) := hlen
  clear hlen
  go_enter Tryz.func46, Tryz.ntmps46
  go_wp2_with (at_make; refine wpList_make_full _ rfl _ _ 35 rfl w.heap.size 3 i0 (.int .i64 0) 1 Tryz.underlying35 hi hz0 hz1 .i64 .i64 _ _ n rfl rfl rfl rfl (by rw [hz2]; omega) (by unfold maxLen; omega) (Nat.le_refl _) ?_; intro w1 hown hgrow)
  have h0 : OwI w1 w.heap.size w.heap.size n (List.replicate n 0) := by
    refine ⟨?_, by intro z hz; simp at hz; omega⟩
    rw [made_zeroI] at hown
    simpa using hown
  have hbw : Below w.heap.size w w1 := (Below.refl _ _).grown hgrow (Nat.le_refl _) (by intro k hk; cases hk)
  have H0 : Hid (OwI w1 w.heap.size w.heap.size n (List.replicate n 0)) := h0
  clear h0 hown hgrow hi hz0 hz1 hz2
  go_loopw [4, 5] (fun x l wr => ∃ (M c : Nat) (y : Int) (out : List Int), y = M ∧ 1 ≤ M ∧ M ≤ 13 ∧ l = .int .i64 y ∧ x = .int .i64 c ∧ c ≤ 8192000 ∧ cv zs (sbL zs (M - 1)) (M - 1) = c ∧ (crun zs (sbL zs (M - 1))).2.2 = out ∧ OwI wr w.heap.size w.heap.size n out ∧ Below w.heap.size w wr) (fun _ l _ => 13 - (intOf l).toNat)
  case atStart => exact ⟨1, 0, 1, List.replicate n 0, rfl, by omega, by omega, rfl, rfl, by omega, HAF.out.1, HAF.out.2, H0.out, hbw⟩
  case round =>
    clear H0 hbw
    obtain ⟨M, c, y, out, hy, hM1, hM, rfl, rfl, hc, hcv, hout, hown, hbel⟩ := hrel
    have HMY : Hid (y = (M : Int)) := hy
    have HM1 : Hid (1 ≤ M ∧ M ≤ 13) := ⟨hM1, hM⟩
    have HCV : Hid (cv zs (sbL zs (M - 1)) (M - 1) = c ∧ (crun zs (sbL zs (M - 1))).2.2 = out) := ⟨hcv, hout⟩
    have HO : Hid (OwI wr w.heap.size w.heap.size n out) := hown
    have hy1 : 1 ≤ y ∧ y ≤ 13 := by omega
    clear hy hM1 hM hcv hout hown
    by_cases hL12 : y ≤ 12
    · have HAT : Hid (At zs M 0 (c * 2) out) := HAS.out M c out HM1.out.1 HCV.out.1 HCV.out.2
      have hM12 : M ≤ 12 := by have := HMY.out; omega
      have HM12 : Hid (M ≤ 12) := hM12
      clear hM12 HCV
      have HBL : Hid (Below w.heap.size w wr) := hbel
      clear hbel
      go_wp2
      go_loopw [4, 6] (fun x i wi => ∃ (k d : Nat) (o2 : List Int), k ≤ n ∧ i = .int .i64 k ∧ x = .int .i64 d ∧ At zs M k d o2 ∧ OwI wi w.heap.size w.heap.size n o2 ∧ Below w.heap.size w wi) (fun _ i _ => n - (intOf i).toNat)
      case atStart => exact ⟨0, c * 2, out, Nat.zero_le _, rfl, by go_num, HAT.out, HO.out, HBL.out⟩
      case round =>
        clear HAT HO HBL
        obtain ⟨k, d, o2, hk, rfl, rfl, hat, hown, hbel⟩ := hrel
        have HAT : Hid (At zs M k d o2) := hat
        have HO : Hid (OwI wr w.heap.size w.heap.size n o2) := hown
        obtain ⟨hd, hol⟩ := HAB.out M k d o2 hat HM1.out.1 HM12.out (by omega)
        clear hat hown
        by_cases hlt : k < n
        · obtain ⟨b1, o1, rfl, hb1, hc1⟩ := (hb.below hbel (Nat.le_refl _)).len_pos k (by rw [HL.out]; exact hlt)
          have hs1 := hc1 k (by rw [HL.out]; exact hlt)
          have g1 := getD_rngI hb.1 k
          have HY := HAY.out M k d o2 HAT.out
          have HN := HAN.out M k d o2 HAT.out
          clear hc1
          generalize zs.getD k 0 = x at *
          by_cases hx : x = y
          · have HA2 : Hid (At zs M (k + 1) (d + 1) (o2.set k ((d : Nat) : Int))) := HY (hx.trans HMY.out)
            subst hx
            have hdst := HO.out.cell k (by rw [hol]; exact hlt)
            have hfz := HO.out.frozen k
            have hdr : -9223372036854775808 ≤ ((d : Nat) : Int) ∧ ((d : Nat) : Int) ≤ 9223372036854775807 := by omega
            have HR : Hid (OwI (wr.setCell ⟨w.heap.size, k, none⟩ (.int .i64 (d : Nat))) w.heap.size w.heap.size n (o2.set k ((d : Nat) : Int))) := HO.out.store k ((d : Nat) : Int) hdr
            have HB : Hid (Below w.heap.size w (wr.setCell ⟨w.heap.size, k, none⟩ (.int .i64 (d : Nat)))) := hbel.setCell (p := ⟨w.heap.size, k, none⟩) (Nat.le_refl _) _
            clear HY HN HO hbel hol hdr
            generalize o2.getD k 0 = old at *
            go_wp2
            go_roundw
            case rel => exact ⟨k + 1, d + 1, _, by omega, by go_num, by go_num, HA2.out, by simpa using HR.out, by simpa using HB.out⟩
            case measure => simp [intOf]; omega
          · have HA2 : Hid (At zs M (k + 1) d o2) := HN (fun h => hx (h.trans HMY.out.symm))
            have hxx : (x == y) = false := by simpa using hx
            clear HY HN hx hol
            go_wp2
            go_roundw
            case rel => exact ⟨k + 1, d, o2, by omega, by go_num, rfl, HA2.out, HO.out, hbel⟩
            case measure => simp [intOf]; omega
        · have hkn : k = n := by omega
          subst hkn
          have HE := HAE.out M d o2 HM1.out.1 HAT.out
          have HE1 : Hid _ := HE
          clear HE hol
          go_wp2
          go_roundw
          case rel => exact ⟨M + 1, d, y + 1, o2, by have := HMY.out; omega, by omega, by have := HM12.out; omega, by go_num, rfl, hd, HE1.out.1, HE1.out.2, HO.out, hbel⟩
          case measure => simp [intOf]; omega
    · have hLe : M = 13 := by have := HMY.out; have := HM1.out; omega
      subst hLe
      have HA : Hid (OwI wr w.heap.size w.heap.size n (crun zs (sbL zs 12)).2.2) := by have h : (crun zs (sbL zs 12)).2.2 = out := HCV.out.2; rw [h]; exact HO.out
      clear HO HCV
      go_wp2
      go_ret
      exact ⟨rfl, HA.out, hbel⟩
end Go.Proofs.YtpancccomdchnaaGreatDoor
