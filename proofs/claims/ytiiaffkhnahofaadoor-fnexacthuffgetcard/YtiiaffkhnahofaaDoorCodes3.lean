/-
  The model's l2codes.
-/
import Derived.Test.YtiiaffkhnahofaaDoorCodes1
namespace Go.Proofs.YtiiaffkhnahofaaDoor
open Go.RowKit
set_option linter.unusedVariables false

/-- The next code of L bits. -/
def cv (zs l : List Int) (L : Nat) : Nat := (crun zs l).1 * 2 ^ (L - (crun zs l).2.1)
theorem cv_double (zs l : List Int) (L : Nat) (h : (crun zs l).2.1 ≤ L) : cv zs l (L + 1) = cv zs l L * 2 := by
  unfold cv
  rw [show L + 1 - (crun zs l).2.1 = (L - (crun zs l).2.1) + 1 from by omega, Nat.pow_succ, Nat.mul_assoc]
theorem cv_snoc (zs l : List Int) (s : Int) (L : Nat) (h : zN zs s = L) : cv zs (l ++ [s]) L = cv zs l L + 1 ∧ (crun zs (l ++ [s])).2.2 = (crun zs l).2.2.set s.toNat (cv zs l L : Nat) := by
  unfold cv
  rw [crun_snoc]
  simp only [cst, h]
  simp
theorem cv_bound (zs l : List Int) (L : Nat) (h : asc zs l) (hl : (crun zs l).2.1 ≤ L) (hL : L ≤ 12) (hn : l.length ≤ 2000) : cv zs l L ≤ 8192000 := by
  have h1 := (cr_step _ _ L l.length hl (cr_full zs l h)).1
  have h2 : 2 ^ L ≤ 2 ^ 12 := Nat.pow_le_pow_right (by omega) hL
  have h3 : l.length * 2 ^ L ≤ 2000 * 2 ^ 12 := Nat.mul_le_mul hn h2
  unfold cv
  exact Nat.le_trans h1 (Nat.le_trans h3 (by decide))
theorem cv_nil (zs : List Int) : cv zs [] 0 = 0 := by simp [cv, crun_nil]

/-- All that the walk asks, at length M and the symbols below k. -/
structure At (zs : List Int) (M k c : Nat) (out : List Int) : Prop where
  c : cv zs (sbL zs (M - 1) ++ atL zs M k) M = c
  out : (crun zs (sbL zs (M - 1) ++ atL zs M k)).2.2 = out
theorem at_bound {zs : List Int} {M k c : Nat} {out : List Int} (h : At zs M k c out) (hM : 1 ≤ M) (hM2 : M ≤ 12) (hn : zs.length ≤ 80) (hk : k ≤ zs.length) : c ≤ 8192000 ∧ out.length = zs.length := by
  obtain ⟨l, rfl⟩ : ∃ l, M = l + 1 := ⟨M - 1, by omega⟩
  have hs := sbL_len zs l
  have ha := atL_len zs (l + 1) k
  have hm : l * zs.length ≤ 11 * 80 := Nat.mul_le_mul (by omega) hn
  refine ⟨?_, by rw [← h.out]; exact crun_len zs _⟩
  rw [← h.c]
  refine cv_bound zs _ _ (asc_part zs l k) (cr_ln zs _ _ (fun a ha => ?_)) hM2 (by rw [List.length_append]; simp; omega)
  rcases List.mem_append.1 ha with h1 | h1
  · have := zN_sb zs l a h1; omega
  · have := zN_at zs (l + 1) k a h1; omega
theorem at_yes {zs : List Int} {M k c : Nat} {out : List Int} (h : At zs M k c out) (hz : zs.getD k 0 = (M : Int)) : At zs M (k + 1) (c + 1) (out.set k ((c : Nat) : Int)) := by
  have e : sbL zs (M - 1) ++ atL zs M (k + 1) = (sbL zs (M - 1) ++ atL zs M k) ++ [(k : Int)] := by rw [atL_yes zs M k hz, List.append_assoc]
  have hzn : zN zs (k : Int) = M := by unfold zN; rw [Int.toNat_natCast, hz]; simp
  obtain ⟨s1, s2⟩ := cv_snoc zs (sbL zs (M - 1) ++ atL zs M k) (k : Int) M hzn
  refine ⟨by rw [e, s1, h.c], ?_⟩
  rw [e, s2, h.c, h.out]
  simp
theorem at_no {zs : List Int} {M k c : Nat} {out : List Int} (h : At zs M k c out) (hz : ¬ zs.getD k 0 = (M : Int)) : At zs M (k + 1) c out := by
  refine ⟨?_, ?_⟩
  · rw [atL_no zs M k hz]; exact h.c
  · rw [atL_no zs M k hz]; exact h.out
theorem at_first (zs : List Int) : cv zs (sbL zs 0) 0 = 0 ∧ (crun zs (sbL zs 0)).2.2 = List.replicate zs.length 0 := ⟨cv_nil zs, rfl⟩
theorem at_start {zs : List Int} {M c : Nat} {out : List Int} (hM : 1 ≤ M) (hc : cv zs (sbL zs (M - 1)) (M - 1) = c) (ho : (crun zs (sbL zs (M - 1))).2.2 = out) : At zs M 0 (c * 2) out := by
  obtain ⟨l, rfl⟩ : ∃ l, M = l + 1 := ⟨M - 1, by omega⟩
  simp only [Nat.add_sub_cancel] at hc ho
  refine ⟨?_, ?_⟩
  · rw [atL_zero, List.append_nil, Nat.add_sub_cancel, cv_double zs _ l (cr_ln zs _ _ (zN_sb zs l)), hc]
  · rw [atL_zero, List.append_nil, Nat.add_sub_cancel]; exact ho
theorem at_end {zs : List Int} {M c : Nat} {out : List Int} (hM : 1 ≤ M) (h : At zs M zs.length c out) : cv zs (sbL zs M) M = c ∧ (crun zs (sbL zs M)).2.2 = out := by
  obtain ⟨l, rfl⟩ : ∃ l, M = l + 1 := ⟨M - 1, by omega⟩
  have e : sbL zs (l + 1) = sbL zs (l + 1 - 1) ++ atL zs (l + 1) zs.length := rfl
  rw [e]
  exact ⟨h.c, h.out⟩

set_option maxHeartbeats 3200000 in
theorem l2codes_any (a : Option Addr) (cap : Nat) (zs : List Int) (w : World) (hb : Ins w a zs) (hn : zs.length ≤ 80) :
    Calls Tryd.prog 38 #[.slice a zs.length cap] w fun e w' =>
      e = .returned (.slice (some ⟨w.heap.size, 0, none⟩) zs.length zs.length) ∧ OwI w' w.heap.size w.heap.size zs.length (crun zs (sbL zs 12)).2.2 ∧ Below w.heap.size w w' := by
  obtain ⟨i0, hi, hz0, hz1, hz2⟩ := info_parts Tryd.infoI64
  have HAF : Hid _ := at_first zs
  have HAB : Hid _ := fun M k c out (h : At zs M k c out) h1 h2 h3 => at_bound h h1 h2 hn h3
  have HAY : Hid _ := fun M k c out (h : At zs M k c out) => at_yes h
  have HAN : Hid _ := fun M k c out (h : At zs M k c out) => at_no h
  have HAS : Hid _ := fun M c out h1 h2 h3 => @at_start zs M c out h1 h2 h3
  have HAE : Hid _ := fun M c out h1 h2 => @at_end zs M c out h1 h2
  generalize hlen : zs.length = n at *
  have HL : Hid (zs.length = n) := hlen
  clear hlen
  go_enter Tryd.func38, Tryd.ntmps38
  go_wp2_with (at_make; refine wpList_make_full _ rfl _ _ 22 rfl w.heap.size 3 i0 (.int .i64 0) 1 Tryd.underlying22 hi hz0 hz1 .i64 .i64 _ _ n rfl rfl rfl rfl (by rw [hz2]; omega) (by unfold maxLen; omega) (Nat.le_refl _) ?_; intro w1 hown hgrow)
  have h0 : OwI w1 w.heap.size w.heap.size n (List.replicate n 0) := by
    refine ⟨?_, by intro z hz; simp at hz; omega⟩
    rw [made_zeroI] at hown
    simpa using hown
  have hbw : Below w.heap.size w w1 := (Below.refl _ _).grown hgrow (Nat.le_refl _) (by intro k hk; cases hk)
  have H0 : Hid (OwI w1 w.heap.size w.heap.size n (List.replicate n 0)) := h0
  clear h0 hown hgrow hi hz0 hz1 hz2
  go_loopw [4, 5] (fun x l wr => ∃ (M c : Nat) (y : Int) (out : List Int), y = M ∧ 1 ≤ M ∧ M ≤ 13 ∧ l = .int .i64 y ∧ x = .int .i64 c ∧ c ≤ 8192000 ∧ cv zs (sbL zs (M - 1)) (M - 1) = c ∧ (crun zs (sbL zs (M - 1))).2.2 = out ∧ OwI wr w.heap.size w.heap.size n out ∧ Below w.heap.size w wr) (fun _ l _ => 13 - (intOf l).toNat)
  case atStart => exact ⟨1, 0, 1, List.replicate n 0, rfl, by omega, by omega, rfl, rfl, by omega, HAF.out.1, HAF.out.2, H0.out, hbw⟩
  case round =>
    clear H0 hbw
    obtain ⟨M, c, y, out, hy, hM1, hM, rfl, rfl, hc, hcv, hout, hown, hbel⟩ := hrel
    have HMY : Hid (y = (M : Int)) := hy
    have HM1 : Hid (1 ≤ M ∧ M ≤ 13) := ⟨hM1, hM⟩
    have HCV : Hid (cv zs (sbL zs (M - 1)) (M - 1) = c ∧ (crun zs (sbL zs (M - 1))).2.2 = out) := ⟨hcv, hout⟩
    have HO : Hid (OwI wr w.heap.size w.heap.size n out) := hown
    have hy1 : 1 ≤ y ∧ y ≤ 13 := by omega
    clear hy hM1 hM hcv hout hown
    by_cases hL12 : y ≤ 12
    · have HAT : Hid (At zs M 0 (c * 2) out) := HAS.out M c out HM1.out.1 HCV.out.1 HCV.out.2
      have hM12 : M ≤ 12 := by have := HMY.out; omega
      have HM12 : Hid (M ≤ 12) := hM12
      clear hM12 HCV
      have HBL : Hid (Below w.heap.size w wr) := hbel
      clear hbel
      go_wp2
      go_loopw [4, 6] (fun x i wi => ∃ (k d : Nat) (o2 : List Int), k ≤ n ∧ i = .int .i64 k ∧ x = .int .i64 d ∧ At zs M k d o2 ∧ OwI wi w.heap.size w.heap.size n o2 ∧ Below w.heap.size w wi) (fun _ i _ => n - (intOf i).toNat)
      case atStart => exact ⟨0, c * 2, out, Nat.zero_le _, rfl, by go_num, HAT.out, HO.out, HBL.out⟩
      case round =>
        clear HAT HO HBL
        obtain ⟨k, d, o2, hk, rfl, rfl, hat, hown, hbel⟩ := hrel
        have HAT : Hid (At zs M k d o2) := hat
        have HO : Hid (OwI wr w.heap.size w.heap.size n o2) := hown
        obtain ⟨hd, hol⟩ := HAB.out M k d o2 hat HM1.out.1 HM12.out (by omega)
        clear hat hown
        by_cases hlt : k < n
        · obtain ⟨b1, o1, rfl, hb1, hc1⟩ := (hb.below hbel (Nat.le_refl _)).len_pos k (by rw [HL.out]; exact hlt)
          have hs1 := hc1 k (by rw [HL.out]; exact hlt)
          have g1 := getD_rngI hb.1 k
          have HY := HAY.out M k d o2 HAT.out
          have HN := HAN.out M k d o2 HAT.out
          clear hc1
          generalize zs.getD k 0 = x at *
          by_cases hx : x = y
          · have HA2 : Hid (At zs M (k + 1) (d + 1) (o2.set k ((d : Nat) : Int))) := HY (hx.trans HMY.out)
            subst hx
            have hdst := HO.out.cell k (by rw [hol]; exact hlt)
            have hfz := HO.out.frozen k
            have hdr : -9223372036854775808 ≤ ((d : Nat) : Int) ∧ ((d : Nat) : Int) ≤ 9223372036854775807 := by omega
            have HR : Hid (OwI (wr.setCell ⟨w.heap.size, k, none⟩ (.int .i64 (d : Nat))) w.heap.size w.heap.size n (o2.set k ((d : Nat) : Int))) := HO.out.store k ((d : Nat) : Int) hdr
            have HB : Hid (Below w.heap.size w (wr.setCell ⟨w.heap.size, k, none⟩ (.int .i64 (d : Nat)))) := hbel.setCell (p := ⟨w.heap.size, k, none⟩) (Nat.le_refl _) _
            clear HY HN HO hbel hol hdr
            generalize o2.getD k 0 = old at *
            go_wp2
            go_roundw
            case rel => exact ⟨k + 1, d + 1, _, by omega, by go_num, by go_num, HA2.out, by simpa using HR.out, by simpa using HB.out⟩
            case measure => simp [intOf]; omega
          · have HA2 : Hid (At zs M (k + 1) d o2) := HN (fun h => hx (h.trans HMY.out.symm))
            have hxx : (x == y) = false := by simpa using hx
            clear HY HN hx hol
            go_wp2
            go_roundw
            case rel => exact ⟨k + 1, d, o2, by omega, by go_num, rfl, HA2.out, HO.out, hbel⟩
            case measure => simp [intOf]; omega
        · have hkn : k = n := by omega
          subst hkn
          have HE := HAE.out M d o2 HM1.out.1 HAT.out
          have HE1 : Hid _ := HE
          clear HE hol
          go_wp2
          go_roundw
          case rel => exact ⟨M + 1, d, y + 1, o2, by have := HMY.out; omega, by omega, by have := HM12.out; omega, by go_num, rfl, hd, HE1.out.1, HE1.out.2, HO.out, hbel⟩
          case measure => simp [intOf]; omega
    · have hLe : M = 13 := by have := HMY.out; have := HM1.out; omega
      subst hLe
      have HA : Hid (OwI wr w.heap.size w.heap.size n (crun zs (sbL zs 12)).2.2) := by have h : (crun zs (sbL zs 12)).2.2 = out := HCV.out.2; rw [h]; exact HO.out
      clear HO HCV
      go_wp2
      go_ret
      exact ⟨rfl, HA.out, hbel⟩
end Go.Proofs.YtiiaffkhnahofaaDoor
