/-
  Shares as bits: the model's way to put them.
-/
import Derived.Test.YtfhcaoabohmkkaaDoorNPut
namespace Go.Proofs.YtfhcaoabohmkkaaDoor
open Go.RowKit
set_option linter.unusedVariables false

theorem wpow (k : Nat) (h : k ≤ 12) : wrap64 (2 ^ k) = ((2 ^ k : Nat) : Int) := by
  have h2 : 2 ^ k ≤ 2 ^ 12 := Nat.pow_le_pow_right (by omega) h
  have e : ((2 : Int) ^ k) = ((2 ^ k : Nat) : Int) := by simp
  rw [e]
  generalize 2 ^ k = P at *
  exact IntWalk.wrap64_in _ (by omega)

set_option maxHeartbeats 1600000 in
theorem l3putNorm_any (a : Option Addr) (cap : Nat) (zs : List Int) (R B : Nat) (w0 w : World) (hb : Ins w0 a zs) (hB : w0.heap.size = B) (hbel : Below B w0 w) (hw : SI w B R 0 0) (hn : normB zs = true) :
    Calls Tryd.prog 38 #[.pointer (some ⟨R, 0, none⟩), .slice a zs.length cap] w fun e w' => e = .returned (.tuple #[]) ∧ SI w' B R (nb zs zs.length) (vb zs zs.length) ∧ Below B w0 w' := by
  obtain ⟨hn1, hn2⟩ := normB_bnd hn
  have HE : Hid _ := fun k => lft_eq hn k
  have HU : Hid _ := fun k hk => lft_succ hn k hk
  have HNB : Hid _ := fun k => nb_le hn k
  have HREST : Hid _ := fun k h1 h2 => put_rest hn k h1 h2
  have HEND : Hid (lft zs zs.length = 0) := lft_end hn
  have HW : Hid (SI w B R 0 0) := hw
  clear hn hw
  generalize hlen : zs.length = n at *
  have HL : Hid (zs.length = n) := hlen
  clear hlen
  go_enter Tryd.func38, Tryd.ntmps38
  go_wp2
  go_loopw [4, 5] (fun l i wr => ∃ k : Nat, k ≤ n ∧ i = .int .i64 k ∧ l = .int .i64 (lft zs k : Nat) ∧ SI wr B R (nb zs k) (vb zs k) ∧ Below B w0 wr) (fun _ i _ => n - (intOf i).toNat)
  case atStart => exact ⟨0, Nat.zero_le _, rfl, by simp [lft], HW.out, hbel⟩
  case round =>
    clear HW hbel
    obtain ⟨k, hk, rfl, rfl, hwi, hbel⟩ := hrel
    have HWI : Hid (SI wr B R (nb zs k) (vb zs k)) := hwi
    clear hwi
    by_cases hl0 : lft zs k = 0
    · have hr := HREST.out k hk hl0
      have HF : Hid (SI wr B R (nb zs n) (vb zs n)) := by rw [hr.1, hr.2]; exact HWI.out
      rw [hl0]
      clear hr hl0
      by_cases hlt : k < n
      · go_wp2
        go_end0
        exact ⟨rfl, HF.out, hbel⟩
      · go_wp2
        go_end0
        exact ⟨rfl, HF.out, hbel⟩
    · have hlt : k < n := by
        have : k ≠ n := fun h => hl0 (by rw [h]; exact HEND.out)
        omega
      obtain ⟨b1, o1, rfl, hb1, hc1⟩ := (hb.below hbel (by omega)).len_pos k (by rw [HL.out]; exact hlt)
      have hs1 := hc1 k (by rw [HL.out]; exact hlt)
      have hl := (HE.out k).2
      have hu := HU.out k hlt
      have hnb := HNB.out k
      have HSN : Hid (nb zs (k + 1) = nb zs k + bl (lft zs k)) := rfl
      have HSV : Hid (vb zs (k + 1) = vb zs k + (zs.getD k 0).toNat * 2 ^ nb zs k) := rfl
      have hb7 := bl_le7 (lft zs k) hl
      have hb8 := bl_lt (lft zs k) (by omega)
      have HGE : Hid _ := fun j hj => bl_ge (lft zs k) j (by omega) hj
      clear hc1
      generalize hxx : zs.getD k 0 = x at *
      generalize lft zs k = l at *
      generalize nb zs k = N at *
      generalize vb zs k = V at *
      have hxl : x < 2 ^ bl l := by
        have e : ((2 : Int) ^ bl l) = ((2 ^ bl l : Nat) : Int) := by simp
        rw [e]; omega
      have HXL : Hid (x < 2 ^ ((bl l : Nat) : Int).toNat) := by simpa [Hid] using hxl
      have HB8 : Hid (l < 2 ^ bl l) := hb8
      clear hxl hb8
      generalize bl l = m at *
      go_wp2
      go_loopw [6] (fun i wi => ∃ j : Nat, j ≤ m ∧ i = .int .i64 j ∧ wi = wr) (fun i _ => m - (intOf i).toNat)
      case atStart => exact ⟨0, Nat.zero_le _, rfl, rfl⟩
      case round =>
        obtain ⟨j, hj, rfl, rfl⟩ := hrel
        by_cases hjl : j < m
        · have hp : wrap64 (2 ^ j) ≤ (l : Int) := by rw [wpow j (by omega)]; have := HGE.out j hjl; omega
          go_wp2
          go_roundw
          case rel => exact ⟨j + 1, by omega, by go_num, by simp⟩
          case measure => simp [intOf]; omega
        · have hjm : j = m := by omega
          subst hjm
          have hp : (l : Int) < wrap64 (2 ^ j) := by rw [wpow _ (by omega)]; have := HB8.out; omega
          have hp2 : decide (wrap64 (2 ^ j) ≤ (l : Int)) = false := by simpa using hp
          have HP : Hid ((l : Int) < wrap64 (2 ^ j)) := hp
          clear hj hjl HGE HB8 hp
          go_wp2_with fail
          refine (HWI.out.put x (j : Nat) hu.2.1 (by omega) (by omega) HXL.out (by omega)).mono ?_
          rintro e w2 ⟨rfl, hwi2, hb2⟩
          have HWI2 : Hid (SI w2 B R (nb zs (k + 1)) (vb zs (k + 1))) := by rw [HSN.out, HSV.out]; simpa [Hid] using hwi2
          have HB2 : Hid (Below B w0 w2) := hbel.trans hb2
          obtain ⟨b3, o3, he3, hb3, hc3⟩ := (hb.below HB2.out (by omega)).len_pos k (by rw [HL.out]; exact hlt)
          obtain ⟨rfl, rfl⟩ : b1 = b3 ∧ o1 = o3 := by simpa using he3
          have hs3 := hc3 k (by rw [HL.out]; exact hlt)
          rw [hxx] at hs3
          clear hwi2 hb2 hbel HWI hc3 he3 hs1
          have E1 : Hid ((l : Int) - x = ((lft zs (k + 1) : Nat) : Int)) := by unfold Hid; omega
          have hx2 : 0 ≤ x ∧ x ≤ l := hu.2
          clear HSN HSV HXL hu hp2 HP
          go_wp2
          go_roundw
          case rel => exact ⟨k + 1, by omega, by go_num, by rw [E1.out], HWI2.out, HB2.out⟩
          case measure => simp [intOf]; omega
end Go.Proofs.YtfhcaoabohmkkaaDoor
