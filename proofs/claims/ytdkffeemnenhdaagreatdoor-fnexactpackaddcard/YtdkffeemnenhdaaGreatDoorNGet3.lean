/-
  The model's l3getNorm.
-/
import Derived.Test.YtdkffeemnenhdaaGreatDoorGbT
import Derived.Test.YtdkffeemnenhdaaGreatDoorUs1
namespace Go.Proofs.YtdkffeemnenhdaaGreatDoor
open Go.RowKit
set_option linter.unusedVariables false

theorem wpowN (k : Nat) (h : k ≤ 12) : wrap64 (2 ^ k) = ((2 ^ k : Nat) : Int) := by
  have h2 : 2 ^ k ≤ 2 ^ 12 := Nat.pow_le_pow_right (by omega) h
  have e : ((2 : Int) ^ k) = ((2 ^ k : Nat) : Int) := by simp
  rw [e]
  generalize 2 ^ k = P at *
  exact IntWalk.wrap64_in _ (by omega)

set_option maxHeartbeats 3200000 in
theorem l3getNorm_any (a : Option Addr) (cap : Nat) (zs : List Int) (n V p s : Nat) (w : World) (hb : Byt w a zs) (hz : zs = enc n V) (hn : n ≤ 4096) (hp : p ≤ n) (hs1 : 1 ≤ s) (hs : s ≤ 80) :
    Calls Tryz.prog 77 #[.agg #[.slice a zs.length cap, .int .i64 n], .int .i64 p, .int .i64 s] w fun e w' => Below w.heap.size w w' ∧
      (gotN n V p s → e = .returned (.tuple #[.slice (some ⟨w.heap.size + 1, 0, none⟩) s s, .int .i64 ((gL V p s).2 : Nat), .bool true]) ∧ OwI w' w.heap.size (w.heap.size + 1) s (gXs V p s)) ∧
      (¬ gotN n V p s → ∃ v y, e = .returned (.tuple #[v, .int .i64 y, .bool false])) := by
  obtain ⟨i0, hi, hz0, hz1, hz2⟩ := info_parts Tryz.infoI64
  have HZ : Hid (zs = enc n V) := hz
  have HXL : Hid _ := gXs_len V p s
  have HBW : Hid (Below w.heap.size w (w.alloc (Obj.cells #[Value.slice a zs.length cap, Value.int IntKind.i64 n] 80))) := (Below.refl _ _).alloc (Nat.le_refl _) _
  have q0 : (w.alloc (Obj.cells #[Value.slice a zs.length cap, Value.int IntKind.i64 n] 80)).cell? ⟨w.heap.size, 0, none⟩ = some (.slice a zs.length cap) := by simp
  have q1 : (w.alloc (Obj.cells #[Value.slice a zs.length cap, Value.int IntKind.i64 n] 80)).cell? ⟨w.heap.size, 1, none⟩ = some (.int .i64 n) := by simp
  have Q : Hid _ := (⟨q0, q1⟩ : _ ∧ _)
  clear hz q0 q1
  go_enter Tryz.func77, Tryz.ntmps77
  go_wp2_with (at_make; refine wpList_make_full _ rfl _ _ 83 rfl w.heap.size 3 i0 (.int .i64 0) 1 Tryz.underlying83 hi hz0 hz1 .i64 .i64 _ _ s rfl rfl rfl rfl (by rw [hz2]; omega) (by unfold maxLen; omega) (by simp) ?_; intro w1 hown hgrow)
  have h0 : OwI w1 w.heap.size (w.heap.size + 1) s (part (gXs V p s) 0) := by
    rw [part_zero, gXs_len]
    refine ⟨?_, by intro z hz; simp at hz; omega⟩
    rw [made_zeroI] at hown
    simpa using hown
  have hb1 : Below (w.heap.size + 1) (w.alloc (Obj.cells #[Value.slice a zs.length cap, Value.int IntKind.i64 n] 80)) w1 := (Below.refl _ _).grown hgrow (by simp) (by intro k hk; cases hk)
  have H0 : Hid (OwI w1 w.heap.size (w.heap.size + 1) s (part (gXs V p s) 0)) := h0
  have HB1 : Hid (Below (w.heap.size + 1) (w.alloc (Obj.cells #[Value.slice a zs.length cap, Value.int IntKind.i64 n] 80)) w1) := hb1
  clear h0 hown hgrow hi hz0 hz1 hz2 hb1
  generalize w.alloc (Obj.cells #[Value.slice a zs.length cap, Value.int IntKind.i64 n] 80) = W0 at *
  go_loopw [1, 10, 11] (fun t l i wr => ∃ k : Nat, k ≤ s ∧ i = .int .i64 k ∧ Below (w.heap.size + 1) W0 wr ∧
      ((good n V p k ∧ l = .int .i64 ((gL V p k).1 : Nat) ∧ t = .int .i64 ((gL V p k).2 : Nat) ∧ OwI wr w.heap.size (w.heap.size + 1) s (part (gXs V p s) k)) ∨
        (∃ L y : Int, L < 0 ∧ l = .int .i64 L ∧ t = .int .i64 y ∧ ¬ gotN n V p s))) (fun _ _ i _ => s - (intOf i).toNat)
  case atStart => exact ⟨0, Nat.zero_le _, rfl, HB1.out, .inl ⟨fun j hj => by omega, rfl, rfl, H0.out⟩⟩
  case round =>
    clear H0 HB1
    obtain ⟨k, hk, rfl, hbel, ⟨hgood, rfl, rfl, hown⟩ | ⟨L, y, hL, rfl, rfl, hno⟩⟩ := hrel
    · have HGD : Hid (good n V p k) := hgood
      have HO : Hid (OwI wr w.heap.size (w.heap.size + 1) s (part (gXs V p s) k)) := hown
      have hq := good_pos hp hgood
      have hbw : Below w.heap.size w wr := HBW.out.trans (hbel.mono (by omega))
      have HBB : Hid (Below w.heap.size w wr) := hbw
      have b0 := keep hbel (by omega) Q.out.1
      have b1 := keep hbel (by omega) Q.out.2
      clear hgood hown hbw
      have hl := gL_le V p k
      by_cases c0 : (gL V p k).1 = 0
      · obtain ⟨r1, r2, r3, r4⟩ := gL_rest hp HGD.out c0 s hk
        have HY : Hid (gotN n V p s) := ⟨r1, r2⟩
        have HR3 : Hid ((gL V p s).2 = (gL V p k).2) := r3
        have hall := HO.out
        rw [part_rest (by rw [HXL.out]; exact hk) (fun j h1 h2 => by rw [HXL.out] at h2; rw [gXs_get V p s j h2, r4 j h1 h2]; rfl)] at hall
        have HA : Hid (OwI wr w.heap.size (w.heap.size + 1) s (gXs V p s)) := hall
        rw [c0]
        clear r1 r2 r3 r4 hall HO HGD c0 hl
        generalize (gL V p k).2 = q at *
        by_cases hlt : k < s
        · go_wp2
          exact bodyPost_ret (v := .tuple #[.slice (some ⟨w.heap.size + 1, 0, none⟩) s s, .int .i64 (q : Nat), .bool true]) (by simp [results, Tryz.results77, go_sem]) rfl ⟨HBB.out, fun _ => ⟨by rw [HR3.out], HA.out⟩, fun h => absurd HY.out h⟩
        · go_wp2
          exact bodyPost_ret (v := .tuple #[.slice (some ⟨w.heap.size + 1, 0, none⟩) s s, .int .i64 (q : Nat), .bool true]) (by simp [results, Tryz.results77, go_sem]) rfl ⟨HBB.out, fun _ => ⟨by rw [HR3.out], HA.out⟩, fun h => absurd HY.out h⟩
      · by_cases hlt : k < s
        · have hb7 := bl_le7 _ hl
          have HXG : Hid ((gXs V p s).getD k 0 = (gX V p k : Nat)) := gXs_get V p s k hlt
          have HX : Hid (gX V p k = V / 2 ^ (gL V p k).2 % 2 ^ bl (gL V p k).1) := rfl
          have hx := gX_lt V p k
          have HBS : Hid _ := bad_size (n := n) (V := V) (p := p) hlt
          have HBX : Hid _ := bad_share (n := n) (V := V) (p := p) hlt
          have HGS : Hid _ := @good_succ n V p k
          have HS1 : Hid _ := gL_succ1 V p k
          have HS2 : Hid _ := gL_succ2 V p k
          have HB8 : Hid _ := bl_lt (gL V p k).1 (by omega)
          have HGE : Hid _ := fun j hj => bl_ge (gL V p k).1 j (by omega) hj
          generalize (gL V p k).1 = l at *
          generalize (gL V p k).2 = q at *
          generalize gX V p k = x at *
          generalize bl l = m at *
          have hl0 : (0 : Int) < l := by omega
          go_wp2
          go_loopw [12] (fun i wi => ∃ j : Nat, j ≤ m ∧ i = .int .i64 j ∧ wi = wr) (fun i _ => m - (intOf i).toNat)
          case atStart => exact ⟨0, Nat.zero_le _, rfl, rfl⟩
          case round =>
            obtain ⟨j, hj, rfl, rfl⟩ := hrel
            by_cases hjl : j < m
            · have hp2 : wrap64 (2 ^ j) ≤ (l : Int) := by rw [wpowN j (by omega)]; have := HGE.out j hjl; omega
              go_wp2
              go_roundw
              case rel => exact ⟨j + 1, by omega, by go_num, by simp⟩
              case measure => simp [intOf]; omega
            · have hjm : j = m := by omega
              subst hjm
              have hp1 : (l : Int) < wrap64 (2 ^ j) := by rw [wpowN _ (by omega)]; have := HB8.out; omega
              have hp2 : decide (wrap64 (2 ^ j) ≤ (l : Int)) = false := by simpa using hp1
              clear hj hjl HGE HB8 hp1
              by_cases c1 : q + j ≤ n
              · go_wp2_with fail
                refine (l1get_any a cap zs n q j n V _ (hb.below HBB.out (Nat.le_refl _)) HZ.out (by omega) (by omega) (by omega) (by omega) (by omega)).mono ?_
                rintro e w2 ⟨rfl, hb2⟩
                have hxe : V / 2 ^ ((q : Nat) : Int).toNat % 2 ^ ((j : Nat) : Int).toNat = x := by rw [HX.out]; simp
                rw [hxe]
                have HO2 : Hid (OwI w2 w.heap.size (w.heap.size + 1) s (part (gXs V p s) k)) := HO.out.below hb2 (Nat.le_refl _)
                have hlt1 := HO.out.lt.2
                have hbel2 : Below (w.heap.size + 1) W0 w2 := hbel.trans (hb2.mono (by omega))
                have hpl : (part (gXs V p s) k).length = s := by rw [part_len _ _ (by rw [HXL.out]; omega)]; exact HXL.out
                have hdst := HO2.out.cell k (by omega)
                have hfz := HO2.out.frozen k
                have R2 := HO2.out.store k ((gXs V p s).getD k 0) (by rw [HXG.out]; omega)
                rw [part_set _ _ (by rw [HXL.out]; exact hlt), HXG.out] at R2
                have HR2 : Hid (OwI (w2.setCell ⟨w.heap.size + 1, k, none⟩ (.int .i64 (x : Nat))) w.heap.size (w.heap.size + 1) s (part (gXs V p s) (k + 1))) := R2
                have HB2 : Hid (Below (w.heap.size + 1) W0 (w2.setCell ⟨w.heap.size + 1, k, none⟩ (.int .i64 (x : Nat)))) := hbel2.setCell (p := ⟨w.heap.size + 1, k, none⟩) (Nat.le_refl _) (.int .i64 (x : Nat))
                clear R2 hpl HO2 hbel2 HX HXG hxe hbel b0 b1 HO hb2 hp2
                generalize (part (gXs V p s) k).getD k 0 = old at *
                by_cases c2 : x ≤ l
                · have HG2 : Hid (good n V p (k + 1)) := HGS.out HGD.out c1 c2
                  have E1 : Hid ((l : Int) - (x : Nat) = (((gL V p (k + 1)).1 : Nat) : Int)) := by have := HS1.out; unfold Hid; omega
                  have E2 : Hid ((q : Int) + (j : Nat) = (((gL V p (k + 1)).2 : Nat) : Int)) := by have := HS2.out; unfold Hid; omega
                  clear HS1 HS2 HBS HBX HGS
                  go_wp2
                  go_roundw
                  case rel => exact ⟨k + 1, by omega, by go_num, by simpa using HB2.out, .inl ⟨HG2.out, by rw [E1.out], by rw [E2.out], by simpa using HR2.out⟩⟩
                  case measure => simp [intOf]; omega
                · have HN : Hid (¬ gotN n V p s) := fun h => HBX.out c2 h.1
                  clear HS1 HS2 HBS HBX HGS
                  go_wp2
                  go_roundw
                  case rel => exact ⟨k + 1, by omega, by go_num, by simpa using HB2.out, .inr ⟨(l : Int) - x, (q : Int) + j, by omega, rfl, rfl, HN.out⟩⟩
                  case measure => simp [intOf]; omega
              · have HN : Hid (¬ gotN n V p s) := fun h => HBS.out c1 h.1
                clear HS1 HS2 HBS HBX HGS HX HXG HO
                go_wp2
                exact bodyPost_ret (v := .tuple #[.slice none 0 0, .int .i64 (-1), .bool false]) (by simp [results, Tryz.results77, go_sem]) rfl ⟨HBB.out, fun h => absurd h HN.out, fun _ => ⟨_, _, rfl⟩⟩
        · have hks : k = s := by omega
          subst hks
          have HN : Hid (¬ gotN n V p k) := fun h => c0 h.2
          generalize (gL V p k).1 = l at *
          generalize (gL V p k).2 = q at *
          have hne : ((l : Int) == 0) = false := by simp; omega
          clear HO HGD
          go_wp2
          exact bodyPost_ret (v := .tuple #[.slice (some ⟨w.heap.size + 1, 0, none⟩) k k, .int .i64 (q : Nat), .bool false]) (by simp [results, Tryz.results77, go_sem]) rfl ⟨HBB.out, fun h => absurd h HN.out, fun _ => ⟨_, _, rfl⟩⟩
    · have HN : Hid (¬ gotN n V p s) := hno
      have HBB : Hid (Below w.heap.size w wr) := HBW.out.trans (hbel.mono (by omega))
      have hne : (L == 0) = false := by simp; omega
      clear hno hbel
      by_cases hlt : k < s
      · go_wp2
        exact bodyPost_ret (v := .tuple #[.slice (some ⟨w.heap.size + 1, 0, none⟩) s s, .int .i64 y, .bool false]) (by simp [results, Tryz.results77, go_sem]) rfl ⟨HBB.out, fun h => absurd h HN.out, fun _ => ⟨_, _, rfl⟩⟩
      · go_wp2
        exact bodyPost_ret (v := .tuple #[.slice (some ⟨w.heap.size + 1, 0, none⟩) s s, .int .i64 y, .bool false]) (by simp [results, Tryz.results77, go_sem]) rfl ⟨HBB.out, fun h => absurd h HN.out, fun _ => ⟨_, _, rfl⟩⟩
end Go.Proofs.YtdkffeemnenhdaaGreatDoor
