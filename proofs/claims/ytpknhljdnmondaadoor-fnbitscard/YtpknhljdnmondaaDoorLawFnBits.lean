/-
  The law on bits that are put and got returns true, whatever is handed in, where the sentinels hold some error, and writes nothing that was there.
-/
import Derived.Test.YtpknhljdnmondaaDoorDrD
import Derived.Test.YtpknhljdnmondaaDoorBack
import Derived.Test.YtpknhljdnmondaaDoorOkI
namespace Go.Proofs.YtpknhljdnmondaaDoor
open Go.RowKit
set_option linter.unusedVariables false

theorem got_backB (V n N d : Nat) (hV : V < 2 ^ N) (hn : n < 2 ^ d) : (V + n * 2 ^ N) / 2 ^ N % 2 ^ d = n := by
  rw [Nat.add_mul_div_right _ _ (Nat.pow_pos (by omega)), Nat.div_eq_of_lt hV, Nat.zero_add, Nat.mod_eq_of_lt hn]
theorem got_oldB (V n N i : Nat) (hi : i < N) : (V + n * 2 ^ N) / 2 ^ i % 2 ^ 1 = V / 2 ^ i % 2 ^ 1 := by
  have e : n * 2 ^ N = (n * 2 ^ (N - i - 1) * 2) * 2 ^ i := by
    rw [Nat.mul_assoc, Nat.mul_assoc, ← Nat.pow_succ', ← Nat.pow_add, show N - i - 1 + (i + 1) = N from by omega]
  rw [e, Nat.add_mul_div_right _ _ (Nat.pow_pos (by omega))]
  omega

set_option maxRecDepth 20000 in
set_option maxHeartbeats 16000000 in
theorem lawFnBits_any (a : Option Addr) (cap : Nat) (bs : List Int) (w : World) (hb : Byt w a bs) (hm : bs.length ≤ maxLen) (s0 : Sent w 1) (s1 : Sent w 2)
    (hG : 1 < w.heap.size ∧ 2 < w.heap.size) :
    Calls Tryd.prog 3 #[.slice a bs.length cap] w fun e w' => e = .returned (.bool true) ∧ Below w.heap.size w w' := by
  go_enter Tryd.func3, Tryd.ntmps3
  go_wp2_with fail
  refine (drawBitsPut_any a bs cap w hb hm).mono ?_
  rintro e w1 ⟨ax, cx, zs, N, n, d, rfl, hzl, hN1, hN2, hn1, hn2, hd1, hd2, hmx, hb1⟩
  have HB1 : Hid (Below w.heap.size w (w1.alloc (Obj.cells #[Value.slice ax zs.length cx, Value.int IntKind.i64 N] 24))) := hb1.alloc hb1.size _
  have HX1 : Hid (Byt (w1.alloc (Obj.cells #[Value.slice ax zs.length cx, Value.int IntKind.i64 N] 24)) ax zs) := hmx.byt.alloc _
  have hzr := hmx.byt.1
  have HZR : Hid (∀ z ∈ zs, 0 ≤ z ∧ z ≤ 255) := hzr
  have x0 : (w1.alloc (Obj.cells #[Value.slice ax zs.length cx, Value.int IntKind.i64 N] 24)).cell? ⟨w1.heap.size, 0, none⟩ = some (.slice ax zs.length cx) := by simp
  have x1 : (w1.alloc (Obj.cells #[Value.slice ax zs.length cx, Value.int IntKind.i64 N] 24)).cell? ⟨w1.heap.size, 1, none⟩ = some (.int .i64 N) := by simp
  have hX1 : w1.heap.size < (w1.alloc (Obj.cells #[Value.slice ax zs.length cx, Value.int IntKind.i64 N] 24)).heap.size := by simp
  have hwX : w.heap.size ≤ w1.heap.size := hb1.size
  clear hb1 hmx hzr hb
  go_wp2_with fail
  generalize w1.alloc (Obj.cells #[Value.slice ax zs.length cx, Value.int IntKind.i64 N] 24) = W1 at *
  generalize w1.heap.size = X at *
  by_cases hpo : putOk N n d zs
  · obtain ⟨hO, d1, d2, n1, n2, hr⟩ := hpo
    obtain ⟨k, rfl, hk1, hke, hkv⟩ := okB_enc hO HZR.out
    obtain ⟨D, rfl⟩ := Int.eq_ofNat_of_zero_le d1
    obtain ⟨m, rfl⟩ := Int.eq_ofNat_of_zero_le n1
    have hpw : ((2 : Int) ^ ((D : Nat) : Int).toNat) = ((2 ^ D : Nat) : Int) := by simp
    have hm2 : m < 2 ^ D := by rw [hpw] at n2; omega
    have HPT := implPut_yes ax cx zs (k : Int) (m : Int) (D : Int) W1 HX1.out ⟨hO, d1, d2, n1, n2, hr⟩
    simp only [Int.toNat_natCast] at HPT
    have hV2 := put_lt k (val zs) D m hkv hm2
    have hO2 : okB (((k + D : Nat)) : Int) (enc (k + D) (val zs + m * 2 ^ k)) = true := okB_encB (k + D) _ (by omega) hV2
    have hv2 := val_encB (k + D) _ hV2
    have HGB : Hid _ := got_backB (val zs) m k D hkv hm2
    have HGO : Hid _ := fun i => got_oldB (val zs) m k i
    have hyl : (enc (k + D) (val zs + m * 2 ^ k)).length ≤ 600 := by rw [enc_len]; omega
    have HOX : Hid (okB (k : Int) zs = true) := hO
    clear hpw n2 hm2 hV2 hke hkv hO
    generalize hV : val zs = V at *
    generalize hE : enc (k + D) (V + m * 2 ^ k) = E at *
    have HO2 : Hid (okB (((k + D : Nat)) : Int) E = true) := hO2
    have HV2 : Hid (val E = V + m * 2 ^ k) := hv2
    have HVX : Hid (val zs = V) := hV
    clear hE hO2 hv2 hV
    refine HPT.mono ?_
    clear HPT
    rintro e w2 ⟨ay, cy, rfl, hmy, hb2⟩
    have u0 := keep hb2 hX1 x0
    have u1 := keep hb2 hX1 x1
    have HB2 : Hid (Below w.heap.size w (w2.alloc (Obj.cells #[Value.slice ay E.length cy, Value.int IntKind.i64 ((k : Int) + D)] 24))) := (HB1.out.trans (hb2.mono HB1.out.size)).alloc (by have h1 := HB1.out.size; have h2 := hb2.size; omega) _
    have HX2 : Hid (Byt (w2.alloc (Obj.cells #[Value.slice ay E.length cy, Value.int IntKind.i64 ((k : Int) + D)] 24)) ax zs) := (HX1.out.below hb2 (Nat.le_refl _)).alloc _
    have HY2 : Hid (Byt (w2.alloc (Obj.cells #[Value.slice ay E.length cy, Value.int IntKind.i64 ((k : Int) + D)] 24)) ay E) := hmy.byt.alloc _
    have hX2 : X < w2.heap.size := Nat.lt_of_lt_of_le hX1 hb2.size
    have p0 := keepA (Obj.cells #[Value.slice ay E.length cy, Value.int IntKind.i64 ((k : Int) + D)] 24) hX2 u0
    have p1 := keepA (Obj.cells #[Value.slice ay E.length cy, Value.int IntKind.i64 ((k : Int) + D)] 24) hX2 u1
    have y0 : (w2.alloc (Obj.cells #[Value.slice ay E.length cy, Value.int IntKind.i64 ((k : Int) + D)] 24)).cell? ⟨w2.heap.size, 0, none⟩ = some (.slice ay E.length cy) := by simp
    have y1 : (w2.alloc (Obj.cells #[Value.slice ay E.length cy, Value.int IntKind.i64 ((k : Int) + D)] 24)).cell? ⟨w2.heap.size, 1, none⟩ = some (.int .i64 ((k : Int) + D)) := by simp
    have hY2 : w2.heap.size < (w2.alloc (Obj.cells #[Value.slice ay E.length cy, Value.int IntKind.i64 ((k : Int) + D)] 24)).heap.size := by simp
    have HGT := implGet_yes ay cy E ((k : Int) + D) (k : Int) (D : Int) _ HY2.out (by have := HO2.out; rw [Int.natCast_add] at this; exact this) (by omega) (by omega) (by omega) (by omega)
    simp only [Int.toNat_natCast] at HGT
    rw [HV2.out, HGB.out] at HGT
    clear hmy hb2 u0 u1 x0 x1 hX1 HB1 HX1
    go_wp2_with fail
    generalize w2.alloc (Obj.cells #[Value.slice ay E.length cy, Value.int IntKind.i64 ((k : Int) + D)] 24) = W2 at *
    generalize w2.heap.size = Y at *
    refine HGT.mono ?_
    clear HGT
    rintro e w3 ⟨rfl, hb3⟩
    have HB3 : Hid (Below w.heap.size w w3) := HB2.out.trans (hb3.mono HB2.out.size)
    have HX3 : Hid (Byt w3 ax zs) := HX2.out.below hb3 (Nat.le_refl _)
    have HY3 : Hid (Byt w3 ay E) := HY2.out.below hb3 (Nat.le_refl _)
    have r0 := keep hb3 (by omega) p0
    have r1 := keep hb3 (by omega) p1
    have t0 := keep hb3 hY2 y0
    have t1 := keep hb3 hY2 y1
    have hY3 : Y < w3.heap.size := Nat.lt_of_lt_of_le hY2 hb3.size
    clear hb3 p0 p1 y0 y1 HB2 HX2 HY2 hY2
    have HBK := implBack_yes ay cy E ((k : Int) + D) ((k : Int) + D) (D : Int) w3 HY3.out (by have := HO2.out; rw [Int.natCast_add] at this; exact this) (by omega) (by omega) (by omega) (by omega)
    rw [show ((k : Int) + D - D) = (k : Int) from by omega] at HBK
    simp only [Int.toNat_natCast] at HBK
    rw [HV2.out, HGB.out] at HBK
    go_wp2_with fail
    refine HBK.mono ?_
    clear HBK
    rintro e w4 ⟨rfl, hb4⟩
    have HB4 : Hid (Below w.heap.size w w4) := HB3.out.trans (hb4.mono HB3.out.size)
    have HX4 : Hid (Byt w4 ax zs) := HX3.out.below hb4 (Nat.le_refl _)
    have HY4 : Hid (Byt w4 ay E) := HY3.out.below hb4 (Nat.le_refl _)
    have p0 := keep hb4 (by omega) r0
    have p1 := keep hb4 (by omega) r1
    have y0 := keep hb4 hY3 t0
    have y1 := keep hb4 hY3 t1
    have hY4 : Y < w4.heap.size := Nat.lt_of_lt_of_le hY3 hb4.size
    clear hb4 r0 r1 t0 t1 HB3 HX3 HY3 hY3
    have HOK := implOk_any ay cy E ((k : Int) + D) w4 HY4.out (by omega)
    rw [show okB ((k : Int) + D) E = true from by have := HO2.out; rw [Int.natCast_add] at this; exact this] at HOK
    go_wp2_with fail
    refine HOK.mono ?_
    clear HOK
    rintro e w5 ⟨rfl, hb5⟩
    have HB5 : Hid (Below w.heap.size w w5) := HB4.out.trans (hb5.mono HB4.out.size)
    have HX5 : Hid (Byt w5 ax zs) := HX4.out.below hb5 (Nat.le_refl _)
    have HY5 : Hid (Byt w5 ay E) := HY4.out.below hb5 (Nat.le_refl _)
    have r0 := keep hb5 (by omega) p0
    have r1 := keep hb5 (by omega) p1
    have t0 := keep hb5 hY4 y0
    have t1 := keep hb5 hY4 y1
    have HC5 : Hid _ := (⟨r0, r1, t0, t1⟩ : _ ∧ _ ∧ _ ∧ _)
    have hY5 : Y < w5.heap.size := Nat.lt_of_lt_of_le hY4 hb5.size
    clear hb5 p0 p1 y0 y1 HB4 HX4 HY4 hY4
    have g1 : ((k : Int) + D != (k : Int) + D) = false := by simp
    have g2 : ((m : Int) != (m : Int)) = false := by simp
    have g3 : ((k : Int) != (k : Int)) = false := by simp
    go_wp2
    clear r0 r1 t0 t1
    go_loopw [12] (fun i wr => ∃ j : Nat, j ≤ k ∧ i = .int .i64 j ∧ Below w.heap.size w wr ∧ Below w5.heap.size w5 wr) (fun i _ => k - (intOf i).toNat)
    case atStart => exact ⟨0, Nat.zero_le _, rfl, HB5.out, Below.refl _ _⟩
    case round =>
      obtain ⟨j, hj, rfl, hbw, hb5⟩ := hrel
      have r0 := keep hb5 (by omega) HC5.out.1
      have r1 := keep hb5 (by omega) HC5.out.2.1
      have t0 := keep hb5 hY5 HC5.out.2.2.1
      have t1 := keep hb5 hY5 HC5.out.2.2.2
      have HBW : Hid (Below w.heap.size w wr) := hbw
      have HB5r : Hid (Below w5.heap.size w5 wr) := hb5
      have hYr : Y < wr.heap.size := Nat.lt_of_lt_of_le hY5 hb5.size
      clear hbw
      by_cases hjk : j < k
      · have HG1 := implGet_yes ax cx zs (k : Int) (j : Int) 1 wr (HX5.out.below hb5 (Nat.le_refl _)) HOX.out (by omega) (by omega) (by omega) (by omega)
        simp only [Int.toNat_natCast] at HG1
        obtain ⟨bn, hbn⟩ : ∃ bn, bn = V / 2 ^ j % 2 ^ 1 := ⟨_, rfl⟩
        rw [HVX.out, show (1 : Int).toNat = 1 from rfl, ← hbn] at HG1
        have HBN : Hid (bn = V / 2 ^ j % 2 ^ 1) := hbn
        clear hbn
        clear hb5
        go_wp2_with fail
        refine HG1.mono ?_
        clear HG1
        rintro e w6 ⟨rfl, hb6⟩
        have HB6 : Hid (Below w5.heap.size w5 w6) := HB5r.out.trans (hb6.mono HB5r.out.size)
        have HW6 : Hid (Below w.heap.size w w6) := HBW.out.trans (hb6.mono HBW.out.size)
        have v0 := keep hb6 hYr t0
        have v1 := keep hb6 hYr t1
        have HG2 := implGet_yes ay cy E ((k : Int) + D) (j : Int) 1 w6 (HY5.out.below HB6.out (Nat.le_refl _)) (by have := HO2.out; rw [Int.natCast_add] at this; exact this) (by omega) (by omega) (by omega) (by omega)
        simp only [Int.toNat_natCast] at HG2
        rw [HV2.out, show (1 : Int).toNat = 1 from rfl, HGO.out j hjk, ← HBN.out] at HG2
        clear hb6 r0 r1 t0 t1
        go_wp2_with fail
        refine HG2.mono ?_
        clear HG2
        rintro e w7 ⟨rfl, hb7⟩
        have HB7 : Hid (Below w5.heap.size w5 w7) := HB6.out.trans (hb7.mono HB6.out.size)
        have HW7 : Hid (Below w.heap.size w w7) := HW6.out.trans (hb7.mono HW6.out.size)
        clear hb7 v0 v1
        have hbt : ((bn : Int) != (bn : Int)) = false := by simp
        go_wp2
        go_roundw
        case rel => exact ⟨j + 1, by omega, by go_num, HW7.out, HB7.out⟩
        case measure => simp [intOf]; omega
      · have hje : j = k := by omega
        subst hje
        clear hb5
        go_wp2_with fail
        refine (bits_any wr).mono ?_
        rintro e w6 ⟨rfl, hb6⟩
        have hbb := HBW.out.trans (hb6.mono HBW.out.size)
        clear hb6
        go_wp2
        go_ret
        exact ⟨rfl, hbb⟩
  · have HPN := implPut_no ax cx zs N n d W1 HX1.out (by omega) (s0.below HB1.out (by omega)) (s1.below HB1.out (by omega)) (by have := HB1.out.size; omega) hpo
    clear hpo
    refine HPN.mono ?_
    clear HPN
    rintro e w2 ⟨rfl, hb2⟩
    have HB2 : Hid (Below w.heap.size w (w2.alloc (Obj.cells #[Value.slice none 0 0, Value.int IntKind.i64 0] 24))) := (HB1.out.trans (hb2.mono HB1.out.size)).alloc (by have h1 := HB1.out.size; have h2 := hb2.size; omega) _
    clear hb2 x0 x1
    go_wp2_with fail
    refine (bits_any _).mono ?_
    rintro e w3 ⟨rfl, hb3⟩
    have hbb := HB2.out.trans (hb3.mono HB2.out.size)
    clear hb3
    go_wp2
    go_ret
    exact ⟨rfl, hbb⟩
end Go.Proofs.YtpknhljdnmondaaDoor
