/-
  What DrawLensGet draws: some bits, a place, a number of symbols.
-/
import Derived.Test.YtkjebacpmmfflaaDoorDrRow
import Derived.Test.YtkjebacpmmfflaaDoorDrBl
import Derived.Test.YtkjebacpmmfflaaDoorLPut2
import Derived.Test.YtkjebacpmmfflaaDoorLnR
import Derived.Test.YtkjebacpmmfflaaDoorWCells
import Derived.Deep.RegionWith
namespace Go.Proofs.YtkjebacpmmfflaaDoor
open Go.RowKit
set_option linter.unusedVariables false

set_option maxHeartbeats 4000000 in
theorem drawLensGet_any (a : Option Addr) (bs : List Int) (cap : Nat) (w : World) (hb : Byt w a bs) (hl : bs.length ≤ maxLen) :
    Calls Tryd.prog 24 #[.slice a bs.length cap] w fun e w' => ∃ (a' : Option Addr) (c' : Nat) (ys : List Int) (N t m : Int), e = .returned (.tuple #[.agg #[.slice a' ys.length c', .int .i64 N], .int .i64 t, .int .i64 m]) ∧ Mine w' w.heap.size w'.heap.size a' c' ys ∧ ys.length ≤ 2000 ∧ -1 ≤ t ∧ t ≤ 1 ∧ -1 ≤ m ∧ m ≤ 20 ∧ Below w.heap.size w w' := by
  have hw : Below w.heap.size w (w.alloc (Obj.cells #[Value.slice none 0 0, Value.int IntKind.i64 0] 36)) := (Below.refl _ _).alloc (Nat.le_refl _) _
  have r0 : (w.alloc (Obj.cells #[Value.slice none 0 0, Value.int IntKind.i64 0] 36)).cell? ⟨w.heap.size, 0, none⟩ = some (.slice none 0 0) := by simp
  have r1 : (w.alloc (Obj.cells #[Value.slice none 0 0, Value.int IntKind.i64 0] 36)).cell? ⟨w.heap.size, 1, none⟩ = some (.int .i64 0) := by simp
  have t0 : (w.alloc (Obj.cells #[Value.slice none 0 0, Value.int IntKind.i64 0] 36)).frozen? ⟨w.heap.size, 0, none⟩ = false := by simp
  have t1 : (w.alloc (Obj.cells #[Value.slice none 0 0, Value.int IntKind.i64 0] 36)).frozen? ⟨w.heap.size, 1, none⟩ = false := by simp
  have HSZ : Hid (w.heap.size < (w.alloc (Obj.cells #[Value.slice none 0 0, Value.int IntKind.i64 0] 36)).heap.size) := by simp [Hid]
  have HIN0 : Hid (Byt (w.alloc (Obj.cells #[Value.slice none 0 0, Value.int IntKind.i64 0] 36)) a bs) := hb.below hw (Nat.le_refl _)
  have HR : Hid _ := (⟨r0, r1, t0, t1, hw⟩ : _ ∧ _ ∧ _ ∧ _ ∧ _)
  clear r0 r1 t0 t1 hw
  go_enter Tryd.func24, Tryd.ntmps24
  go_wp2_with fail
  generalize w.alloc (Obj.cells #[Value.slice none 0 0, Value.int IntKind.i64 0] 36) = W at *
  refine (l1New_any a bs cap W HIN0.out hl).mono ?_
  rintro e w1 ⟨rfl, hd1⟩
  have HD1 : Hid (Dr W w1 W.heap.size W.heap.size a bs cap) := hd1
  have hR1 := hd1.cur.lt
  clear hd1 HIN0 hb
  generalize hB : W.heap.size = B at *
  have HBW : Hid (W.heap.size = B) := hB
  clear hB
  go_wp2_with fail
  refine HD1.out.lens.mono ?_
  rintro e w2 ⟨n, g, zs, rfl, hn1, hn2, hrow, hzl, hnb, hd2, ho2⟩
  have hg2 := hrow.lt
  have hz2 := ho2.size
  have hin2 : Ins w2 (some ⟨g, 0, none⟩) zs := hrow.byt
  have HD2 : Hid (Dr W w2 B B a bs cap) := hd2
  clear hd2 ho2 HD1 hrow
  obtain ⟨-, hVlt, -, hN7⟩ := lens_back hnb
  have hnble : (lpF zs).1 ≤ 0 + 7 * zs.length := lp_le zs zs.length 0 0 0
  have HPN := l2putLens_any (some ⟨g, 0, none⟩) n zs w2.heap.size w2.heap.size w2 _ hin2 rfl ((Below.refl _ _).alloc (Nat.le_refl _) _) (SI.new w2 w2.heap.size (Nat.le_refl _)) (by omega) (lensB_ok hnb).2.2
  rw [hzl] at HPN hnble
  clear hnb hin2 hVlt
  go_wp2_with fail
  refine HPN.mono ?_
  clear HPN
  rintro e w3 ⟨rfl, hsi, hb3⟩
  have hon3 : Only (fun _ => False) w2 w3 := Only.ofBelow hb3 (Nat.le_refl _)
  have HD3 : Hid (Dr W w3 B B a bs cap) := HD2.out.other hon3 (by simp) (by simp)
  have HSI : Hid (SI w3 w2.heap.size w2.heap.size (lpF zs).1 (lpF zs).2) := hsi
  obtain ⟨v, hX, hv, hV, hBX, hBw⟩ := hsi
  have hN84 : (lpF zs).1 ≤ 84 := by omega
  obtain ⟨gb, cb, rfl, hob⟩ := hv.form (by rw [enc_len]; omega)
  have hyl := enc_len (lpF zs).1 (lpF zs).2
  have HBX : Hid (BX w3 w2.heap.size gb cb (enc (lpF zs).1 (lpF zs).2).length (lpF zs).1) := ⟨hX, _, rfl, hob⟩
  have HB3 : Hid (w2.heap.size ≤ w3.heap.size) := hon3.size
  clear hX hv hV hBX hBw hob hb3 hon3 HSI HD2 hnble
  generalize (lpF zs).1 = N at *
  generalize hL : (enc N (lpF zs).2).length = L at *
  clear hL
  have HYL : Hid (L = (N + 7) / 8) := hyl
  clear hyl
  generalize w2.heap.size = X at *
  have hne3 := HBX.out.ne
  go_wp2_with fail
  refine (HD3.out.once 3 (by omega) (by omega)).mono ?_
  rintro e w4 ⟨⟨b, rfl⟩, hd4, ho4⟩
  have HBX4 : Hid (BX w4 X gb cb L N) := HBX.out.only ho4 (fun k hk => by omega)
  have HD4 : Hid (Dr W w4 B B a bs cap) := hd4
  clear hd4 ho4 HBX HD3
  have c0 := cellR (j := 0) HBX4.out.hX rfl
  have c1 := cellR (j := 1) HBX4.out.hX rfl
  cases b
  · have HBX6 : Hid (BX w4 X gb cb L N) := HBX4.out
    have HD6 : Hid (Dr W w4 B B a bs cap) := HD4.out
    go_wp2_with fail
    clear c0 c1
    all_goals
      refine (HD6.out.once 6 (by omega) (by omega)).mono ?_
      rintro e w7 ⟨⟨b2, rfl⟩, hd7, ho7⟩
      have HBX7 : Hid (BX w7 X gb cb L N) := HBX6.out.only ho7 (fun k hk => by omega)
      have HD7 : Hid (Dr W w7 B B a bs cap) := hd7
      clear hd7 ho7 HBX6 HD6
      cases b2
      · go_wp2
        have x0 := cellR (j := 0) HBX7.out.hX rfl
        have x1 := cellR (j := 1) HBX7.out.hX rfl
        have u0 := keep HD7.out.bel HSZ.out HR.out.1
        have u1 := keep HD7.out.bel HSZ.out HR.out.2.1
        have v0 : w7.frozen? ⟨w.heap.size, 0, none⟩ = false := (HD7.out.bel.frozen (p := ⟨w.heap.size, 0, none⟩) HSZ.out).trans HR.out.2.2.1
        have v1 : w7.frozen? ⟨w.heap.size, 1, none⟩ = false := (HD7.out.bel.frozen (p := ⟨w.heap.size, 1, none⟩) HSZ.out).trans HR.out.2.2.2.1
        have HIN : Hid (∀ T, Ins (w7.drew.alloc (.cells #[.int .i64 0, .int .i64 0, .int .i64 0, .int .i64 1, .int .i64 (-1)] T)) (some ⟨w7.heap.size, 0, none⟩) [0, 0, 0, 1, -1]) := fun T => by
          have := ins_newN w7.drew T [0, 0, 0, 1, -1] (by intro z hz; simp at hz; omega)
          simpa using this
        have hXw : X < w7.heap.size := HBX7.out.ne.2.2.2
        have hww : w.heap.size < w7.heap.size := by have h1 := HSZ.out; have h2 := HD7.out.cur.lt.2; omega
        have hBw : B < w7.heap.size := HD7.out.cur.lt.2
        have hwB : w.heap.size < B := HSZ.out
        go_region_with (go_at_call 28; refine ((HD7.out.other (S := fun _ => False) (by exact ((Only.refl (fun _ => False) w7).drew).alloc _) (by simp) (by simp)).pick w7.heap.size 5 [0, 0, 0, 1, -1] (by exact HIN.out _) (by omega) (by simp) (by simp)).mono ?_; rintro e w9 ⟨⟨t, ht, rfl⟩, hd9, ho9⟩; have HTR : Hid (-1 ≤ t ∧ t ≤ 1) := (by unfold Hid; simp at ht; omega); clear ht; have hbx9 : BX w9 X gb cb L N := ((HBX7.out.only (S := fun _ => False) (((Only.refl (fun _ => False) w7).drew).alloc _) (by simp)).only ho9 (fun k hk => by omega)); have y0 := cellR (j := 0) hbx9.hX rfl; have y1 := cellR (j := 1) hbx9.hX rfl; have p0 := keep hd9.bel HSZ.out HR.out.1; have p1 := keep hd9.bel HSZ.out HR.out.2.1; have q0 : w9.frozen? ⟨w.heap.size, 0, none⟩ = false := (hd9.bel.frozen (p := ⟨w.heap.size, 0, none⟩) HSZ.out).trans HR.out.2.2.1; have q1 : w9.frozen? ⟨w.heap.size, 1, none⟩ = false := (hd9.bel.frozen (p := ⟨w.heap.size, 1, none⟩) HSZ.out).trans HR.out.2.2.2.1)
        all_goals
          have HBX9 : Hid (BX w9 X gb cb L N) := hbx9
          have HB9 : Hid (Below w.heap.size w w9) := HR.out.2.2.2.2.trans (hd9.bel.mono (by omega))
          clear hbx9 hd9 ho9
          go_wp2
          obtain ⟨ys9, hl9, ho9'⟩ := HBX9.out.own
          refine bodyPost_ret (v := .tuple #[.agg #[.slice (some ⟨gb, 0, none⟩) L cb, .int .i64 (N : Nat)], .int .i64 t, .int .i64 ((n : Nat))]) (by simp [results, Tryd.results24, go_sem, p0, p1]) rfl ⟨some ⟨gb, 0, none⟩, cb, ys9, (N : Nat), t, (n : Nat), by rw [hl9], ?_, by have := HYL.out; omega, HTR.out.1, HTR.out.2, by omega, by omega, ?_⟩
          · exact mine_out _ _ ho9'.mine (by omega) (Nat.le_refl _)
          · exact ((HB9.out.setCell (by simp) _).setCell (by simp) _)
      · go_wp2_with fail
        refine (HD7.out.below 3 (by omega) (by omega)).mono ?_
        rintro e w8 ⟨⟨y, hy1, hy2, rfl⟩, hd8, ho8⟩
        have HBX8 : Hid (BX w8 X gb cb L N) := HBX7.out.only ho8 (fun k hk => by omega)
        have HD8 : Hid (Dr W w8 B B a bs cap) := hd8
        clear hd8 ho8 HBX7 HD7
        go_wp2
        have x0 := cellR (j := 0) HBX8.out.hX rfl
        have x1 := cellR (j := 1) HBX8.out.hX rfl
        have u0 := keep HD8.out.bel HSZ.out HR.out.1
        have u1 := keep HD8.out.bel HSZ.out HR.out.2.1
        have v0 : w8.frozen? ⟨w.heap.size, 0, none⟩ = false := (HD8.out.bel.frozen (p := ⟨w.heap.size, 0, none⟩) HSZ.out).trans HR.out.2.2.1
        have v1 : w8.frozen? ⟨w.heap.size, 1, none⟩ = false := (HD8.out.bel.frozen (p := ⟨w.heap.size, 1, none⟩) HSZ.out).trans HR.out.2.2.2.1
        have HIN : Hid (∀ T, Ins (w8.drew.alloc (.cells #[.int .i64 0, .int .i64 0, .int .i64 0, .int .i64 1, .int .i64 (-1)] T)) (some ⟨w8.heap.size, 0, none⟩) [0, 0, 0, 1, -1]) := fun T => by
          have := ins_newN w8.drew T [0, 0, 0, 1, -1] (by intro z hz; simp at hz; omega)
          simpa using this
        have hXw : X < w8.heap.size := HBX8.out.ne.2.2.2
        have hww : w.heap.size < w8.heap.size := by have h1 := HSZ.out; have h2 := HD8.out.cur.lt.2; omega
        have hBw : B < w8.heap.size := HD8.out.cur.lt.2
        have hwB : w.heap.size < B := HSZ.out
        go_region_with (go_at_call 28; refine ((HD8.out.other (S := fun _ => False) (by exact ((Only.refl (fun _ => False) w8).drew).alloc _) (by simp) (by simp)).pick w8.heap.size 5 [0, 0, 0, 1, -1] (by exact HIN.out _) (by omega) (by simp) (by simp)).mono ?_; rintro e w9 ⟨⟨t, ht, rfl⟩, hd9, ho9⟩; have HTR : Hid (-1 ≤ t ∧ t ≤ 1) := (by unfold Hid; simp at ht; omega); clear ht; have hbx9 : BX w9 X gb cb L N := ((HBX8.out.only (S := fun _ => False) (((Only.refl (fun _ => False) w8).drew).alloc _) (by simp)).only ho9 (fun k hk => by omega)); have y0 := cellR (j := 0) hbx9.hX rfl; have y1 := cellR (j := 1) hbx9.hX rfl; have p0 := keep hd9.bel HSZ.out HR.out.1; have p1 := keep hd9.bel HSZ.out HR.out.2.1; have q0 : w9.frozen? ⟨w.heap.size, 0, none⟩ = false := (hd9.bel.frozen (p := ⟨w.heap.size, 0, none⟩) HSZ.out).trans HR.out.2.2.1; have q1 : w9.frozen? ⟨w.heap.size, 1, none⟩ = false := (hd9.bel.frozen (p := ⟨w.heap.size, 1, none⟩) HSZ.out).trans HR.out.2.2.2.1)
        all_goals
          have HBX9 : Hid (BX w9 X gb cb L N) := hbx9
          have HB9 : Hid (Below w.heap.size w w9) := HR.out.2.2.2.2.trans (hd9.bel.mono (by omega))
          clear hbx9 hd9 ho9
          go_wp2
          obtain ⟨ys9, hl9, ho9'⟩ := HBX9.out.own
          refine bodyPost_ret (v := .tuple #[.agg #[.slice (some ⟨gb, 0, none⟩) L cb, .int .i64 (N : Nat)], .int .i64 t, .int .i64 ((n : Nat) + y - 1)]) (by simp [results, Tryd.results24, go_sem, p0, p1]) rfl ⟨some ⟨gb, 0, none⟩, cb, ys9, (N : Nat), t, (n : Nat) + y - 1, by rw [hl9], ?_, by have := HYL.out; omega, HTR.out.1, HTR.out.2, by omega, by omega, ?_⟩
          · exact mine_out _ _ ho9'.mine (by omega) (Nat.le_refl _)
          · exact ((HB9.out.setCell (by simp) _).setCell (by simp) _)
  · have hNp : (0 : Int) < (N : Int) := by omega
    have hLn : 0 < L := by have := HYL.out; omega
    have hLp : (0 : Int) < (L : Int) := by omega
    go_wp2_with fail
    refine (HD4.out.below N (by omega) (by omega)).mono ?_
    rintro e w5 ⟨⟨i, hi1, hi2, rfl⟩, hd5, ho5⟩
    obtain ⟨i, rfl⟩ := Int.eq_ofNat_of_zero_le hi1
    have hbx5 : BX w5 X gb cb L N := HBX4.out.only ho5 (fun k hk => by omega)
    have HD5 : Hid (Dr W w5 B B a bs cap) := hd5
    have hiL : i / 8 < L := by have := HYL.out; omega
    obtain ⟨z, hz5⟩ := hbx5.byte (i / 8) hiL
    have hf5 := hbx5.frz (i / 8)
    have d0 := cellR (j := 0) hbx5.hX rfl
    have HBX6 : Hid (BX (w5.setCell ⟨gb, i / 8, none⟩ (.int .u8 (bits .xor .u8 z (2 ^ (i % 8) % 256)))).drew X gb cb L N) := by
      have h1 := hbx5.store (i / 8) _ (xor8 z (2 ^ (i % 8) % 256))
      exact ⟨h1.hX, h1.own⟩
    have HD6 : Hid (Dr W (w5.setCell ⟨gb, i / 8, none⟩ (.int .u8 (bits .xor .u8 z (2 ^ (i % 8) % 256)))).drew B B a bs cap) := HD5.out.other (S := fun b => b = gb) (Only.setCell (S := fun b => b = gb) (Only.refl (fun b => b = gb) w5) (p := ⟨gb, i / 8, none⟩) (.inl rfl) _).drew (by omega) (fun b hb => by omega)
    clear c0 c1
    go_wp2
    go_region
    go_wp2_with fail
    clear d0 hz5 hf5 hbx5
    all_goals
      refine (HD6.out.once 6 (by omega) (by omega)).mono ?_
      rintro e w7 ⟨⟨b2, rfl⟩, hd7, ho7⟩
      have HBX7 : Hid (BX w7 X gb cb L N) := HBX6.out.only ho7 (fun k hk => by omega)
      have HD7 : Hid (Dr W w7 B B a bs cap) := hd7
      clear hd7 ho7 HBX6 HD6
      cases b2
      · go_wp2
        have x0 := cellR (j := 0) HBX7.out.hX rfl
        have x1 := cellR (j := 1) HBX7.out.hX rfl
        have u0 := keep HD7.out.bel HSZ.out HR.out.1
        have u1 := keep HD7.out.bel HSZ.out HR.out.2.1
        have v0 : w7.frozen? ⟨w.heap.size, 0, none⟩ = false := (HD7.out.bel.frozen (p := ⟨w.heap.size, 0, none⟩) HSZ.out).trans HR.out.2.2.1
        have v1 : w7.frozen? ⟨w.heap.size, 1, none⟩ = false := (HD7.out.bel.frozen (p := ⟨w.heap.size, 1, none⟩) HSZ.out).trans HR.out.2.2.2.1
        have HIN : Hid (∀ T, Ins (w7.drew.alloc (.cells #[.int .i64 0, .int .i64 0, .int .i64 0, .int .i64 1, .int .i64 (-1)] T)) (some ⟨w7.heap.size, 0, none⟩) [0, 0, 0, 1, -1]) := fun T => by
          have := ins_newN w7.drew T [0, 0, 0, 1, -1] (by intro z hz; simp at hz; omega)
          simpa using this
        have hXw : X < w7.heap.size := HBX7.out.ne.2.2.2
        have hww : w.heap.size < w7.heap.size := by have h1 := HSZ.out; have h2 := HD7.out.cur.lt.2; omega
        have hBw : B < w7.heap.size := HD7.out.cur.lt.2
        have hwB : w.heap.size < B := HSZ.out
        go_region_with (go_at_call 28; refine ((HD7.out.other (S := fun _ => False) (by exact ((Only.refl (fun _ => False) w7).drew).alloc _) (by simp) (by simp)).pick w7.heap.size 5 [0, 0, 0, 1, -1] (by exact HIN.out _) (by omega) (by simp) (by simp)).mono ?_; rintro e w9 ⟨⟨t, ht, rfl⟩, hd9, ho9⟩; have HTR : Hid (-1 ≤ t ∧ t ≤ 1) := (by unfold Hid; simp at ht; omega); clear ht; have hbx9 : BX w9 X gb cb L N := ((HBX7.out.only (S := fun _ => False) (((Only.refl (fun _ => False) w7).drew).alloc _) (by simp)).only ho9 (fun k hk => by omega)); have y0 := cellR (j := 0) hbx9.hX rfl; have y1 := cellR (j := 1) hbx9.hX rfl; have p0 := keep hd9.bel HSZ.out HR.out.1; have p1 := keep hd9.bel HSZ.out HR.out.2.1; have q0 : w9.frozen? ⟨w.heap.size, 0, none⟩ = false := (hd9.bel.frozen (p := ⟨w.heap.size, 0, none⟩) HSZ.out).trans HR.out.2.2.1; have q1 : w9.frozen? ⟨w.heap.size, 1, none⟩ = false := (hd9.bel.frozen (p := ⟨w.heap.size, 1, none⟩) HSZ.out).trans HR.out.2.2.2.1)
        all_goals
          have HBX9 : Hid (BX w9 X gb cb L N) := hbx9
          have HB9 : Hid (Below w.heap.size w w9) := HR.out.2.2.2.2.trans (hd9.bel.mono (by omega))
          clear hbx9 hd9 ho9
          go_wp2
          obtain ⟨ys9, hl9, ho9'⟩ := HBX9.out.own
          refine bodyPost_ret (v := .tuple #[.agg #[.slice (some ⟨gb, 0, none⟩) L cb, .int .i64 (N : Nat)], .int .i64 t, .int .i64 ((n : Nat))]) (by simp [results, Tryd.results24, go_sem, p0, p1]) rfl ⟨some ⟨gb, 0, none⟩, cb, ys9, (N : Nat), t, (n : Nat), by rw [hl9], ?_, by have := HYL.out; omega, HTR.out.1, HTR.out.2, by omega, by omega, ?_⟩
          · exact mine_out _ _ ho9'.mine (by omega) (Nat.le_refl _)
          · exact ((HB9.out.setCell (by simp) _).setCell (by simp) _)
      · go_wp2_with fail
        refine (HD7.out.below 3 (by omega) (by omega)).mono ?_
        rintro e w8 ⟨⟨y, hy1, hy2, rfl⟩, hd8, ho8⟩
        have HBX8 : Hid (BX w8 X gb cb L N) := HBX7.out.only ho8 (fun k hk => by omega)
        have HD8 : Hid (Dr W w8 B B a bs cap) := hd8
        clear hd8 ho8 HBX7 HD7
        go_wp2
        have x0 := cellR (j := 0) HBX8.out.hX rfl
        have x1 := cellR (j := 1) HBX8.out.hX rfl
        have u0 := keep HD8.out.bel HSZ.out HR.out.1
        have u1 := keep HD8.out.bel HSZ.out HR.out.2.1
        have v0 : w8.frozen? ⟨w.heap.size, 0, none⟩ = false := (HD8.out.bel.frozen (p := ⟨w.heap.size, 0, none⟩) HSZ.out).trans HR.out.2.2.1
        have v1 : w8.frozen? ⟨w.heap.size, 1, none⟩ = false := (HD8.out.bel.frozen (p := ⟨w.heap.size, 1, none⟩) HSZ.out).trans HR.out.2.2.2.1
        have HIN : Hid (∀ T, Ins (w8.drew.alloc (.cells #[.int .i64 0, .int .i64 0, .int .i64 0, .int .i64 1, .int .i64 (-1)] T)) (some ⟨w8.heap.size, 0, none⟩) [0, 0, 0, 1, -1]) := fun T => by
          have := ins_newN w8.drew T [0, 0, 0, 1, -1] (by intro z hz; simp at hz; omega)
          simpa using this
        have hXw : X < w8.heap.size := HBX8.out.ne.2.2.2
        have hww : w.heap.size < w8.heap.size := by have h1 := HSZ.out; have h2 := HD8.out.cur.lt.2; omega
        have hBw : B < w8.heap.size := HD8.out.cur.lt.2
        have hwB : w.heap.size < B := HSZ.out
        go_region_with (go_at_call 28; refine ((HD8.out.other (S := fun _ => False) (by exact ((Only.refl (fun _ => False) w8).drew).alloc _) (by simp) (by simp)).pick w8.heap.size 5 [0, 0, 0, 1, -1] (by exact HIN.out _) (by omega) (by simp) (by simp)).mono ?_; rintro e w9 ⟨⟨t, ht, rfl⟩, hd9, ho9⟩; have HTR : Hid (-1 ≤ t ∧ t ≤ 1) := (by unfold Hid; simp at ht; omega); clear ht; have hbx9 : BX w9 X gb cb L N := ((HBX8.out.only (S := fun _ => False) (((Only.refl (fun _ => False) w8).drew).alloc _) (by simp)).only ho9 (fun k hk => by omega)); have y0 := cellR (j := 0) hbx9.hX rfl; have y1 := cellR (j := 1) hbx9.hX rfl; have p0 := keep hd9.bel HSZ.out HR.out.1; have p1 := keep hd9.bel HSZ.out HR.out.2.1; have q0 : w9.frozen? ⟨w.heap.size, 0, none⟩ = false := (hd9.bel.frozen (p := ⟨w.heap.size, 0, none⟩) HSZ.out).trans HR.out.2.2.1; have q1 : w9.frozen? ⟨w.heap.size, 1, none⟩ = false := (hd9.bel.frozen (p := ⟨w.heap.size, 1, none⟩) HSZ.out).trans HR.out.2.2.2.1)
        all_goals
          have HBX9 : Hid (BX w9 X gb cb L N) := hbx9
          have HB9 : Hid (Below w.heap.size w w9) := HR.out.2.2.2.2.trans (hd9.bel.mono (by omega))
          clear hbx9 hd9 ho9
          go_wp2
          obtain ⟨ys9, hl9, ho9'⟩ := HBX9.out.own
          refine bodyPost_ret (v := .tuple #[.agg #[.slice (some ⟨gb, 0, none⟩) L cb, .int .i64 (N : Nat)], .int .i64 t, .int .i64 ((n : Nat) + y - 1)]) (by simp [results, Tryd.results24, go_sem, p0, p1]) rfl ⟨some ⟨gb, 0, none⟩, cb, ys9, (N : Nat), t, (n : Nat) + y - 1, by rw [hl9], ?_, by have := HYL.out; omega, HTR.out.1, HTR.out.2, by omega, by omega, ?_⟩
          · exact mine_out _ _ ho9'.mine (by omega) (Nat.le_refl _)
          · exact ((HB9.out.setCell (by simp) _).setCell (by simp) _)
end Go.Proofs.YtkjebacpmmfflaaDoor
