/-
  The program's putLens.
-/
import Derived.Test.YtkjebacpmmfflaaDoorLGet1
import Derived.Test.YtkjebacpmmfflaaDoorOkI
import Derived.Test.YtkjebacpmmfflaaDoorWCells
import Derived.Test.YtkjebacpmmfflaaDoorILensC
import Derived.Test.YtkjebacpmmfflaaDoorLPutM
namespace Go.Proofs.YtkjebacpmmfflaaDoor
open Go.RowKit
set_option linter.unusedVariables false

def lgArgs (N p s : Int) (zs : List Int) : Prop := okB N zs = true ∧ 0 ≤ p ∧ p ≤ N ∧ 1 ≤ s ∧ s ≤ 80

set_option maxHeartbeats 1600000 in
theorem implLensGet_no (a : Option Addr) (cap : Nat) (zs : List Int) (N p s : Int) (w : World) (hb : Byt w a zs) (hl : zs.length ≤ 281474976710656) (h : ¬ lgArgs N p s zs) :
    Calls Tryd.prog 23 #[.agg #[.slice a zs.length cap, .int .i64 N], .int .i64 p, .int .i64 s] w fun e w' =>
      e = .returned (.tuple #[.slice none 0 0, .int .i64 (-1), .bool false]) ∧ Below w.heap.size w w' := by
  have hw : Below w.heap.size w (w.alloc (Obj.cells #[Value.slice a zs.length cap, Value.int IntKind.i64 N] 36)) := (Below.refl _ _).alloc (Nat.le_refl _) _
  have key : okB N zs = false ∨ (okB N zs = true ∧ p < 0) ∨ (okB N zs = true ∧ 0 ≤ p ∧ N < p) ∨ (okB N zs = true ∧ 0 ≤ p ∧ p ≤ N ∧ s < 1) ∨ (okB N zs = true ∧ 0 ≤ p ∧ p ≤ N ∧ 1 ≤ s ∧ 80 < s) := by
    cases hO : okB N zs with
    | false => exact .inl rfl
    | true =>
      right
      unfold lgArgs at h
      rw [hO] at h
      simp only [true_and] at h ⊢
      omega
  clear h
  rcases key with hO | ⟨hO, g1⟩ | ⟨hO, g1, g2⟩ | ⟨hO, g1, g2, g3⟩ | ⟨hO, g1, g2, g3, g4⟩
  all_goals
    have HO : Hid _ := hO
    clear hO
    go_enter Tryd.func23, Tryd.ntmps23
    go_wp2_with fail
    refine (implOk_any a cap zs _ _ (hb.below hw (Nat.le_refl _)) hl).mono ?_
    rintro e w1 ⟨rfl, hb1⟩
    rw [HO.out]
    have q1 : w1.cell? ⟨w.heap.size, 1, none⟩ = some (.int .i64 N) := keep hb1 (by simp) (by simp)
    have hbb := hw.trans (hb1.mono (by simp))
    clear hb1
    go_wp2
    exact bodyPost_ret (v := .tuple #[.slice none 0 0, .int .i64 (-1), .bool false]) (by simp [results, Tryd.results23, go_sem]) rfl ⟨rfl, hbb⟩

set_option maxHeartbeats 1600000 in
theorem implLensGet_ok (a : Option Addr) (cap : Nat) (zs : List Int) (n p s : Nat) (w : World) (hb : Byt w a zs) (hO : okB (n : Int) zs = true) (hz : zs = enc n (val zs)) (hn : n ≤ 4096) (hp : p ≤ n) (hs1 : 1 ≤ s) (hs : s ≤ 80)
    (s0 : Sent w 7) (s1 : Sent w 8) (s2 : Sent w 6) (h4 : Four w) (hG : 7 < w.heap.size ∧ 8 < w.heap.size ∧ 6 < w.heap.size) :
    Calls Tryd.prog 23 #[.agg #[.slice a zs.length cap, .int .i64 n], .int .i64 p, .int .i64 s] w fun e w' => Below w.heap.size w w' ∧
      (∀ res q, giY n (val zs) p s res q → ∃ a' cp, e = .returned (.tuple #[.slice a' res.length cp, .int .i64 (q : Nat), .bool true]) ∧ MinI w' w.heap.size w'.heap.size a' cp res) ∧
      ((¬ ∃ res q, giY n (val zs) p s res q) → e = .returned (.tuple #[.slice none 0 0, .int .i64 (-1), .bool false])) := by
  have hw : Below w.heap.size w (w.alloc (Obj.cells #[Value.slice a zs.length cap, Value.int IntKind.i64 n] 36)) := (Below.refl _ _).alloc (Nat.le_refl _) _
  have hl : zs.length ≤ 281474976710656 := by rw [hz, enc_len]; omega
  have HO : Hid (okB (n : Int) zs = true) := hO
  have HZ : Hid (zs = enc n (val zs)) := hz
  clear hO hz
  generalize hV : val zs = V at *
  clear hV
  go_enter Tryd.func23, Tryd.ntmps23
  go_wp2_with fail
  refine (implOk_any a cap zs _ _ (hb.below hw (Nat.le_refl _)) hl).mono ?_
  rintro e w1 ⟨rfl, hb1⟩
  rw [HO.out]
  have q0 : w1.cell? ⟨w.heap.size, 0, none⟩ = some (.slice a zs.length cap) := keep hb1 (by simp) (by simp)
  have q1 : w1.cell? ⟨w.heap.size, 1, none⟩ = some (.int .i64 n) := keep hb1 (by simp) (by simp)
  have hbb := hw.trans (hb1.mono (by simp))
  have hsz := hbb.size
  clear hb1 hw
  go_wp2_with fail
  have hRD : RD (w1.alloc (Obj.cells #[Value.slice a zs.length cap, Value.int IntKind.i64 n, Value.int IntKind.i64 p] 80)) w1.heap.size w1.heap.size a zs.length cap n p := ⟨heap_alloc_new w1 _, Nat.le_refl _, by simp⟩
  refine (getLens_any w1.heap.size w1.heap.size a cap zs n V p s w1 _ (hb.below hbb (Nat.le_refl _)) rfl ((Below.refl _ _).alloc (Nat.le_refl _) _) HZ.out hn hRD hp hs (s0.below hbb (by omega)) (s1.below hbb (by omega)) (s2.below hbb (by omega)) (h4.below hbb) (by omega)).mono ?_
  rintro e w2 ⟨hb2, hy, hno⟩
  have HB2 : Hid (Below w.heap.size w w2) := hbb.trans (hb2.mono hbb.size)
  clear hb2 hbb q0 q1
  by_cases hg : ∃ res q, giY n V p s res q
  · obtain ⟨res, q, hr⟩ := hg
    obtain ⟨a', cp, rfl, hm, hrd⟩ := hy res q hr
    have HY : Hid (giY n V p s res q) := hr
    have HA : Hid (MinI w2 w.heap.size w2.heap.size a' cp res) := hm.mono hsz (Nat.le_refl _)
    have c2 := cellRR (j := 2) hrd.1 rfl
    clear hm hy hno hsz hr hrd hRD
    have HRR : Below w.heap.size w w2 ∧ (∀ res' q', giY n V p s res' q' → ∃ a2 cp2, Ending.returned (.tuple #[.slice a' res.length cp, .int .i64 (q : Nat), .bool true]) = .returned (.tuple #[.slice a2 res'.length cp2, .int .i64 (q' : Nat), .bool true]) ∧ MinI w2 w.heap.size w2.heap.size a2 cp2 res') ∧
        ((¬ ∃ res q, giY n V p s res q) → Ending.returned (.tuple #[.slice a' res.length cp, .int .i64 (q : Nat), .bool true]) = .returned (.tuple #[.slice none 0 0, .int .i64 (-1), .bool false])) := by
      refine ⟨HB2.out, fun res' q' hy' => ?_, fun hno => absurd ⟨res, q, HY.out⟩ hno⟩
      obtain ⟨rfl, rfl⟩ : res = res' ∧ q = q' := by have := hy'.1; rw [HY.out.1] at this; simpa using this
      exact ⟨_, _, rfl, HA.out⟩
    have HRH : Hid _ := HRR
    clear HRR
    generalize res.length = rl at *
    go_wp2
    try go_quiet (fail)
    try go_wp2
    exact bodyPost_ret (v := .tuple #[.slice a' rl cp, .int .i64 (q : Nat), .bool true]) (by simp [results, Tryd.results23, go_sem]) rfl ⟨by first | exact HRH.out.1 | exact below_dL HRH.out.1 _, HRH.out.2.1, HRH.out.2.2⟩
  · obtain ⟨T, y, v, rfl⟩ := hno hg
    have HN : Hid (¬ ∃ res q, giY n V p s res q) := hg
    clear hy hno hsz hg hRD
    go_wp2
    exact bodyPost_ret (v := .tuple #[.slice none 0 0, .int .i64 (-1), .bool false]) (by simp [results, Tryd.results23, go_sem]) rfl ⟨HB2.out, fun res q h => absurd ⟨res, q, h⟩ HN.out, fun _ => rfl⟩
theorem Ins.drop {w : World} {b off : Nat} {zs : List Int} (h : Ins w (some ⟨b, off, none⟩) zs) (i : Nat) : Ins w (some ⟨b, off + i, none⟩) (zs.drop i) := by
  refine ⟨fun z hz => h.1 z (List.mem_of_mem_drop hz), fun hp => ?_⟩
  rw [List.length_drop] at hp
  obtain ⟨b', o', he, hlt, hc⟩ := h.2 (by omega)
  obtain ⟨rfl, rfl⟩ : b = b' ∧ off = o' := by simpa using he
  refine ⟨b, off + i, rfl, hlt, fun j hj => ?_⟩
  rw [List.length_drop] at hj
  rw [drop_getD, Nat.add_assoc]
  exact hc (i + j) (by omega)

set_option maxHeartbeats 1600000 in
theorem noughts_any (a : Option Addr) (cap : Nat) (l : List Int) (w : World) (hb : Ins w a l) (hn : l.length ≤ 80) :
    Calls Tryd.prog 67 #[.slice a l.length cap] w fun e w' => e = .returned (.int .i64 (nou l : Nat)) ∧ w' = w := by
  have hle := nou_le l
  have HZ : Hid _ := nou_zero l
  have HS : Hid _ := nou_stop l
  generalize hlen : l.length = n at *
  have HL : Hid (l.length = n) := hlen
  clear hlen
  generalize nou l = m at *
  go_enter Tryd.func67, Tryd.ntmps67
  go_wp2
  go_loop [3] (fun i => ∃ k : Nat, k ≤ m ∧ i = .int .i64 k) (fun i => m - (intOf i).toNat)
  case atStart => exact ⟨0, Nat.zero_le _, rfl⟩
  case round =>
    obtain ⟨k, hk, rfl⟩ := hrel
    by_cases hlt : k < n
    · obtain ⟨b1, o1, rfl, hb1, hc1⟩ := hb.len_pos k (by rw [HL.out]; exact hlt)
      have hs1 := hc1 k (by rw [HL.out]; exact hlt)
      by_cases hkm : k < m
      · rw [HZ.out k hkm] at hs1
        clear hc1
        go_wp2
        go_round
        case rel => exact ⟨k + 1, by omega, by go_num⟩
        case measure => simp [intOf]; omega
      · have hke : k = m := by omega
        subst hke
        have hne := HS.out hlt
        generalize l.getD k 0 = x at *
        have hx : (x == 0) = false := by simpa using hne
        clear hc1
        go_wp2
        go_ret
        exact ⟨rfl, rfl⟩
    · have hke : k = m := by omega
      subst hke
      go_wp2
      go_ret
      exact ⟨rfl, rfl⟩
set_option maxHeartbeats 1600000 in
theorem putLens_yes (a : Option Addr) (cap : Nat) (zs : List Int) (R B : Nat) (w0 w : World) (hb : Ins w0 a zs) (hB : w0.heap.size = B) (hbel : Below B w0 w) (hw : WI w B R 0 0) (hn : zs.length ≤ 80) (hcap : zs.length ≤ cap) (hok : ∀ z ∈ zs, 0 ≤ z ∧ z ≤ 12) :
    Calls Tryd.prog 48 #[.pointer (some ⟨R, 0, none⟩), .slice a zs.length cap] w fun e w' => e = .returned .nilIface ∧ WI w' B R (lpF zs).1 (lpF zs).2 ∧ Below B w0 w' := by
  have HOK : Hid (∀ k, k < zs.length → 0 ≤ zs.getD k 0 ∧ zs.getD k 0 ≤ 12) := fun k hk => hok _ (getD_mem hk)
  have HRL : Hid _ := fun i hi => run_le zs i hi
  have HLE : Hid _ := lp_end zs
  have HLZ : Hid _ := lp_zero zs
  have HLP : Hid _ := lp_pos zs
  have HW : Hid (WI w B R 0 0) := hw
  have HF : Hid (lp zs zs.length 0 0 0 = lpF zs) := rfl
  have HND : Hid (∀ (a : Option Addr) (cap i m : Nat) (w : World), m = zs.length - i → Ins w a (zs.drop i) → Calls Tryd.prog 67 #[.slice a m cap] w fun e w' => e = .returned (.int .i64 (nou (zs.drop i) : Nat)) ∧ w' = w)   := fun a cap i m w hm h => by
    subst hm
    have := noughts_any a cap (zs.drop i) w h (by rw [List.length_drop]; omega)
    rw [List.length_drop] at this
    exact this
  clear hok hw
  generalize hlen : zs.length = n at *
  have HL : Hid (zs.length = n) := hlen
  clear hlen
  go_enter Tryd.func48, Tryd.ntmps48
  go_wp2
  go_loopw [5] (fun i wr => ∃ k N V f : Nat, k ≤ n ∧ i = .int .i64 k ∧ N ≤ 7 * k ∧ n - k ≤ f ∧ lp zs f k N V = lpF zs ∧ WI wr B R N V ∧ Below B w0 wr) (fun i _ => n - (intOf i).toNat)
  case atStart => exact ⟨0, 0, 0, n, Nat.zero_le _, rfl, by omega, by omega, HF.out, HW.out, hbel⟩
  case round =>
    clear HW hbel HF
    obtain ⟨k, N, V, f, hk, rfl, hN, hf, hlp, hwi, hbel⟩ := hrel
    have HWI : Hid (WI wr B R N V) := hwi
    have HP : Hid (lp zs f k N V = lpF zs) := hlp
    clear hwi hlp
    by_cases hlt : k < n
    · obtain ⟨b1, o1, rfl, hb1, hc1⟩ := (hb.below hbel (by omega)).len_pos k (by rw [HL.out]; exact hlt)
      have hs1 := hc1 k (by rw [HL.out]; exact hlt)
      have hx := HOK.out k hlt
      have hr := HRL.out k hlt
      obtain ⟨f, rfl⟩ : ∃ f', f = f' + 1 := ⟨f - 1, by omega⟩
      have HZ := HLZ.out f k N V hlt
      have HQ := HLP.out f k N V hlt
      rw [HP.out] at HZ HQ
      have HZ' : Hid _ := HZ
      have HQ' : Hid _ := HQ
      clear hc1 HZ HQ HP
      generalize hxx : zs.getD k 0 = x at *
      go_wp2_with fail
      refine (HWI.out.put x 4 hx.1 (by omega) (by omega) (by simp; omega) (by omega) (by omega)).mono ?_
      rintro e w2 ⟨rfl, hwi2, hb2⟩
      have HWI2 : Hid (WI w2 B R (N + 4) (V + x.toNat * 2 ^ N)) := hwi2
      have hbel2 : Below B w0 w2 := hbel.trans hb2
      obtain ⟨b3, o3, he3, hb3, hc3⟩ := (hb.below hbel2 (by omega)).len_pos k (by rw [HL.out]; exact hlt)
      obtain ⟨rfl, rfl⟩ : b1 = b3 ∧ o1 = o3 := by simpa using he3
      have hs3 := hc3 k (by rw [HL.out]; exact hlt)
      rw [hxx] at hs3
      clear hwi2 hb2 hbel HWI hc3 he3 hs1
      by_cases hz : x = 0
      · have E := HZ'.out hz
        have HE : Hid (lp zs f (k + 1 + run zs k) (N + 7) (V + run zs k * 2 ^ (N + 4)) = lpF zs) := E.symm
        have HRU : Hid (run zs k = min (nou (zs.drop (k + 1))) 7) := rfl
        clear HZ' HQ' E
        subst hz
        have HWI3 : Hid (WI w2 B R (N + 4) V) := by simpa [Hid] using HWI2.out
        clear HWI2
        have HIN : Hid (∀ a', (a' = some ⟨b1, o1 + (k + 1), none⟩ ∨ n ≤ k + 1) → Ins w2 a' (zs.drop (k + 1))) := by
          rintro a' (rfl | h)
          · exact (hb.below hbel2 (by omega)).drop (k + 1)
          · have e : zs.drop (k + 1) = [] := List.drop_eq_nil_of_le (by rw [HL.out]; exact h)
            rw [e]
            exact ⟨by simp, by simp⟩
        by_cases hcc : cap = k + 1
        · subst hcc
          go_wp2_with fail
          refine (HND.out _ _ (k + 1) _ w2 (by omega) (HIN.out _ (by first | exact .inl rfl | exact .inr (by omega)))).mono ?_
          rintro e w3 ⟨rfl, rfl⟩
          generalize nou (zs.drop (k + 1)) = q at *
          generalize run zs k = r at *
          have hrq : r = min q 7 := HRU.out
          clear HRU HIN
          rcases (show (q ≤ 7 ∧ r = q) ∨ (7 < q ∧ r = 7) by omega) with ⟨hq, hr2⟩ | ⟨hq, hr2⟩
          · subst hr2
            clear hrq
            go_wp2_with fail
            refine (HWI3.out.put (r : Nat) 3 (by omega) (by omega) (by omega) (by simp; try omega) (by omega) (by omega)).mono ?_
            rintro e w4 ⟨rfl, hwi4, hb4⟩
            have HWI4 : Hid (WI w4 B R (N + 7) (V + r * 2 ^ (N + 4))) := by simpa [Hid] using hwi4
            have HB4 : Hid (Below B w0 w4) := hbel2.trans hb4
            clear hwi4 hb4 HWI3
            go_wp2
            go_roundw
            case rel => exact ⟨k + 1 + r, N + 7, V + r * 2 ^ (N + 4), f, by omega, by go_num, by omega, by omega, HE.out, HWI4.out, HB4.out⟩
            case measure => simp [intOf]; omega
          · subst hr2
            clear hrq
            go_wp2_with fail
            refine (HWI3.out.put 7 3 (by omega) (by omega) (by omega) (by simp; try omega) (by omega) (by omega)).mono ?_
            rintro e w4 ⟨rfl, hwi4, hb4⟩
            have HWI4 : Hid (WI w4 B R (N + 7) (V + 7 * 2 ^ (N + 4))) := by simpa [Hid] using hwi4
            have HB4 : Hid (Below B w0 w4) := hbel2.trans hb4
            clear hwi4 hb4 HWI3
            go_wp2
            go_roundw
            case rel => exact ⟨k + 1 + 7, N + 7, V + 7 * 2 ^ (N + 4), f, by omega, by go_num, by omega, by omega, HE.out, HWI4.out, HB4.out⟩
            case measure => simp [intOf]; omega
        · have hc2 : ¬ cap - (k + 1) = 0 := by omega
          go_wp2_with fail
          refine (HND.out _ _ (k + 1) _ w2 (by omega) (HIN.out _ (by first | exact .inl rfl | exact .inr (by omega)))).mono ?_
          rintro e w3 ⟨rfl, rfl⟩
          generalize nou (zs.drop (k + 1)) = q at *
          generalize run zs k = r at *
          have hrq : r = min q 7 := HRU.out
          clear HRU HIN
          rcases (show (q ≤ 7 ∧ r = q) ∨ (7 < q ∧ r = 7) by omega) with ⟨hq, hr2⟩ | ⟨hq, hr2⟩
          · subst hr2
            clear hrq
            go_wp2_with fail
            refine (HWI3.out.put (r : Nat) 3 (by omega) (by omega) (by omega) (by simp; try omega) (by omega) (by omega)).mono ?_
            rintro e w4 ⟨rfl, hwi4, hb4⟩
            have HWI4 : Hid (WI w4 B R (N + 7) (V + r * 2 ^ (N + 4))) := by simpa [Hid] using hwi4
            have HB4 : Hid (Below B w0 w4) := hbel2.trans hb4
            clear hwi4 hb4 HWI3
            go_wp2
            go_roundw
            case rel => exact ⟨k + 1 + r, N + 7, V + r * 2 ^ (N + 4), f, by omega, by go_num, by omega, by omega, HE.out, HWI4.out, HB4.out⟩
            case measure => simp [intOf]; omega
          · subst hr2
            clear hrq
            go_wp2_with fail
            refine (HWI3.out.put 7 3 (by omega) (by omega) (by omega) (by simp; try omega) (by omega) (by omega)).mono ?_
            rintro e w4 ⟨rfl, hwi4, hb4⟩
            have HWI4 : Hid (WI w4 B R (N + 7) (V + 7 * 2 ^ (N + 4))) := by simpa [Hid] using hwi4
            have HB4 : Hid (Below B w0 w4) := hbel2.trans hb4
            clear hwi4 hb4 HWI3
            go_wp2
            go_roundw
            case rel => exact ⟨k + 1 + 7, N + 7, V + 7 * 2 ^ (N + 4), f, by omega, by go_num, by omega, by omega, HE.out, HWI4.out, HB4.out⟩
            case measure => simp [intOf]; omega
      · have E := HQ'.out hz
        have HE : Hid (lp zs f (k + 1) (N + 4) (V + x.toNat * 2 ^ N) = lpF zs) := E.symm
        have hne : (x != 0) = true := by simpa using hz
        have HB2 : Hid (Below B w0 w2) := hbel2
        clear HZ' HQ' E hbel2
        go_wp2
        go_roundw
        case rel => exact ⟨k + 1, N + 4, V + x.toNat * 2 ^ N, f, by omega, by go_num, by omega, by omega, HE.out, HWI2.out, HB2.out⟩
        case measure => simp [intOf]; omega
    · have hkn : k = n := by omega
      subst hkn
      have E := HLE.out f k N V (by omega)
      rw [HP.out] at E
      have HA : Hid (WI wr B R (lpF zs).1 (lpF zs).2) := by rw [E]; exact HWI.out
      clear E HWI HP
      go_wp2
      go_ret
      exact ⟨rfl, HA.out, hbel⟩
end Go.Proofs.YtkjebacpmmfflaaDoor
