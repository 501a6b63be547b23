/-
  The law on Longest of a drawn block returns true, whatever is handed in, and writes nothing that was there.
-/
import Derived.Lib.SlBytesConst
import Derived.BigQuiet
import Derived.Test.YtgppjlbocppjlaaLgI
import Derived.Test.YtgppjlbocppjlaaInsN
import Derived.Test.YtgppjlbocppjlaaDrBy
namespace Go.Proofs.Ytgppjlbocppjlaa
open Go.RowKit
set_option linter.unusedVariables false
set_option linter.unusedSimpArgs false

/-- What the law asks of the longest piece. -/
structure LgOk (ys : List Int) (p n d : Nat) : Prop where
  piece : n = 0 ∧ d = 0 ∨ 3 ≤ n ∧ 1 ≤ d ∧ d ≤ p ∧ p + n ≤ ys.length ∧ ∀ j, j < n → ys.getD (p + j) 0 = ys.getD (p + j - d) 0
  best : ∀ e, 1 ≤ e → e ≤ p → 3 ≤ alk ys (p - e) p → alk ys (p - e) p ≤ n ∧ (alk ys (p - e) p = n → d ≤ e)
theorem lgOk (ys : List Int) (p : Nat) (hp : p < ys.length) : LgOk ys p (lzA ys p).1 (lzA ys p).2 := by
  obtain ⟨h1, h2⟩ := lzD_spec ys p p
  unfold lzA
  split
  · rename_i h
    refine ⟨.inl ⟨rfl, rfl⟩, fun e e1 e2 e3 => ?_⟩
    have := h1 e e1 e2
    omega
  · rename_i h
    rcases h2 with h2 | ⟨d, d1, d2, d3, d4⟩
    · rw [h2] at h; simp at h
    · rw [d3] at h h1 ⊢
      simp only at h h1 ⊢
      have hle := alk_le ys (p - d) p
      refine ⟨.inr ⟨by omega, d1, d2, by omega, fun j hj => ?_⟩, fun e e1 e2 e3 => ⟨h1 e e1 e2, fun he => ?_⟩⟩
      · have := alkF_eq ys _ (p - d) p j hj
        rw [show p + j - d = p - d + j by omega]
        exact this.symm
      · rcases Nat.lt_or_ge e d with h5 | h5
        · have := d4 e e1 h5; omega
        · exact h5
theorem lg_abc : lgR [97, 98, 99, 97, 98, 99, 97, 98, 120] 3 = (5, 3) := by decide +kernel
theorem byt_mark (w : World) : Byt (w.alloc (.cells #[.int .u8 97, .int .u8 98, .int .u8 99, .int .u8 97, .int .u8 98, .int .u8 99, .int .u8 97, .int .u8 98, .int .u8 120] 5 (9, 10))) (some ⟨w.heap.size, 0, none⟩) [97, 98, 99, 97, 98, 99, 97, 98, 120] :=
  ⟨by intro z hz; simp at hz; omega, fun _ => ⟨w.heap.size, 0, rfl, by simp, fun i hi => by
    have hi' : i < 9 := hi
    have h9 : (w.alloc (.cells #[.int .u8 97, .int .u8 98, .int .u8 99, .int .u8 97, .int .u8 98, .int .u8 99, .int .u8 97, .int .u8 98, .int .u8 120] 5 (9, 10))).heap[w.heap.size]? = some (.cells #[.int .u8 97, .int .u8 98, .int .u8 99, .int .u8 97, .int .u8 98, .int .u8 99, .int .u8 97, .int .u8 98, .int .u8 120] 5 (9, 10)) := by
      show (w.heap.push _)[w.heap.size]? = _
      simp
    exact match i, hi' with
    | 0, _ => by simp only [World.cell?, Nat.zero_add, h9]; rfl
    | 1, _ => by simp only [World.cell?, Nat.zero_add, h9]; rfl
    | 2, _ => by simp only [World.cell?, Nat.zero_add, h9]; rfl
    | 3, _ => by simp only [World.cell?, Nat.zero_add, h9]; rfl
    | 4, _ => by simp only [World.cell?, Nat.zero_add, h9]; rfl
    | 5, _ => by simp only [World.cell?, Nat.zero_add, h9]; rfl
    | 6, _ => by simp only [World.cell?, Nat.zero_add, h9]; rfl
    | 7, _ => by simp only [World.cell?, Nat.zero_add, h9]; rfl
    | 8, _ => by simp only [World.cell?, Nat.zero_add, h9]; rfl⟩⟩
theorem longestAbc_any (w : World) :
    Calls Try.prog 5 #[.slice (some ⟨w.heap.size, 0, none⟩) 9 9, .int .i64 3] (w.alloc (.cells #[.int .u8 97, .int .u8 98, .int .u8 99, .int .u8 97, .int .u8 98, .int .u8 99, .int .u8 97, .int .u8 98, .int .u8 120] 5 (9, 10))) fun e w' => e = .returned (.tuple #[.int .i64 5, .int .i64 3]) ∧ Below w.heap.size w w' := by
  have h := implLongest_any (some ⟨w.heap.size, 0, none⟩) 9 [97, 98, 99, 97, 98, 99, 97, 98, 120] 3 _ (byt_mark w) (by simp)
  rw [lg_abc] at h
  exact h.mono fun e w' ⟨he, hb⟩ => ⟨he, ((Below.refl _ _).alloc (Nat.le_refl _) _).trans (hb.mono (by simp))⟩
theorem below_dF (w : World) (n : Nat) : Below w.heap.size w (w.drewN n) := ⟨rfl, rfl, rfl, Nat.le_refl _, fun _ _ => rfl⟩
theorem below_dR {B : Nat} {a b : World} (h : Below B a b) (n : Nat) : Below B a (b.drewN n) := ⟨h.os, h.tape, h.output, h.size, h.block⟩

set_option maxHeartbeats 4000000 in
theorem drawLongest_any (a : Option Addr) (bs : List Int) (cap : Nat) (w : World) (hb : Byt w a bs) (hl : bs.length ≤ maxLen) :
    Calls Try.prog 4 #[.slice a bs.length cap] w fun e w' => ∃ (n c : Nat) (a' : Option Addr) (x : Int) (ys : List Int), e = .returned (.tuple #[.slice a' n c, .int .i64 x]) ∧ ys.length = n ∧ n ≤ 65 ∧ -1 ≤ x ∧ x ≤ n ∧ OVB w' w.heap.size (.slice a' n c) ys ∧ Below w.heap.size w w' := by
  go_enter Try.func4, Try.ntmps4
  go_wp2_with fail
  refine (l1New_any a bs cap w hb hl).mono ?_
  rintro e w1 ⟨rfl, hd1⟩
  have HD1 : Hid (Dr w w1 w.heap.size w.heap.size a bs cap) := hd1
  have hR1 := hd1.cur.lt
  clear hd1
  have HIN : Hid (∀ T, Ins (w1.alloc (.cells #[.int .i64 0, .int .i64 3, .int .i64 20, .int .i64 64, .int .i64 65] T)) (some ⟨w1.heap.size, 0, none⟩) [0, 3, 20, 64, 65]) := fun T => by
    have := ins_newN w1 T [0, 3, 20, 64, 65] (by intro z hz; simp at hz; omega)
    simpa using this
  have hoa : Only (fun _ => False) w1 (w1.alloc (.cells #[.int .i64 0, .int .i64 3, .int .i64 20, .int .i64 64, .int .i64 65] 3)) := (Only.refl _ _).alloc _
  go_wp2_with fail
  refine ((HD1.out.other hoa (by simp) (by simp)).pick w1.heap.size 5 [0, 3, 20, 64, 65] (HIN.out _) (by omega) (by simp) (by simp)).mono ?_
  rintro e w2 ⟨⟨z, hz, rfl⟩, hd2, ho2⟩
  have hz2 : 0 ≤ z ∧ z ≤ 65 := by simp at hz; omega
  obtain ⟨n, rfl⟩ := Int.eq_ofNat_of_zero_le hz2.1
  have hn : n ≤ 65 := by omega
  have HD2 : Hid (Dr w w2 w.heap.size w.heap.size a bs cap) := hd2
  clear hd2 ho2 hoa HIN HD1 hz hz2
  go_wp2_with fail
  refine (HD2.out.bytes4 n hn).mono ?_
  rintro e w3 ⟨a3, c3, ls, rfl, hll, hov, hd3, ho3⟩
  have hw2 : w.heap.size ≤ w2.heap.size := HD2.out.bel.size
  have HD3 : Hid (Dr w w3 w.heap.size w.heap.size a bs cap) := hd3
  have HO3 : Hid (ls.length = n ∧ OVB w3 w2.heap.size (.slice a3 n c3) ls) := ⟨hll, hov⟩
  have hz3 := HD2.out.cur.lt
  clear hd3 ho3 hov hll HD2
  go_wp2_with fail
  refine (HD3.out.below ((n : Int) + 2) (by omega) (by omega)).mono ?_
  rintro e w4 ⟨⟨x, hx1, hx2, rfl⟩, hd4, ho4⟩
  have HR : Hid (OVB w4 w.heap.size (.slice a3 n c3) ls ∧ Below w.heap.size w w4) := ⟨(HO3.out.2.stay ho4 (fun k hk h => by omega)).weak hw2, hd4.bel⟩
  have HLL : Hid (ls.length = n ∧ True) := ⟨HO3.out.1, trivial⟩
  clear hd4 ho4 HD3 HO3
  go_wp2
  go_ret2
  exact ⟨n, c3, a3, x - 1, ls, rfl, HLL.out.1, hn, by omega, by omega, HR.out⟩

set_option maxRecDepth 20000 in
set_option maxHeartbeats 8000000 in
theorem lawFnLongest_any (a : Option Addr) (cap : Nat) (bs : List Int) (w : World) (hb : Byt w a bs) (hm : bs.length ≤ maxLen) :
    Calls Try.prog 3 #[.slice a bs.length cap] w fun e w' => e = .returned (.bool true) ∧ Below w.heap.size w w' := by
  have kc := fun (w : World) (C : Array Value) (n c : Nat) => Lib.run_convert_bytes_const (P := Try.prog) w 22 5 C n c Try.underlying22 Try.underlying5
  go_enter Try.func3, Try.ntmps3
  go_wp2_with fail
  refine (drawLongest_any a bs cap w hb hm).mono ?_
  rintro e w1 ⟨n, c, a1, x, ys, rfl, hyl, hn, hx1, hx2, hov, hb1⟩
  have hcap := hov.cap
  have HIM : Hid (Calls Try.prog 5 #[.slice a1 n c, .int .i64 x] w1 fun e w' => e = .returned (.tuple #[.int .i64 (lgR ys x).1, .int .i64 (lgR ys x).2]) ∧ Below w1.heap.size w1 w') := by
    have h := implLongest_any a1 c ys x w1 hov.byt hcap.1
    rw [hyl] at h
    exact h
  have HY : Hid (ys.length = n ∧ Byt w1 a1 ys ∧ Below w.heap.size w w1) := ⟨hyl, hov.byt, hb1⟩
  have HLG : Hid (ys.length ≤ 64 ∧ 0 ≤ x ∧ x < ys.length → ∃ p : Nat, x = (p : Int) ∧ lgR ys x = lzA ys p) := fun h => ⟨x.toNat, by omega, if_pos h⟩
  have HLN : Hid (¬ (ys.length ≤ 64 ∧ 0 ≤ x ∧ x < ys.length) → lgR ys x = (0, 0)) := fun h => if_neg h
  have HOK : Hid (∀ p, p < ys.length → LgOk ys p (lzA ys p).1 (lzA ys p).2) := fun p hp => lgOk ys p hp
  clear hcap hov hb1 hb
  generalize hrr : lgR ys x = rr at *
  clear hrr
  obtain ⟨r1, r2⟩ := rr
  go_wp2_with fail
  refine HIM.out.mono ?_
  rintro e w2 ⟨rfl, hb2⟩
  have HB2 : Hid (Below w1.heap.size w1 w2) := hb2
  clear hb2 HIM
  go_wp2_with fail
  refine (longestAbc_any w2).mono ?_
  rintro e w3 ⟨rfl, hb3⟩
  have HB3 : Hid (Below w1.heap.size w1 w3) := HB2.out.trans (hb3.mono HB2.out.size)
  have HB0 : Hid (∀ m, Below w.heap.size w (w3.drewN m)) := fun m => below_dR (HY.out.2.2.trans (HB3.out.mono HY.out.2.2.size)) m
  clear hb3 HB2 kc
  by_cases hin : ys.length ≤ 64 ∧ 0 ≤ x ∧ x < ys.length
  · obtain ⟨p, rfl, hrp⟩ := HLG.out hin
    have hpn : p < n := by omega
    have hn64 : n ≤ 64 := by omega
    have hok := HOK.out p (by omega)
    rw [← hrp] at hok
    clear hrp HLG HLN HOK hin
    have HO : Hid (LgOk ys p r1 r2) := hok
    have hr1 : r1 ≤ 64 := by rcases hok.piece with h | h <;> omega
    have hr2 : r2 ≤ p := by rcases hok.piece with h | h <;> omega
    clear hok
    obtain ⟨bk, o, rfl, hbk, hc0⟩ := HY.out.2.1.2 (by omega)
    have HC : Hid (∀ j, j < n → w3.cell? ⟨bk, o + j, none⟩ = some (.int .u8 (ys.getD j 0))) := fun j hj => keep HB3.out hbk (hc0 j (by omega))
    have hbk3 : bk < w3.heap.size := by have := HB3.out.size; omega
    clear hc0 hbk
    have d1 : ¬ (64 : Int) < (n : Int) := by omega
    have d2 : ¬ (p : Int) < 0 := by omega
    have d3 : ¬ (n : Int) ≤ (p : Int) := by omega
    have d4 : decide (n ≤ p) = false := decide_eq_false (by omega)
    go_wp2
    go_loopw [9] (fun i wr => ∃ k m : Nat, k ≤ r1 ∧ i = .int .i64 k ∧ wr = w3.drewN m) (fun i _ => r1 - (intOf i).toNat)
    case atStart => exact ⟨0, 0, Nat.zero_le _, rfl, rfl⟩
    case round =>
      obtain ⟨k, m, hk, rfl, rfl⟩ := hrel
      by_cases hlt : k < r1
      · obtain ⟨h3, e1, e2, e3, e4⟩ : 3 ≤ r1 ∧ 1 ≤ r2 ∧ r2 ≤ p ∧ p + r1 ≤ ys.length ∧ ∀ j, j < r1 → ys.getD (p + j) 0 = ys.getD (p + j - r2) 0 := by
          rcases HO.out.piece with h | h
          · omega
          · exact h
        have hyl2 := HY.out.1
        obtain ⟨q, hq⟩ : ∃ q : Nat, q = p + k := ⟨_, rfl⟩
        obtain ⟨r, hr⟩ : ∃ r : Nat, r = q - r2 := ⟨_, rfl⟩
        have hz := e4 k hlt
        rw [← hq, ← hr] at hz
        have c0 := HC.out q (by omega)
        have c1 := HC.out r (by omega)
        rw [hz] at c0
        clear hz e4
        generalize ys.getD r 0 = z at *
        have hqi : (p : Int) + (k : Int) = (q : Int) := by omega
        have hri : (q : Int) - (r2 : Int) = (r : Int) := by omega
        have hql : (q : Int) < (n : Int) := by omega
        have hrl : (r : Int) < (n : Int) := by omega
        have hq2 : q < n := by omega
        have hr2' : r < n := by omega
        have g1 : ¬ (r2 : Int) < 1 := by omega
        have g2 : ¬ (p : Int) < (r2 : Int) := by omega
        have hwq : IntKind.i64.wrap (q : Int) = q := IntWalk.i64_in _ (by omega)
        have hwr : IntKind.i64.wrap (r : Int) = r := IntWalk.i64_in _ (by omega)
        have g3 : (z != z) = false := by simp
        clear hq hr hyl2 e3 h3
        go_wp2
        go_quiet (fail)
        go_wp2
        go_roundw
        case rel => exact ⟨k + 1, _, by omega, by go_num, rfl⟩
        case measure => simp [intOf]; omega
      · have hlt2 : ¬ (k : Int) < (r1 : Int) := by omega
        clear hk
        go_wp2
        go_loopw [10] (fun i wr => ∃ k m : Nat, 1 ≤ k ∧ k ≤ p + 1 ∧ i = .int .i64 k ∧ wr = w3.drewN m) (fun i _ => p + 1 - (intOf i).toNat)
        case atStart => exact ⟨1, m, by omega, by omega, rfl, rfl⟩
        case round =>
          obtain ⟨e, m2, he1, he2, rfl, rfl⟩ := hrel
          by_cases hle : e ≤ p
          · have hleI : (e : Int) ≤ (p : Int) := by omega
            go_wp2
            go_loopw [11] (fun i wr => ∃ k m : Nat, p + k ≤ n ∧ i = .int .i64 k ∧ (∀ j, j < k → ys.getD (p - e + j) 0 = ys.getD (p + j) 0) ∧ wr = w3.drewN m) (fun i _ => n - (intOf i).toNat)
            case atStart => exact ⟨0, m2, by omega, rfl, fun j hj => by omega, rfl⟩
            case round =>
              obtain ⟨t, m3, ht, rfl, hal, rfl⟩ := hrel
              have HA : Hid (∀ j, j < t → ys.getD (p - e + j) 0 = ys.getD (p + j) 0) := hal
              clear hal
              have HEND : Hid (alk ys (p - e) p = t → ¬ (3 ≤ t ∧ (r1 < t ∨ t = r1 ∧ e < r2))) := fun ha h => by
                have := HO.out.best e he1 hle (by omega)
                omega
              by_cases htn : p + t < n
              · obtain ⟨q, hq⟩ : ∃ q : Nat, q = p + t := ⟨_, rfl⟩
                obtain ⟨r, hr⟩ : ∃ r : Nat, r = p - e + t := ⟨_, rfl⟩
                have c0 := HC.out q (by omega)
                have c1 := HC.out r (by omega)
                have hqi : (p : Int) + (t : Int) = (q : Int) := by omega
                have hri : (q : Int) - (e : Int) = (r : Int) := by omega
                have hql : (q : Int) < (n : Int) := by omega
                have hrl : (r : Int) < (n : Int) := by omega
                have hq2 : q < n := by omega
                have hr2' : r < n := by omega
                have HQR : Hid (q = p + t ∧ r = p - e + t) := ⟨hq, hr⟩
                clear hq hr
                obtain ⟨z0, hz0⟩ : ∃ z, ys.getD q 0 = z := ⟨_, rfl⟩
                obtain ⟨z1, hz1⟩ : ∃ z, ys.getD r 0 = z := ⟨_, rfl⟩
                have HZ : Hid (ys.getD q 0 = z0 ∧ ys.getD r 0 = z1) := ⟨hz0, hz1⟩
                rw [hz0] at c0
                rw [hz1] at c1
                clear hz0 hz1
                by_cases hzz : z0 = z1
                · subst hzz
                  have hd : (z0 == z0) = true := by simp
                  have HN : Hid (∀ j, j < t + 1 → ys.getD (p - e + j) 0 = ys.getD (p + j) 0) := fun j hj => by
                    rcases Nat.lt_or_ge j t with h | h
                    · exact HA.out j h
                    · rw [show j = t by omega, ← HQR.out.1, ← HQR.out.2, HZ.out.1, HZ.out.2]
                  clear HEND
                  go_wp2
                  go_quiet (fail)
                  go_wp2
                  go_roundw
                  case rel => exact ⟨t + 1, _, by omega, by go_num, HN.out, rfl⟩
                  case measure => simp [intOf]; omega
                · have hd : (z0 == z1) = false := by simp; exact hzz
                  have hae : alk ys (p - e) p = t := alk_is ys _ _ t (by have := HY.out.1; omega) HA.out (fun _ => by
                    rw [← HQR.out.1, ← HQR.out.2, HZ.out.1, HZ.out.2]
                    exact fun e => hzz e.symm)
                  have hend := HEND.out hae
                  clear HEND hae
                  go_wp2
                  go_quiet (fail)
                  go_wp2
                  all_goals exact ⟨⟨e + 1, _, by omega, by omega, by go_num, rfl⟩, by simp [intOf]; omega⟩
              · have hql : ¬ (p : Int) + (t : Int) < (n : Int) := by omega
                have hd : decide ((p : Int) + (t : Int) < (n : Int)) = false := decide_eq_false hql
                have hae : alk ys (p - e) p = t := alk_is ys _ _ t (by have := HY.out.1; omega) HA.out (fun h => absurd h (by have := HY.out.1; omega))
                have hend := HEND.out hae
                clear HEND hae
                go_wp2
                go_quiet (fail)
                go_wp2
                all_goals exact ⟨⟨e + 1, _, by omega, by omega, by go_num, rfl⟩, by simp [intOf]; omega⟩
          · have hleI : ¬ (e : Int) ≤ (p : Int) := by omega
            have hr : r1 = 0 ∧ r2 = 0 ∨ 3 ≤ r1 := by rcases HO.out.piece with h | h <;> omega
            rcases hr with ⟨h1, h2⟩ | h3
            · subst h1 h2
              go_wp2
              go_ret
              exact ⟨rfl, HB0.out _⟩
            · have b1 : decide ((r1 : Int) = 0) = false := decide_eq_false (by omega)
              have b2 : ((r1 : Int) == 0) = false := by simp; omega
              have b3 : decide ((3 : Int) ≤ (r1 : Int)) = true := decide_eq_true (by omega)
              have b4 : (3 : Int) ≤ (r1 : Int) := by omega
              go_wp2
              go_ret
              exact ⟨rfl, HB0.out _⟩
  · have h00 := HLN.out hin
    obtain ⟨rfl, rfl⟩ : r1 = 0 ∧ r2 = 0 := by simpa using h00
    clear HLG HLN HOK h00
    have hyl2 := HY.out.1
    by_cases h1 : (64 : Int) < (n : Int)
    · go_wp2
      go_ret
      exact ⟨rfl, HB0.out 0⟩
    · by_cases h2 : x < 0
      · go_wp2
        go_ret
        exact ⟨rfl, HB0.out 0⟩
      · have h3 : (n : Int) ≤ x := by omega
        clear hin
        go_wp2
        go_ret
        exact ⟨rfl, HB0.out 0⟩
end Go.Proofs.Ytgppjlbocppjlaa
