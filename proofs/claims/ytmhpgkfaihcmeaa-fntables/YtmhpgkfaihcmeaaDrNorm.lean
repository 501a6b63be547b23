/-
  What DrawNorm draws.
-/
import Derived.Test.YtmhpgkfaihcmeaaDrRow
namespace Go.Proofs.Ytmhpgkfaihcmeaa
open Go.RowKit
set_option linter.unusedVariables false

set_option maxHeartbeats 3200000 in
theorem drawNorm_any (a : Option Addr) (bs : List Int) (cap : Nat) (w : World) (hb : Byt w a bs) (hl : bs.length ≤ maxLen) :
    Calls Try.prog 5 #[.slice a bs.length cap] w fun e w' => ∃ n g : Nat, e = .returned (.slice (some ⟨g, 0, none⟩) n n) ∧ 1 ≤ n ∧ n ≤ 80 ∧ Row w' w.heap.size g n 1000 ∧ Below w.heap.size w w' := by
  obtain ⟨i0, hi, hz0, hz1, hz2⟩ := info_parts Try.infoI64
  go_enter Try.func5, Try.ntmps5
  go_wp2_with fail
  refine (l1New_any a bs cap w hb hl).mono ?_
  rintro e w1 ⟨rfl, hd1⟩
  have HD1 : Hid (Dr w w1 w.heap.size w.heap.size a bs cap) := hd1
  clear hd1
  go_wp2_with fail
  refine HD1.out.counts.mono ?_
  rintro e w2 ⟨n, g, rfl, hn1, hn2, hr2, hd2, ho2⟩
  have hz1' : w.heap.size < w1.heap.size := HD1.out.cur.lt.2
  have HR2 : Hid (Row w2 w1.heap.size g n 1000) := hr2
  have HD2 : Hid (Dr w w2 w.heap.size w.heap.size a bs cap) := hd2
  have hg2 := hr2.lt
  clear hr2 hd2 ho2 HD1
  go_wp2_with fail
  refine (HD2.out.once 20 (by omega) (by omega)).mono ?_
  rintro e w3 ⟨⟨b, rfl⟩, hd3, ho3⟩
  have HR3 : Hid (Row w3 w1.heap.size g n 1000) := HR2.out.only ho3 (by omega)
  have HD3 : Hid (Dr w w3 w.heap.size w.heap.size a bs cap) := hd3
  have hs3 := ho3.size
  clear hd3 ho3 HR2 HD2
  cases b
  · go_wp2
    go_ret
    obtain ⟨q, h1, h2, h3⟩ := HR3.out
    exact ⟨n, g, rfl, hn1, by omega, ⟨q, h1.mono (by omega), h2, h3⟩, HD3.out.bel⟩
  · have hsw : w.heap.size ≤ w3.heap.size := by omega
    go_wp2_with (at_make; refine wpList_make_full _ rfl _ _ 23 rfl w.heap.size 3 i0 (.int .i64 0) 1 Try.underlying23 hi hz0 hz1 .i64 .i64 _ _ 80 rfl rfl rfl rfl (by rw [hz2]; omega) (by unfold maxLen; omega) hsw ?_; intro w4 hown hgrow)
    have honly4 : Only (fun _ => False) w3 w4 := Only.grown (Only.refl _ w3) hgrow (fun k hk => by cases hk)
    have HR4 : Hid (Row w4 w.heap.size w3.heap.size 80 1000) := by
      refine ⟨List.replicate 80 0, ⟨?_, by intro z hz; simp at hz; omega⟩, by simp, by intro z hz; simp at hz; omega⟩
      rw [made_zeroI] at hown
      simpa using hown
    have HD4 : Hid (Dr w w4 w.heap.size w.heap.size a bs cap) := HD3.out.other honly4 (by simp) (by simp)
    have hg4 : w.heap.size < w3.heap.size := by omega
    clear hown hgrow honly4 hi hz0 hz1 hz2 HD3 HR3 hg2
    generalize w3.heap.size = h at *
    go_loopw [5] (fun i wr => ∃ k : Nat, k ≤ 80 ∧ i = .int .i64 k ∧ Row wr w.heap.size h 80 1000 ∧ Dr w wr w.heap.size w.heap.size a bs cap) (fun i _ => 80 - (intOf i).toNat)
    case atStart => exact ⟨0, Nat.zero_le _, rfl, HR4.out, HD4.out⟩
    case round =>
      clear HR4 HD4
      obtain ⟨k, hk, rfl, hr, hd⟩ := hrel
      by_cases hlt : k < 80
      · obtain ⟨old, hdst⟩ := hr.cell k hlt
        have hfz := hr.frozen k
        have hr5 := hr.store k 1 (by omega) (by omega)
        have hd5 := hd.other (S := fun b => b = h) (Only.setCell (Only.refl (fun b => b = h) wr) (p := ⟨h, k, none⟩) (.inl rfl) (.int .i64 1)) (by omega) (fun b hb => by omega)
        have HR5 : Hid (Row (wr.setCell ⟨h, k, none⟩ (.int .i64 1)) w.heap.size h 80 1000) := hr5
        have HD5 : Hid (Dr w (wr.setCell ⟨h, k, none⟩ (.int .i64 1)) w.heap.size w.heap.size a bs cap) := hd5
        clear hr hd hr5 hd5
        have hkI : (k : Int) < 80 := by omega
        go_wp2_with fail
        refine (HD5.out.below 4 (by omega) (by omega)).mono ?_
        rintro e w6 ⟨⟨x, hx1, hx2, rfl⟩, hd6, ho6⟩
        have hr6 : Row w6 w.heap.size h 80 1000 := HR5.out.only ho6 (by omega)
        obtain ⟨old6, hdst6⟩ := hr6.cell k hlt
        have hfz6 := hr6.frozen k
        have HR7 : Hid (Row (w6.setCell ⟨h, k, none⟩ (.int .i64 0)) w.heap.size h 80 1000) := hr6.store k 0 (by omega) (by omega)
        have HD7 : Hid (Dr w (w6.setCell ⟨h, k, none⟩ (.int .i64 0)) w.heap.size w.heap.size a bs cap) := hd6.other (S := fun b => b = h) (Only.setCell (Only.refl (fun b => b = h) w6) (p := ⟨h, k, none⟩) (.inl rfl) (.int .i64 0)) (by omega) (fun b hb => by omega)
        have HR6 : Hid (Row w6 w.heap.size h 80 1000) := hr6
        have HD6 : Hid (Dr w w6 w.heap.size w.heap.size a bs cap) := hd6
        clear hr6 hd6 ho6 HR5 HD5 hdst hfz
        by_cases hgt : 62 + x < (k : Int)
        · have hd1 : decide (62 + x < (k : Int)) = true := by simpa using hgt
          go_wp2
          go_roundw
          case rel => exact ⟨k + 1, by omega, by go_num, by simpa using HR7.out, by simpa using HD7.out⟩
          case measure => simp [intOf]; omega
        · have hd1 : decide (62 + x < (k : Int)) = false := by simpa using hgt
          go_wp2
          go_roundw
          case rel => exact ⟨k + 1, by omega, by go_num, HR6.out, HD6.out⟩
          case measure => simp [intOf]; omega
      · have HR5 : Hid (Row wr w.heap.size h 80 1000) := hr
        have HD5 : Hid (Dr w wr w.heap.size w.heap.size a bs cap) := hd
        clear hr hd
        go_wp2
        go_ret
        exact ⟨80, h, rfl, by omega, by omega, HR5.out, HD5.out.bel⟩
end Go.Proofs.Ytmhpgkfaihcmeaa
