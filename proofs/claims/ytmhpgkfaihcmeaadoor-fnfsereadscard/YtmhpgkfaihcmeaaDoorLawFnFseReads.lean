/-
  The law on drawn bits that are read by a table returns true, whatever is handed in, where the sentinels hold some error, and writes nothing that was there.
-/
import Derived.Test.YtmhpgkfaihcmeaaDoorDrFget
import Derived.Test.YtmhpgkfaihcmeaaDoorFgI
import Derived.Test.YtmhpgkfaihcmeaaDoorFp8
import Derived.Test.YtmhpgkfaihcmeaaDoorFr1
import Derived.Test.YtmhpgkfaihcmeaaDoorSameB
import Derived.Test.YtmhpgkfaihcmeaaDoorINorm5
import Derived.Test.YtmhpgkfaihcmeaaDoorDraw3
import Derived.Test.YtmhpgkfaihcmeaaDoorEncB
namespace Go.Proofs.YtmhpgkfaihcmeaaDoor
open Go.RowKit
set_option linter.unusedVariables false
set_option linter.unusedSimpArgs false

theorem oneG_sum : sumF one [3, 0, 1] = 2 := by decide
theorem oneG_room : roomy [3, 0, 1] := by unfold roomy; rw [oneG_sum]; omega
theorem oneG_cnt : cntB [3, 0, 1] = true := by decide

/-- FseGet of the program at any arguments: nothing, or a text whose bits are just those. -/
theorem fseGet_some (al : Option Addr) (cl : Nat) (l : List Int) (a' : Option Addr) (cp : Nat) (ys : List Int) (N n : Int) (w : World) (hl : Ins w al l) (hy : Byt w a' ys) (hl1 : l.length ≤ 81) (hl2 : ys.length ≤ 600) (hS : SentF w) :
    Calls Tryd.prog 9 #[.slice al l.length cl, .agg #[.slice a' ys.length cp, .int .i64 N], .int .i64 n] w fun e w' => Below w.heap.size w w' ∧
      (e = .returned (.tuple #[.slice none 0 0, .bool false]) ∨ ∃ (g nn : Nat) (ts : List Int) (NN : Nat), (n = nn ∧ N = NN ∧ ts.length = nn ∧ nn ≤ 300) ∧ e = .returned (.tuple #[.slice (some ⟨g, 0, none⟩) nn nn, .bool true]) ∧ Ins w' (some ⟨g, 0, none⟩) ts ∧ normB l = true ∧ txtB ts l.length = true ∧ shd l ts ∧ ∀ T, tb (pl (fl 0 l) (plc 64)) l 64 = T → fN T ts = NN ∧ enc (fN T ts) (fV T ts) = ys) := by
  by_cases h : fgArgs l N n ys
  · obtain ⟨h1, h2, h3, h4⟩ := h
    obtain ⟨NN, rfl, hN, henc, hval⟩ := okB_enc h2 hy.1
    obtain ⟨nn, rfl⟩ := Int.eq_ofNat_of_zero_le h3
    refine (implFseGet_ok al cl l a' cp ys NN nn _ w hl hy henc hN (by omega) h1 h2 rfl hS).mono ?_
    rintro e w' ⟨hb', hno, hyes⟩
    refine ⟨hb', ?_⟩
    cases hf : fgB (tb (pl (fl 0 l) (plc 64)) l 64) (val ys) NN nn with
    | false => exact .inl (hno hf)
    | true =>
      obtain ⟨g, rfl, how⟩ := hyes hf
      have hfo := fse_forth (tabU_tb h1) hval hf
      have hbd := normB_bnd h1
      refine .inr ⟨g, nn, _, NN, ⟨rfl, rfl, so_len _ _ _ _, by omega⟩, rfl, how.byt, h1, ?_, hfo.2.2.1, ?_⟩
      · refine txtB_all (by omega) (by omega) (by rw [so_len]; omega) (fun z hz => ?_)
        rw [List.take_length] at hz
        obtain ⟨k, hk, rfl⟩ := List.mem_iff_getElem.1 hz
        have h9 := hfo.2.2.2 k hk
        rw [List.getD_eq_getElem?_getD, List.getElem?_eq_getElem hk] at h9
        simpa using h9
      · rintro T rfl
        exact ⟨hfo.1, by rw [hfo.1, hfo.2.1]; exact henc.symm⟩
  · refine (implFseGet_no al cl l a' cp ys N n w hl hy (by omega) (by omega) h).mono ?_
    rintro e w' ⟨rfl, hb'⟩
    exact ⟨hb', .inl rfl⟩

set_option maxRecDepth 20000 in
set_option maxHeartbeats 8000000 in
theorem lawFnFseReads_any (a : Option Addr) (cap : Nat) (bs : List Int) (w : World) (hb : Byt w a bs) (hm : bs.length ≤ maxLen) (hS : SentF w) (hP : SentP w) :
    Calls Tryd.prog 4 #[.slice a bs.length cap] w fun e w' => e = .returned (.bool true) ∧ Below w.heap.size w w' := by
  have HSN : Hid (SentF w ∧ SentP w) := ⟨hS, hP⟩
  clear hS hP
  go_enter Tryd.func4, Tryd.ntmps4
  go_wp2_with fail
  refine (drawFseGet_any a bs cap w hb hm).mono ?_
  clear hb hm
  rintro e w1 ⟨v, l, a', cp, ys, N, n, rfl, hov, hl81, hy, hy6, hn1, hn2, hb1⟩
  obtain ⟨al, cl, rfl⟩ := hov.form
  have hA : Below w1.heap.size w1 (w1.alloc (Obj.cells #[.slice a' ys.length cp, .int .i64 N] 27)) := (Below.refl _ _).alloc (Nat.le_refl _) _
  have H1 : Hid (Ins (w1.alloc (Obj.cells #[.slice a' ys.length cp, .int .i64 N] 27)) al l ∧ Byt (w1.alloc (Obj.cells #[.slice a' ys.length cp, .int .i64 N] 27)) a' ys ∧ Box2 (w1.alloc (Obj.cells #[.slice a' ys.length cp, .int .i64 N] 27)) w1.heap.size (.slice a' ys.length cp) (.int .i64 N) ∧ Below w.heap.size w (w1.alloc (Obj.cells #[.slice a' ys.length cp, .int .i64 N] 27))) := ⟨hov.insX.below hA (Nat.le_refl _), hy.below hA (Nat.le_refl _), Box2.new _ _ _ _, hb1.trans (hA.mono hb1.size)⟩
  have HFG := fseGet_some al cl l a' cp ys N n _ H1.out.1 H1.out.2.1 hl81 hy6 (HSN.out.1.below H1.out.2.2.2)
  clear hov hy hb1 hA
  go_wp2_with fail
  generalize w1.alloc (Obj.cells #[.slice a' ys.length cp, .int .i64 N] 27) = W1 at *
  generalize w1.heap.size = X at *
  refine HFG.mono ?_
  clear HFG
  rintro e w2 ⟨hb2, hcase⟩
  have H2 : Hid (Ins w2 al l ∧ Byt w2 a' ys ∧ Box2 w2 X (.slice a' ys.length cp) (.int .i64 N) ∧ Below w.heap.size w w2) := ⟨H1.out.1.below hb2 (Nat.le_refl _), H1.out.2.1.below hb2 (Nat.le_refl _), H1.out.2.2.1.keep hb2 H1.out.2.2.1.lt, H1.out.2.2.2.trans (hb2.mono H1.out.2.2.2.size)⟩
  clear hb2 H1
  have HIN : Hid (∀ T, Ins (w2.alloc (.cells #[.int .i64 3, .int .i64 0, .int .i64 1] T)) (some ⟨w2.heap.size, 0, none⟩) [3, 0, 1] ∧ Below w2.heap.size w2 (w2.alloc (.cells #[.int .i64 3, .int .i64 0, .int .i64 1] T))) := fun T => by
    have := ins_newN w2 T [3, 0, 1] (by intro z hz; simp at hz; omega)
    exact ⟨by simpa using this, (Below.refl _ _).alloc (Nat.le_refl _) _⟩
  rcases hcase with rfl | ⟨g, nn, ts, NN, ⟨rfl, rfl, htl, hnn⟩, rfl, hin, h1, h2, h3, hT⟩
  · go_wp2_with fail
    refine (implNorm_ok (some ⟨w2.heap.size, 0, none⟩) 3 [3, 0, 1] _ (HIN.out _).1 oneG_cnt).mono ?_
    rintro e w3 ⟨hb3, -, hy3⟩
    obtain ⟨rfl, -⟩ := hy3 oneG_room
    have hb23 : Below w2.heap.size w2 w3 := (HIN.out _).2.trans (hb3.mono (HIN.out _).2.size)
    have H3 : Hid (Below w.heap.size w w3 ∧ True) := ⟨H2.out.2.2.2.trans (hb23.mono H2.out.2.2.2.size), trivial⟩
    clear hb3 hb23 hy3 H2 HIN
    go_wp2
    go_ret
    exact ⟨rfl, H3.out.1⟩
  · have HTS : Hid (Ins w2 (some ⟨g, 0, none⟩) ts ∧ ts.length = nn) := ⟨hin, htl⟩
    have HRD : Hid (normB l = true ∧ txtB ts l.length = true ∧ shd l ts ∧ ∀ T, tb (pl (fl 0 l) (plc 64)) l 64 = T → fN T ts = NN ∧ enc (fN T ts) (fV T ts) = ys) := ⟨h1, h2, h3, hT⟩
    clear hin htl h1 h2 h3 hT
    go_wp2_with fail
    refine (implNorm_ok (some ⟨w2.heap.size, 0, none⟩) 3 [3, 0, 1] _ (HIN.out _).1 oneG_cnt).mono ?_
    rintro e w3 ⟨hb3, -, hy3⟩
    obtain ⟨rfl, -⟩ := hy3 oneG_room
    have hb23 : Below w2.heap.size w2 w3 := (HIN.out _).2.trans (hb3.mono (HIN.out _).2.size)
    have H3 : Hid (Ins w3 al l ∧ Byt w3 a' ys ∧ Box2 w3 X (.slice a' ys.length cp) (.int .i64 (NN : Nat)) ∧ Below w.heap.size w w3 ∧ Ins w3 (some ⟨g, 0, none⟩) ts) := ⟨H2.out.1.below hb23 (Nat.le_refl _), H2.out.2.1.below hb23 (Nat.le_refl _), H2.out.2.2.1.keep hb23 H2.out.2.2.1.lt, H2.out.2.2.2.trans (hb23.mono H2.out.2.2.2.size), HTS.out.1.below hb23 (Nat.le_refl _)⟩
    clear hb3 hb23 hy3 H2 HIN
    have HIP : Calls Tryd.prog 7 #[.slice al l.length cl, .slice (some ⟨g, 0, none⟩) nn nn] w3 fun e w' => (∃ a4 c4, e = .returned (.tuple #[.agg #[.slice a4 ys.length c4, .int .i64 (NN : Nat)], .bool true]) ∧ Byt w' a4 ys) ∧ Below w3.heap.size w3 w' := by
      have h9 := implFsePut_ok al cl l (some ⟨g, 0, none⟩) nn ts _ w3 H3.out.1 H3.out.2.2.2.2 HRD.out.1 HRD.out.2.1 rfl (HSN.out.2.below H3.out.2.2.2.1)
      rw [HTS.out.2] at h9
      have h8 := HRD.out.2.2.2 _ rfl
      refine h9.mono ?_
      rintro e w' ⟨hb', hyes, -⟩
      obtain ⟨a4, c4, rfl, hm4⟩ := hyes HRD.out.2.2.1
      have h7 := hm4.byt
      rw [h8.2] at h7
      exact ⟨⟨a4, c4, by rw [h8.2, h8.1], h7⟩, hb'⟩
    obtain ⟨x0, x1, -, -, xl⟩ := H3.out.2.2.1
    go_wp2_with fail
    refine HIP.mono ?_
    clear HIP x0 x1 xl
    rintro e w4 ⟨⟨a4, c4, rfl, hy4⟩, hb4⟩
    have hA4 : Below w4.heap.size w4 (w4.alloc (Obj.cells #[.slice a4 ys.length c4, .int .i64 (NN : Nat)] 27)) := (Below.refl _ _).alloc (Nat.le_refl _) _
    have hb34 : Below w3.heap.size w3 (w4.alloc (Obj.cells #[.slice a4 ys.length c4, .int .i64 (NN : Nat)] 27)) := hb4.trans (hA4.mono hb4.size)
    have H5 : Hid (Byt (w4.alloc (Obj.cells #[.slice a4 ys.length c4, .int .i64 (NN : Nat)] 27)) a' ys ∧ Byt (w4.alloc (Obj.cells #[.slice a4 ys.length c4, .int .i64 (NN : Nat)] 27)) a4 ys ∧ Below w.heap.size w (w4.alloc (Obj.cells #[.slice a4 ys.length c4, .int .i64 (NN : Nat)] 27))) := ⟨H3.out.2.1.below hb34 (Nat.le_refl _), hy4.below hA4 (Nat.le_refl _), H3.out.2.2.2.1.trans (hb34.mono H3.out.2.2.2.1.size)⟩
    obtain ⟨x0, x1, -, -, xl⟩ := H3.out.2.2.1.keep hb4 H3.out.2.2.1.lt
    have HSB := sameBits_yes a' a4 cp c4 ys (NN : Nat) _ H5.out.1 H5.out.2.1
    clear hA4 hb34 hy4 hb4 H3
    go_wp2_with fail
    refine HSB.mono ?_
    clear HSB
    rintro e w6 ⟨rfl, hb6⟩
    have H6 : Hid (Below w.heap.size w w6 ∧ True) := ⟨H5.out.2.2.trans (hb6.mono H5.out.2.2.size), trivial⟩
    clear hb6 H5
    go_wp2
    go_ret
    exact ⟨rfl, H6.out.1⟩
end Go.Proofs.YtmhpgkfaihcmeaaDoor
