/-
  The law on lengths and their bits returns true, whatever is handed in, and writes nothing that was there. (Typed by wip/mkfnlb.py.)
-/
import Derived.Test.YtkjebacpmmfflaaDoorIBase
import Derived.Test.YtkjebacpmmfflaaDoorPut3
import Derived.Test.YtkjebacpmmfflaaDoorOkI
import Derived.Test.YtkjebacpmmfflaaDoorReader
import Derived.Test.YtkjebacpmmfflaaDoorDrLG
import Derived.Test.YtkjebacpmmfflaaDoorDrBlB
import Derived.Test.YtkjebacpmmfflaaDoorLPut1
import Derived.Test.YtkjebacpmmfflaaDoorILens2
import Derived.Test.YtkjebacpmmfflaaDoorLnR
namespace Go.Proofs.YtkjebacpmmfflaaDoor
open Go.RowKit
set_option linter.unusedVariables false

set_option maxHeartbeats 800000 in
theorem sameInts_any (a b : Option Addr) (ca cb : Nat) (xs ys : List Int) (w : World) (ha : Ins w a xs) (hb : Ins w b ys) (hx : xs.length ≤ 281474976710656) (hy : ys.length ≤ 281474976710656) :
    Calls Tryd.prog 10 #[.slice a xs.length ca, .slice b ys.length cb] w fun e w' => e = .returned (.bool (decide (xs = ys))) ∧ ∃ n, w' = w.drewN n := by
  by_cases hl : xs.length = ys.length
  · generalize hlx : xs.length = n at *
    have HX : Hid (xs.length = n) := hlx
    have HY : Hid (ys.length = n) := hl.symm
    rw [← hl]
    have hnn : ((n : Int) != (n : Int)) = false := by simp
    clear hlx hl hy
    go_enter Tryd.func10, Tryd.ntmps10
    go_wp2
    go_loopw [5] (fun i wr => ∃ k m : Nat, k ≤ n ∧ i = .int .i64 k ∧ wr = w.drewN m ∧ xs.take k = ys.take k) (fun i _ => n - (intOf i).toNat)
    case atStart => exact ⟨0, 0, Nat.zero_le _, rfl, rfl, by simp⟩
    case round =>
      obtain ⟨k, m, hk, rfl, rfl, htk⟩ := hrel
      have HT : Hid (xs.take k = ys.take k) := htk
      clear htk
      by_cases hlt : k < n
      · obtain ⟨b1, o1, rfl, hb1, hc1⟩ := ha.len_pos k (by rw [HX.out]; exact hlt)
        obtain ⟨b2, o2, rfl, hb2, hc2⟩ := hb.len_pos k (by rw [HY.out]; exact hlt)
        have hs1 := hc1 k (by rw [HX.out]; exact hlt)
        have hs2 := hc2 k (by rw [HY.out]; exact hlt)
        have g1 := getD_rngI ha.1 k
        have g2 := getD_rngI hb.1 k
        clear hc1 hc2 ha hb
        generalize hx1 : xs.getD k 0 = x1 at *
        generalize hy1 : ys.getD k 0 = y1 at *
        have HX1 : Hid (xs.getD k 0 = x1) := hx1
        have HY1 : Hid (ys.getD k 0 = y1) := hy1
        clear hx1 hy1
        by_cases hxy : x1 = y1
        · subst hxy
          have hq : (x1 != x1) = false := by simp
          have HT' : Hid (xs.take (k + 1) = ys.take (k + 1)) := take_eq_succ HT.out (by rw [HX.out]; exact hlt) (by rw [HY.out]; exact hlt) (by rw [HX1.out, HY1.out])
          go_wp2
          go_quiet (fail)
          go_wp2
          go_roundw
          case rel => exact ⟨k + 1, _, by omega, by go_num, rfl, HT'.out⟩
          case measure => simp [intOf]; omega
        · have hq : (x1 != y1) = true := by rw [bne_iff_ne]; exact hxy
          have HN : Hid (decide (xs = ys) = false) := by
            have : xs ≠ ys := ne_of_getD (k := k) (by rw [HX1.out, HY1.out]; exact hxy)
            simpa [Hid] using this
          clear hxy
          go_wp2
          go_quiet (fail)
          go_wp2
          go_ret
          exact ⟨by rw [HN.out]; rfl, _, World.drewN_drewN ..⟩
      · have HE : Hid (decide (xs = ys) = true) := by
          have h1 := HT.out
          rw [List.take_of_length_le (by rw [HX.out]; omega), List.take_of_length_le (by rw [HY.out]; omega)] at h1
          simpa [Hid] using h1
        go_wp2
        go_ret
        exact ⟨by rw [HE.out]; rfl, _, rfl⟩
  · have hne : decide (xs = ys) = false := by simp; intro h; exact hl (by rw [h])
    have hl' : ((xs.length : Int) != (ys.length : Int)) = true := by rw [bne_iff_ne]; omega
    rw [hne]
    go_enter Tryd.func10, Tryd.ntmps10
    go_wp2
    go_ret
    exact ⟨rfl, 0, rfl⟩

theorem sameInts_yes (a b : Option Addr) (ca cb : Nat) (xs : List Int) (w : World) (ha : Ins w a xs) (hb : Ins w b xs) (hx : xs.length ≤ 281474976710656) :
    Calls Tryd.prog 10 #[.slice a xs.length ca, .slice b xs.length cb] w fun e w' => e = .returned (.bool true) ∧ ∃ n, w' = w.drewN n := by
  refine (sameInts_any a b ca cb xs xs w ha hb hx hx).mono ?_
  rintro e w' ⟨rfl, h⟩
  exact ⟨by simp, h⟩

theorem val_encB (M V : Nat) (h : V < 2 ^ M) : val (enc M V) = V := by
  unfold enc
  rw [val_encL]
  refine Nat.mod_eq_of_lt (Nat.lt_of_lt_of_le h ?_)
  rw [show 256 = 2 ^ 8 from rfl, ← Nat.pow_mul]
  exact Nat.pow_le_pow_right (by omega) (by omega)
theorem okB_encB (M V : Nat) (hM : M ≤ 4096) (h : V < 2 ^ M) : okB (M : Int) (enc M V) = true := by
  have hl := enc_len M V
  by_cases h8 : M % 8 = 0
  · exact okB_full (by omega) (by omega) (by rw [hl]; omega) (by omega)
  · rw [okB_last (by omega) (by omega) (by rw [hl]; omega) (by omega)]
    have h1 := enc_last M V h h8
    have h2 := enc_top M V h
    rw [show (enc M V).length - 1 = M / 8 from by omega, h1, show ((M : Int) % 8).toNat = M % 8 from by omega]
    have e : (((V / 256 ^ (M / 8) : Nat) : Int) / 2 ^ (M % 8)) = ((V / 256 ^ (M / 8) / 2 ^ (M % 8) : Nat) : Int) := by simp
    rw [e, Nat.div_eq_of_lt h2]
    rfl
set_option maxHeartbeats 1600000 in
theorem implGet_no (a : Option Addr) (cap : Nat) (zs : List Int) (N p width : Int) (w : World) (hb : Byt w a zs) (hl : zs.length ≤ 281474976710656) (pb : p ≤ 9223372036854775807) (s0 : Sent w 7) (s2 : Sent w 8) (hG : 7 < w.heap.size ∧ 8 < w.heap.size)
    (h : okB N zs = false ∨ p < 0 ∨ width < 0 ∨ 30 < width ∨ N - width < p) :
    Calls Tryd.prog 25 #[.agg #[.slice a zs.length cap, .int .i64 N], .int .i64 p, .int .i64 width] w fun e w' => e = .returned (.tuple #[.int .i64 0, .int .i64 (-1)]) ∧ Below w.heap.size w w' := by
  have hw : Below w.heap.size w (w.alloc (Obj.cells #[Value.slice a zs.length cap, Value.int IntKind.i64 N] 36)) := (Below.refl _ _).alloc (Nat.le_refl _) _
  by_cases hO : okB N zs = true
  · obtain ⟨n, rfl, hn1, -, -⟩ := okB_enc hO hb.1
    have h' : width < 0 ∨ 30 < width ∨ p < 0 ∨ (n : Int) - width < p := by
      rcases h with h | h
      · rw [hO] at h; cases h
      · omega
    have HH : Hid (width < 0 ∨ 30 < width ∨ p < 0 ∨ (n : Int) - width < p) := h'
    clear h h'
    have HO : Hid (okB (n : Int) zs = true) := hO
    clear hO
    obtain ⟨T0, x0, g0⟩ := s0
    obtain ⟨T2, x2, g2⟩ := s2
    go_enter Tryd.func25, Tryd.ntmps25
    go_wp2_with fail
    refine (implOk_any a cap zs _ _ (hb.below hw (Nat.le_refl _)) hl).mono ?_
    rintro e w1 ⟨rfl, hb1⟩
    rw [HO.out]
    have q0 : w1.cell? ⟨w.heap.size, 0, none⟩ = some (.slice a zs.length cap) := keep hb1 (by simp) (by simp)
    have q1 : w1.cell? ⟨w.heap.size, 1, none⟩ = some (.int .i64 n) := keep hb1 (by simp) (by simp)
    have e0 := keep hb1 (by simp <;> omega) (keepA (Obj.cells #[Value.slice a zs.length cap, Value.int IntKind.i64 n] 36) (by omega) g0)
    have e2 := keep hb1 (by simp <;> omega) (keepA (Obj.cells #[Value.slice a zs.length cap, Value.int IntKind.i64 n] 36) (by omega) g2)
    have z1 := hb1.size
    simp at z1
    have hbb := hw.trans (hb1.mono (by simp))
    clear hb1 g0 g2
    go_wp2_with fail
    refine (get_no w1.heap.size a cap zs n p width _ (by omega) pb (by simp) (by simp) (by simp) ⟨T0, x0, keepA _ (by omega) e0⟩ ⟨T2, x2, keepA _ (by omega) e2⟩ HH.out).mono ?_
    rintro e w2 ⟨⟨T, x, rfl⟩, m, rfl⟩
    go_wp2
    go_ret2
    exact ⟨rfl, below_drewN (hbb.alloc (by omega) _) _⟩
  · have hO' : okB N zs = false := by simpa using hO
    have HO : Hid (okB N zs = false) := hO'
    clear hO hO' h
    go_enter Tryd.func25, Tryd.ntmps25
    go_wp2_with fail
    refine (implOk_any a cap zs _ _ (hb.below hw (Nat.le_refl _)) hl).mono ?_
    rintro e w1 ⟨rfl, hb1⟩
    rw [HO.out]
    have hbb := hw.trans (hb1.mono (by simp))
    clear hb1
    go_wp2
    go_ret2
    exact ⟨rfl, hbb⟩

set_option maxHeartbeats 1600000 in
theorem implGet_yes (a : Option Addr) (cap : Nat) (zs : List Int) (N p width : Int) (w : World) (hb : Byt w a zs) (hO : okB N zs = true) (h0 : 0 ≤ p) (h1 : 0 ≤ width) (h2 : width ≤ 30) (h3 : p ≤ N - width) :
    Calls Tryd.prog 25 #[.agg #[.slice a zs.length cap, .int .i64 N], .int .i64 p, .int .i64 width] w fun e w' =>
      e = .returned (.tuple #[.int .i64 (val zs / 2 ^ p.toNat % 2 ^ width.toNat : Nat), .int .i64 (p + width)]) ∧ Below w.heap.size w w' := by
  have hw : Below w.heap.size w (w.alloc (Obj.cells #[Value.slice a zs.length cap, Value.int IntKind.i64 N] 36)) := (Below.refl _ _).alloc (Nat.le_refl _) _
  obtain ⟨n, rfl, hn1, he, hv⟩ := okB_enc hO hb.1
  have hl : zs.length ≤ 281474976710656 := by rw [he, enc_len]; omega
  have HO : Hid (okB (n : Int) zs = true) := hO
  have HE : Hid (zs = enc n (val zs)) := he
  clear hO he hv
  generalize hV : val zs = V at *
  clear hV
  go_enter Tryd.func25, Tryd.ntmps25
  go_wp2_with fail
  refine (implOk_any a cap zs _ _ (hb.below hw (Nat.le_refl _)) hl).mono ?_
  rintro e w1 ⟨rfl, hb1⟩
  rw [HO.out]
  have q0 : w1.cell? ⟨w.heap.size, 0, none⟩ = some (.slice a zs.length cap) := keep hb1 (by simp) (by simp)
  have q1 : w1.cell? ⟨w.heap.size, 1, none⟩ = some (.int .i64 n) := keep hb1 (by simp) (by simp)
  have z1 := hb1.size
  simp at z1
  have hbb := hw.trans (hb1.mono (by simp))
  clear hb1
  go_wp2_with fail
  refine (get_yes w1.heap.size a cap zs n V p width _ (by omega) (hb.below (hbb.alloc (by omega) _) (Nat.le_refl _)) HE.out (by simp) (by simp) (by simp) (by simp) h1 h2 h0 h3).mono ?_
  rintro e w2 ⟨rfl, m, rfl⟩
  go_wp2
  go_quiet (fail)
  go_wp2
  go_ret2
  exact ⟨rfl, below_drewN (Below.setCell (below_drewN (hbb.alloc (by omega) _) _) (by simp; omega) _) _⟩

theorem lens_122 : lensB [1, 2, 2] = true := by decide +kernel
theorem lens122_any (a : Option Addr) (c : Nat) (w : World) (hb : Ins w a [1, 2, 2]) (h4 : Four w) (hE : ErrT w) :
    Calls Tryd.prog 11 #[.slice a 3 c] w fun e w' => e = .returned (.bool true) ∧ Below w.heap.size w w' := by
  have h := implLens_any a c [1, 2, 2] w hb (by simp) h4 hE
  rw [lens_122] at h
  exact h
theorem below_dV {B : Nat} {a b : World} (h : Below B a b) (n : Nat) : Below B a (b.drewN n) := ⟨h.os, h.tape, h.output, h.size, h.block⟩
theorem OwI.cap_le {w : World} {B g c : Nat} {zs : List Int} (h : OwI w B g c zs) : zs.length ≤ c := by
  rcases h.1.2 with ⟨h1, _⟩ | ⟨g', cap, cur, h1, _, _, h4, _⟩
  · cases h1
  · simp only [Value.slice.injEq] at h1
    obtain ⟨-, -, rfl⟩ := h1
    exact h4
theorem MinI.cap_le {w : World} {B U : Nat} {a : Option Addr} {c : Nat} {zs : List Int} (h : MinI w B U a c zs) : zs.length ≤ c := by
  rcases h with ⟨_, rfl, _⟩ | ⟨g, _, _, _, h⟩
  · exact Nat.zero_le _
  · exact h.cap_le
/-- All sentinels. -/
structure SentV (w : World) : Prop where
  f4 : Four w
  eT : ErrT w
  s0 : Sent w 7
  s1 : Sent w 8
  s2 : Sent w 6
  hG : 7 < w.heap.size ∧ 8 < w.heap.size ∧ 6 < w.heap.size
theorem SentV.below {w w' : World} (h : SentV w) (hb : Below w.heap.size w w') : SentV w' :=
  ⟨h.f4.below hb, h.eT.below hb, h.s0.below hb h.hG.1, h.s1.below hb h.hG.2.1, h.s2.below hb h.hG.2.2, by have := hb.size; have := h.hG; omega⟩

set_option maxHeartbeats 1600000 in
theorem drawLensPut_any (a : Option Addr) (bs : List Int) (cap : Nat) (w : World) (hb : Byt w a bs) (hl : bs.length ≤ maxLen) :
    Calls Tryd.prog 21 #[.slice a bs.length cap] w fun e w' => ∃ (n g c : Nat) (ls : List Int), e = .returned (.slice (some ⟨g, 0, none⟩) n c) ∧ ls.length = n ∧ BentR ls ∧ OwI w' w.heap.size g c ls ∧ Below w.heap.size w w' := by
  go_enter Tryd.func21, Tryd.ntmps21
  go_wp2_with fail
  refine (l1New_any a bs cap w hb hl).mono ?_
  rintro e w1 ⟨rfl, hd1⟩
  have HD1 : Hid (Dr w w1 w.heap.size w.heap.size a bs cap) := hd1
  have hz1 := hd1.bel.size
  clear hd1
  go_wp2_with fail
  refine HD1.out.bentLens.mono ?_
  rintro e w2 ⟨n, g, c, ls, rfl, h1, h2, h3, h4, h5⟩
  have H : Hid (ls.length = n ∧ BentR ls ∧ OwI w2 w.heap.size g c ls ∧ Below w.heap.size w w2) := ⟨h1, h2, h3.mono hz1, h4.bel⟩
  clear h1 h2 h3 h4 h5
  go_wp2
  go_ret
  exact ⟨n, g, c, ls, rfl, H.out⟩

set_option maxRecDepth 20000 in
set_option maxHeartbeats 16000000 in
theorem lawFnLensBits_any (a : Option Addr) (cap : Nat) (bs : List Int) (w : World) (hb : Byt w a bs) (hm : bs.length ≤ maxLen) (hS : SentV w) :
    Calls Tryd.prog 7 #[.slice a bs.length cap] w fun e w' => e = .returned (.bool true) ∧ Below w.heap.size w w' := by
  have HS : Hid (SentV w ∧ True) := ⟨hS, trivial⟩
  clear hS
  go_enter Tryd.func7, Tryd.ntmps7
  go_wp2_with fail
  refine (drawLensPut_any a bs cap w hb hm).mono ?_
  rintro e w1 ⟨n, g, lc, l, rfl, hll, hlb, hrl, hb1⟩
  have HB1 : Hid (Below w.heap.size w w1 ∧ True) := ⟨hb1, trivial⟩
  have HL1 : Hid (Ins w1 (some ⟨g, 0, none⟩) l ∧ l.length = n ∧ n ≤ lc) := ⟨hrl.byt, hll, by rw [← hll]; exact hrl.cap_le⟩
  have hn2 : n ≤ 81 := by have := hlb.2.1; omega
  clear hrl hll hlb hb1
  cases hn : lensB l with
  | false =>
    have HN : Hid (lensB l = false ∧ True) := ⟨hn, trivial⟩
    clear hn
    have HSW := HS.out.1.below HB1.out.1
    have HP := implLensPut_no (some ⟨g, 0, none⟩) lc l w1 HL1.out.1 (by rw [HL1.out.2.1]; omega) HN.out.1 HSW.f4 HSW.eT
    rw [HL1.out.2.1] at HP
    clear HSW
    go_wp2_with fail
    refine HP.mono ?_
    clear HP
    rintro e w2 ⟨rfl, hb2⟩
    have hba : Below w1.heap.size w1 (w2.alloc (Obj.cells #[Value.slice none 0 0, Value.int IntKind.i64 0] 36)) := hb2.alloc hb2.size _
    have HL2 : Hid (Ins (w2.alloc (Obj.cells #[Value.slice none 0 0, Value.int IntKind.i64 0] 36)) (some ⟨g, 0, none⟩) l ∧ True) := ⟨HL1.out.1.below hba (Nat.le_refl _), trivial⟩
    have HB2 : Hid (Below w.heap.size w (w2.alloc (Obj.cells #[Value.slice none 0 0, Value.int IntKind.i64 0] 36)) ∧ True) := ⟨HB1.out.1.trans (hba.mono HB1.out.1.size), trivial⟩
    clear hb2 hba HB1
    go_wp2_with fail
    generalize w2.alloc (Obj.cells #[Value.slice none 0 0, Value.int IntKind.i64 0] 36) = w3 at *
    have HA := specLens_any (some ⟨g, 0, none⟩) lc l w3 HL2.out.1 (by rw [HL1.out.2.1]; omega)
    have HSW := HS.out.1.below HB2.out.1
    have HI := implLens_any (some ⟨g, 0, none⟩) lc l w3 HL2.out.1 (by rw [HL1.out.2.1]; omega) HSW.f4 HSW.eT
    rw [HL1.out.2.1, HN.out.1] at HA HI
    clear HSW
    refine HA.mono ?_
    clear HA
    rintro e w4 ⟨rfl, hw4⟩
    subst hw4
    go_wp2_with fail
    refine HI.mono ?_
    clear HI
    rintro e w5 ⟨rfl, hb5⟩
    have HBc : Hid (Below w.heap.size w w5 ∧ True) := ⟨HB2.out.1.trans (hb5.mono HB2.out.1.size), trivial⟩
    clear hb5 HL2 HB2 HN HL1
    go_wp2_with fail
    refine (drawLensGet_any a bs cap w5 (hb.below HBc.out.1 (Nat.le_refl _)) hm).mono ?_
    rintro e u1 ⟨ay, cy, ys, N, t, m, rfl, hmy, hyl2, ht1, ht2, hm1, hm2, hbu⟩
    have hbb : Below w.heap.size w u1 := HBc.out.1.trans (hbu.mono HBc.out.1.size)
    have HBU : Hid (Below w.heap.size w (u1.alloc (Obj.cells #[Value.slice ay ys.length cy, Value.int IntKind.i64 N] 36)) ∧ u1.heap.size < (u1.alloc (Obj.cells #[Value.slice ay ys.length cy, Value.int IntKind.i64 N] 36)).heap.size) := ⟨hbb.alloc hbb.size _, by simp⟩
    have HYU : Hid (Byt (u1.alloc (Obj.cells #[Value.slice ay ys.length cy, Value.int IntKind.i64 N] 36)) ay ys ∧ (u1.alloc (Obj.cells #[Value.slice ay ys.length cy, Value.int IntKind.i64 N] 36)).cell? ⟨u1.heap.size, 0, none⟩ = some (.slice ay ys.length cy) ∧ (u1.alloc (Obj.cells #[Value.slice ay ys.length cy, Value.int IntKind.i64 N] 36)).cell? ⟨u1.heap.size, 1, none⟩ = some (.int .i64 N)) := ⟨hmy.byt.alloc _, by simp, by simp⟩
    have HYR : Hid (∀ z ∈ ys, 0 ≤ z ∧ z ≤ 255) := hmy.byt.1
    clear hbu hmy hbb HBc
    go_wp2_with fail
    generalize u1.alloc (Obj.cells #[Value.slice ay ys.length cy, Value.int IntKind.i64 N] 36) = u2 at *
    generalize u1.heap.size = Y at *
    have HSU := HS.out.1.below HBU.out.1
    by_cases hgot : ∃ (k V2 p s q : Nat) (res : List Int), N = k ∧ t = p ∧ m = s ∧ k ≤ 4096 ∧ p ≤ k ∧ 1 ≤ s ∧ s ≤ 80 ∧ okB (k : Int) ys = true ∧ ys = enc k (val ys) ∧ val ys = V2 ∧ giY k V2 p s res q
    · obtain ⟨k, V2, p, s, q, res, rfl, rfl, rfl, hk, hpk, hs1, hs2, hO, hke, hval, hgy⟩ := hgot
      have HNG := implLensGet_ok ay cy ys k p s u2 HYU.out.1 hO hke hk hpk hs1 hs2 HSU.s0 HSU.s1 HSU.s2 HSU.f4 HSU.hG
      rw [hval] at HNG
      obtain ⟨hgi1, hlb⟩ := hgy
      obtain ⟨hgq, hrl, hlp⟩ := (gi_iff _ _ _ _ _ _).1 hgi1
      have hqk := gq_ext _ _ _ _ _ _ _ _ hgq
      have hpq : p ≤ q := hqk.2.1
      have hqn : q ≤ k := hqk.2.2 hpk
      obtain ⟨Z, hZ⟩ : ∃ Z, Z = q - p := ⟨_, rfl⟩
      have HZ : Hid (lpF res = (Z, bt V2 p Z) ∧ q = p + Z ∧ res.length = s ∧ lensB res = true ∧ giY k V2 p s res q ∧ okB (k : Int) ys = true ∧ val ys = V2 ∧ bt V2 p Z < 2 ^ Z) := ⟨by rw [hZ]; exact hlp, by omega, hrl, hlb, ⟨hgi1, hlb⟩, hO, hval, bt_lt _ _ _⟩
      have hZk : Z ≤ k := by omega
      have hpZ : p + Z ≤ k := by omega
      clear hgi1 hlb hgq hrl hlp hqk hO hke hval hZ hpq hqn
      refine HNG.mono ?_
      clear HNG
      rintro e u3 ⟨hb3, hy3, -⟩
      obtain ⟨a8, c8, rfl, hm8⟩ := hy3 res q HZ.out.2.2.2.2.1
      have HB3 : Hid (Below w.heap.size w u3 ∧ Y < u3.heap.size) := ⟨HBU.out.1.trans (hb3.mono HBU.out.1.size), Nat.lt_of_lt_of_le HBU.out.2 hb3.size⟩
      have HY3 : Hid (Byt u3 ay ys ∧ u3.cell? ⟨Y, 0, none⟩ = some (.slice ay ys.length cy) ∧ u3.cell? ⟨Y, 1, none⟩ = some (.int .i64 (k : Nat))) := ⟨HYU.out.1.below hb3 (Nat.le_refl _), keep hb3 HBU.out.2 HYU.out.2.1, keep hb3 HBU.out.2 HYU.out.2.2⟩
      have HSU3 := HS.out.1.below HB3.out.1
      have HNP := implLensPut_yes a8 c8 res u3 hm8.byt hm8.cap_le HZ.out.2.2.2.1 HSU3.f4 HSU3.eT
      rw [HZ.out.1] at HNP
      simp only at HNP
      rw [HZ.out.2.2.1] at HNP ⊢
      rw [HZ.out.2.1]
      clear hb3 hy3 hm8 HSU3 HSU HYU HBU HYR
      have HZZ : Hid ((enc Z (bt V2 p Z)).length ≤ 2000 ∧ val (enc Z (bt V2 p Z)) = bt V2 p Z ∧ okB (Z : Int) (enc Z (bt V2 p Z)) = true) := ⟨by rw [enc_len]; omega, val_encB _ _ HZ.out.2.2.2.2.2.2.2, okB_encB _ _ (by omega) HZ.out.2.2.2.2.2.2.2⟩
      generalize enc Z (bt V2 p Z) = zz at *
      go_wp2_with fail
      refine HNP.mono ?_
      clear HNP
      rintro e u4 ⟨az, cz, rfl, hmz, hb4⟩
      have hA4 : Below u4.heap.size u4 (u4.alloc (Obj.cells #[Value.slice az zz.length cz, Value.int IntKind.i64 (Z : Nat)] 36)) := (Below.refl _ _).alloc (Nat.le_refl _) _
      have hb34 : Below u3.heap.size u3 (u4.alloc (Obj.cells #[Value.slice az zz.length cz, Value.int IntKind.i64 (Z : Nat)] 36)) := hb4.trans (hA4.mono hb4.size)
      have H4 : Hid (Byt (u4.alloc (Obj.cells #[Value.slice az zz.length cz, Value.int IntKind.i64 (Z : Nat)] 36)) ay ys ∧ Byt (u4.alloc (Obj.cells #[Value.slice az zz.length cz, Value.int IntKind.i64 (Z : Nat)] 36)) az zz ∧ Below w.heap.size w (u4.alloc (Obj.cells #[Value.slice az zz.length cz, Value.int IntKind.i64 (Z : Nat)] 36)) ∧ Y < (u4.alloc (Obj.cells #[Value.slice az zz.length cz, Value.int IntKind.i64 (Z : Nat)] 36)).heap.size ∧ u4.heap.size < (u4.alloc (Obj.cells #[Value.slice az zz.length cz, Value.int IntKind.i64 (Z : Nat)] 36)).heap.size) := ⟨HY3.out.1.below hb34 (Nat.le_refl _), hmz.byt.below hA4 (Nat.le_refl _), HB3.out.1.trans (hb34.mono HB3.out.1.size), Nat.lt_of_lt_of_le HB3.out.2 hb34.size, by simp⟩
      have HC4 : Hid ((u4.alloc (Obj.cells #[Value.slice az zz.length cz, Value.int IntKind.i64 (Z : Nat)] 36)).cell? ⟨Y, 0, none⟩ = some (.slice ay ys.length cy) ∧ (u4.alloc (Obj.cells #[Value.slice az zz.length cz, Value.int IntKind.i64 (Z : Nat)] 36)).cell? ⟨Y, 1, none⟩ = some (.int .i64 (k : Nat)) ∧ (u4.alloc (Obj.cells #[Value.slice az zz.length cz, Value.int IntKind.i64 (Z : Nat)] 36)).cell? ⟨u4.heap.size, 0, none⟩ = some (.slice az zz.length cz) ∧ (u4.alloc (Obj.cells #[Value.slice az zz.length cz, Value.int IntKind.i64 (Z : Nat)] 36)).cell? ⟨u4.heap.size, 1, none⟩ = some (.int .i64 (Z : Nat))) := ⟨keep hb34 HB3.out.2 HY3.out.2.1, keep hb34 HB3.out.2 HY3.out.2.2, by simp, by simp⟩
      clear hmz hb4 hA4 hb34 HB3 HY3
      go_wp2_with fail
      generalize u4.alloc (Obj.cells #[Value.slice az zz.length cz, Value.int IntKind.i64 (Z : Nat)] 36) = u5 at *
      generalize u4.heap.size = P at *
      go_loopw [17] (fun iv W => ∃ i : Nat, i ≤ Z ∧ iv = .int .i64 i ∧ Below u5.heap.size u5 W) (fun iv _ => Z - (intOf iv).toNat)
      case atStart => exact ⟨0, Nat.zero_le _, rfl, Below.refl _ _⟩
      case round =>
        obtain ⟨i, hi, rfl, hbl⟩ := hrel
        have c3 := keep hbl H4.out.2.2.2.2 HC4.out.2.2.2
        have HBL : Hid (Below u5.heap.size u5 wr) := hbl
        clear hbl
        by_cases hlt : i < Z
        · have c2 := keep HBL.out H4.out.2.2.2.2 HC4.out.2.2.1
          have hG1 := implGet_yes az cz zz (Z : Nat) (i : Nat) 1 wr (H4.out.2.1.below HBL.out (Nat.le_refl _)) HZZ.out.2.2 (by omega) (by omega) (by omega) (by omega)
          rw [HZZ.out.2.1, Int.toNat_natCast] at hG1
          simp only [show (1 : Int).toNat = 1 from rfl, Nat.pow_one] at hG1
          rw [bt_bit V2 p Z i hlt] at hG1
          have HB01 : Hid (V2 / 2 ^ (p + i) % 2 < 2 ∧ True) := ⟨Nat.mod_lt _ (by omega), trivial⟩
          have hG2 : ∀ W, Below wr.heap.size wr W → Calls Tryd.prog 25 #[.agg #[.slice ay ys.length cy, .int .i64 (k : Nat)], .int .i64 ((p : Int) + (i : Int)), .int .i64 1] W fun e w' => e = .returned (.tuple #[.int .i64 (V2 / 2 ^ (p + i) % 2 : Nat), .int .i64 ((p : Int) + (i : Int) + 1)]) ∧ Below W.heap.size W w' := fun W hW => by
            have h := implGet_yes ay cy ys (k : Nat) ((p + i : Nat) : Int) 1 W ((H4.out.1.below HBL.out (Nat.le_refl _)).below hW (Nat.le_refl _)) HZ.out.2.2.2.2.2.1 (by omega) (by omega) (by omega) (by omega)
            rw [HZ.out.2.2.2.2.2.2.1, Int.toNat_natCast] at h
            simp only [show (1 : Int).toNat = 1 from rfl, Nat.pow_one] at h
            rw [show ((p + i : Nat) : Int) = (p : Int) + (i : Int) by omega] at h
            exact h
          have HG2 : Hid _ := hG2
          clear hG2
          generalize V2 / 2 ^ (p + i) % 2 = bit at *
          have hbb : ((bit : Int) != (bit : Int)) = false := by simp
          go_wp2_with fail
          refine hG1.mono ?_
          clear hG1
          rintro e v1 ⟨rfl, hv1⟩
          have hYl : Y < wr.heap.size := Nat.lt_of_lt_of_le H4.out.2.2.2.1 HBL.out.size
          have y0 := keep hv1 hYl (keep HBL.out H4.out.2.2.2.1 HC4.out.1)
          have y1 := keep hv1 hYl (keep HBL.out H4.out.2.2.2.1 HC4.out.2.1)
          have hG3 := HG2.out v1 hv1
          have HBV : Hid (Below u5.heap.size u5 v1) := HBL.out.trans (hv1.mono HBL.out.size)
          clear hv1 c2 c3 HG2 HBL hYl
          go_wp2_with fail
          refine hG3.mono ?_
          clear hG3
          rintro e v2 ⟨rfl, hv2⟩
          have HBV2 : Hid (Below u5.heap.size u5 v2) := HBV.out.trans (hv2.mono HBV.out.size)
          clear hv2 HBV y0 y1
          go_wp2
          go_roundw
          case rel => exact ⟨i + 1, by omega, by go_num, HBV2.out⟩
          case measure => simp [intOf]; omega
        · have hpp : ((p : Int) + (Z : Int) == (p : Int) + (Z : Int)) = true := by simp
          have hss : ((s : Int) == (s : Int)) = true := by simp
          go_wp2
          go_ret
          exact ⟨rfl, H4.out.2.2.1.trans (HBL.out.mono H4.out.2.2.1.size)⟩
    · have HNG : Calls Tryd.prog 23 #[.agg #[.slice ay ys.length cy, .int .i64 N], .int .i64 t, .int .i64 m] u2 fun e w' => e = .returned (.tuple #[.slice none 0 0, .int .i64 (-1), .bool false]) ∧ Below u2.heap.size u2 w' := by
        by_cases hga : lgArgs N t m ys
        · obtain ⟨hO, g1, g2, g3, g4⟩ := hga
          obtain ⟨k, rfl, hk1, hke, hkv⟩ := okB_enc hO HYR.out
          obtain ⟨p, rfl⟩ := Int.eq_ofNat_of_zero_le g1
          obtain ⟨s, rfl⟩ := Int.eq_ofNat_of_zero_le (show 0 ≤ m by omega)
          refine (implLensGet_ok ay cy ys k p s u2 HYU.out.1 hO hke hk1 (by omega) (by omega) (by omega) HSU.s0 HSU.s1 HSU.s2 HSU.f4 HSU.hG).mono ?_
          rintro e w' ⟨hb', -, hn'⟩
          exact ⟨hn' (fun ⟨res, q, h⟩ => hgot ⟨k, val ys, p, s, q, res, rfl, rfl, rfl, hk1, by omega, by omega, by omega, hO, hke, rfl, h⟩), hb'⟩
        · exact implLensGet_no ay cy ys N t m u2 HYU.out.1 (by omega) hga
      clear hgot HSU
      refine HNG.mono ?_
      clear HNG
      rintro e u3 ⟨rfl, hb3⟩
      have HB3 : Hid (Below w.heap.size w u3 ∧ True) := ⟨HBU.out.1.trans (hb3.mono HBU.out.1.size), trivial⟩
      clear hb3 HYU HBU HYR
      have HIN : Hid (∀ T, Ins (u3.alloc (.cells #[.int .i64 1, .int .i64 2, .int .i64 2] T)) (some ⟨u3.heap.size, 0, none⟩) [1, 2, 2]) := fun T => by
        have := ins_newN u3 T [1, 2, 2] (by intro z hz; simp at hz; omega)
        simpa using this
      have HBA : Hid (∀ T, Below w.heap.size w (u3.alloc (.cells #[.int .i64 1, .int .i64 2, .int .i64 2] T))) := fun T => HB3.out.1.alloc HB3.out.1.size _
      go_wp2_with fail
      have HSA := HS.out.1.below (HBA.out 3)
      refine (lens122_any (some ⟨u3.heap.size, 0, none⟩) 3 _ (HIN.out 3) HSA.f4 HSA.eT).mono ?_
      rintro e u5 ⟨rfl, hb5⟩
      have HB5 : Hid (Below w.heap.size w u5 ∧ True) := ⟨(HBA.out 3).trans (hb5.mono (HBA.out 3).size), trivial⟩
      clear hb5 HSA HIN HBA HB3
      go_wp2
      go_ret
      exact ⟨rfl, HB5.out.1⟩
  | true =>
    have HN : Hid (lensB l = true ∧ True) := ⟨hn, trivial⟩
    obtain ⟨hgi, hlt, h560, h4b⟩ := lens_back hn
    have HGI : Hid (giY (lpF l).1 (lpF l).2 0 l.length l (lpF l).1 ∧ (lpF l).2 < 2 ^ (lpF l).1 ∧ (lpF l).1 ≤ 560) := ⟨⟨hgi, hn⟩, hlt, h560⟩
    clear hn hgi hlt h4b h560
    have HSW := HS.out.1.below HB1.out.1
    have HP := implLensPut_yes (some ⟨g, 0, none⟩) lc l w1 HL1.out.1 (by rw [HL1.out.2.1]; exact HL1.out.2.2) HN.out.1 HSW.f4 HSW.eT
    rw [HL1.out.2.1] at HP
    clear HSW
    generalize hM : (lpF l).1 = M at *
    generalize hV : (lpF l).2 = V at *
    clear hM hV
    have HYL : Hid ((enc M V).length ≤ 80 ∧ val (enc M V) = V ∧ okB (M : Int) (enc M V) = true) := ⟨by rw [enc_len]; have := HGI.out.2.2; omega, val_encB _ _ HGI.out.2.1, okB_encB _ _ (by have := HGI.out.2.2; omega) HGI.out.2.1⟩
    generalize hX : enc M V = xs at *
    have HXE : Hid (xs = enc M V ∧ True) := ⟨hX.symm, trivial⟩
    clear hX
    go_wp2_with fail
    refine HP.mono ?_
    clear HP
    rintro e w2 ⟨ax, cx, rfl, hmx, hb2⟩
    have hba : Below w1.heap.size w1 (w2.alloc (Obj.cells #[Value.slice ax xs.length cx, Value.int IntKind.i64 (M : Nat)] 36)) := hb2.alloc hb2.size _
    have HL2 : Hid (Ins (w2.alloc (Obj.cells #[Value.slice ax xs.length cx, Value.int IntKind.i64 (M : Nat)] 36)) (some ⟨g, 0, none⟩) l ∧ True) := ⟨HL1.out.1.below hba (Nat.le_refl _), trivial⟩
    have HB2 : Hid (Below w.heap.size w (w2.alloc (Obj.cells #[Value.slice ax xs.length cx, Value.int IntKind.i64 (M : Nat)] 36)) ∧ True) := ⟨HB1.out.1.trans (hba.mono HB1.out.1.size), trivial⟩
    have HX2 : Hid (Byt (w2.alloc (Obj.cells #[Value.slice ax xs.length cx, Value.int IntKind.i64 (M : Nat)] 36)) ax xs ∧ (w2.alloc (Obj.cells #[Value.slice ax xs.length cx, Value.int IntKind.i64 (M : Nat)] 36)).cell? ⟨w2.heap.size, 0, none⟩ = some (.slice ax xs.length cx) ∧ (w2.alloc (Obj.cells #[Value.slice ax xs.length cx, Value.int IntKind.i64 (M : Nat)] 36)).cell? ⟨w2.heap.size, 1, none⟩ = some (.int .i64 (M : Nat)) ∧ w2.heap.size < (w2.alloc (Obj.cells #[Value.slice ax xs.length cx, Value.int IntKind.i64 (M : Nat)] 36)).heap.size) := ⟨hmx.byt.alloc _, by simp, by simp, by simp⟩
    clear hb2 hba HB1 hmx
    go_wp2_with fail
    generalize w2.alloc (Obj.cells #[Value.slice ax xs.length cx, Value.int IntKind.i64 (M : Nat)] 36) = w3 at *
    generalize w2.heap.size = X at *
    have HA := specLens_any (some ⟨g, 0, none⟩) lc l w3 HL2.out.1 (by rw [HL1.out.2.1]; omega)
    have HSW := HS.out.1.below HB2.out.1
    have HI := implLens_any (some ⟨g, 0, none⟩) lc l w3 HL2.out.1 (by rw [HL1.out.2.1]; omega) HSW.f4 HSW.eT
    rw [HL1.out.2.1, HN.out.1] at HA HI
    clear HSW
    refine HA.mono ?_
    clear HA
    rintro e w4 ⟨rfl, hw4⟩
    subst hw4
    go_wp2_with fail
    refine HI.mono ?_
    clear HI
    rintro e w5 ⟨rfl, hb5⟩
    have HL5 : Hid (Ins w5 (some ⟨g, 0, none⟩) l ∧ Byt w5 ax xs ∧ X < w5.heap.size) := ⟨HL2.out.1.below hb5 (Nat.le_refl _), HX2.out.1.below hb5 (Nat.le_refl _), Nat.lt_of_lt_of_le HX2.out.2.2.2 hb5.size⟩
    have HB5 : Hid (Below w.heap.size w w5 ∧ True) := ⟨HB2.out.1.trans (hb5.mono HB2.out.1.size), trivial⟩
    have c0 := keep hb5 HX2.out.2.2.2 HX2.out.2.1
    have c1 := keep hb5 HX2.out.2.2.2 HX2.out.2.2.1
    clear hb5 HL2 HB2 HX2
    have HSW := HS.out.1.below HB5.out.1
    have hn1 : 1 ≤ n := by have h1 := (lensB_ok HN.out.1).1; rw [HL1.out.2.1] at h1; exact h1
    have hn80 : n ≤ 80 := by have h1 := (lensB_ok HN.out.1).2.1; rw [HL1.out.2.1] at h1; exact h1
    have HNG := implLensGet_ok ax cx xs M 0 n w5 HL5.out.2.1 HYL.out.2.2 (by rw [HYL.out.2.1]; exact HXE.out.1) (by have := HGI.out.2.2; omega) (Nat.zero_le _) hn1 hn80 HSW.s0 HSW.s1 HSW.s2 HSW.f4 HSW.hG
    rw [HYL.out.2.1] at HNG
    have HGY : Hid (giY M V 0 n l M ∧ True) := ⟨by rw [← HL1.out.2.1]; exact HGI.out.1, trivial⟩
    clear HSW
    go_wp2_with fail
    refine HNG.mono ?_
    clear HNG
    rintro e w6 ⟨hb6, hy6, -⟩
    obtain ⟨a6, c6, rfl, hm6⟩ := hy6 l M HGY.out.1
    rw [HL1.out.2.1]
    have HL6 : Hid (Ins w6 (some ⟨g, 0, none⟩) l ∧ Ins w6 a6 l) := ⟨HL5.out.1.below hb6 (Nat.le_refl _), hm6.byt⟩
    have HB6 : Hid (Below w.heap.size w w6 ∧ True) := ⟨HB5.out.1.trans (hb6.mono HB5.out.1.size), trivial⟩
    have d1 := keep hb6 HL5.out.2.2 c1
    clear hb6 hy6 hm6 HB5 c0 c1 HL5 HGY HYL HXE
    have hMM : ((M : Int) != (M : Int)) = false := by simp
    have HSM := sameInts_yes a6 (some ⟨g, 0, none⟩) c6 lc l w6 HL6.out.2 HL6.out.1 (by rw [HL1.out.2.1]; omega)
    rw [HL1.out.2.1] at HSM
    go_wp2_with fail
    refine HSM.mono ?_
    clear HSM
    rintro e w7 ⟨rfl, n7, rfl⟩
    have HBc : Hid (Below w.heap.size w (w6.drewN n7) ∧ True) := ⟨below_dV HB6.out.1 n7, trivial⟩
    clear HB6 HL6 d1 HGI HN HL1 hMM hn1 hn80
    generalize w6.drewN n7 = w5 at *
    go_wp2_with fail
    refine (drawLensGet_any a bs cap w5 (hb.below HBc.out.1 (Nat.le_refl _)) hm).mono ?_
    rintro e u1 ⟨ay, cy, ys, N, t, m, rfl, hmy, hyl2, ht1, ht2, hm1, hm2, hbu⟩
    have hbb : Below w.heap.size w u1 := HBc.out.1.trans (hbu.mono HBc.out.1.size)
    have HBU : Hid (Below w.heap.size w (u1.alloc (Obj.cells #[Value.slice ay ys.length cy, Value.int IntKind.i64 N] 36)) ∧ u1.heap.size < (u1.alloc (Obj.cells #[Value.slice ay ys.length cy, Value.int IntKind.i64 N] 36)).heap.size) := ⟨hbb.alloc hbb.size _, by simp⟩
    have HYU : Hid (Byt (u1.alloc (Obj.cells #[Value.slice ay ys.length cy, Value.int IntKind.i64 N] 36)) ay ys ∧ (u1.alloc (Obj.cells #[Value.slice ay ys.length cy, Value.int IntKind.i64 N] 36)).cell? ⟨u1.heap.size, 0, none⟩ = some (.slice ay ys.length cy) ∧ (u1.alloc (Obj.cells #[Value.slice ay ys.length cy, Value.int IntKind.i64 N] 36)).cell? ⟨u1.heap.size, 1, none⟩ = some (.int .i64 N)) := ⟨hmy.byt.alloc _, by simp, by simp⟩
    have HYR : Hid (∀ z ∈ ys, 0 ≤ z ∧ z ≤ 255) := hmy.byt.1
    clear hbu hmy hbb HBc
    go_wp2_with fail
    generalize u1.alloc (Obj.cells #[Value.slice ay ys.length cy, Value.int IntKind.i64 N] 36) = u2 at *
    generalize u1.heap.size = Y at *
    have HSU := HS.out.1.below HBU.out.1
    by_cases hgot : ∃ (k V2 p s q : Nat) (res : List Int), N = k ∧ t = p ∧ m = s ∧ k ≤ 4096 ∧ p ≤ k ∧ 1 ≤ s ∧ s ≤ 80 ∧ okB (k : Int) ys = true ∧ ys = enc k (val ys) ∧ val ys = V2 ∧ giY k V2 p s res q
    · obtain ⟨k, V2, p, s, q, res, rfl, rfl, rfl, hk, hpk, hs1, hs2, hO, hke, hval, hgy⟩ := hgot
      have HNG := implLensGet_ok ay cy ys k p s u2 HYU.out.1 hO hke hk hpk hs1 hs2 HSU.s0 HSU.s1 HSU.s2 HSU.f4 HSU.hG
      rw [hval] at HNG
      obtain ⟨hgi1, hlb⟩ := hgy
      obtain ⟨hgq, hrl, hlp⟩ := (gi_iff _ _ _ _ _ _).1 hgi1
      have hqk := gq_ext _ _ _ _ _ _ _ _ hgq
      have hpq : p ≤ q := hqk.2.1
      have hqn : q ≤ k := hqk.2.2 hpk
      obtain ⟨Z, hZ⟩ : ∃ Z, Z = q - p := ⟨_, rfl⟩
      have HZ : Hid (lpF res = (Z, bt V2 p Z) ∧ q = p + Z ∧ res.length = s ∧ lensB res = true ∧ giY k V2 p s res q ∧ okB (k : Int) ys = true ∧ val ys = V2 ∧ bt V2 p Z < 2 ^ Z) := ⟨by rw [hZ]; exact hlp, by omega, hrl, hlb, ⟨hgi1, hlb⟩, hO, hval, bt_lt _ _ _⟩
      have hZk : Z ≤ k := by omega
      have hpZ : p + Z ≤ k := by omega
      clear hgi1 hlb hgq hrl hlp hqk hO hke hval hZ hpq hqn
      refine HNG.mono ?_
      clear HNG
      rintro e u3 ⟨hb3, hy3, -⟩
      obtain ⟨a8, c8, rfl, hm8⟩ := hy3 res q HZ.out.2.2.2.2.1
      have HB3 : Hid (Below w.heap.size w u3 ∧ Y < u3.heap.size) := ⟨HBU.out.1.trans (hb3.mono HBU.out.1.size), Nat.lt_of_lt_of_le HBU.out.2 hb3.size⟩
      have HY3 : Hid (Byt u3 ay ys ∧ u3.cell? ⟨Y, 0, none⟩ = some (.slice ay ys.length cy) ∧ u3.cell? ⟨Y, 1, none⟩ = some (.int .i64 (k : Nat))) := ⟨HYU.out.1.below hb3 (Nat.le_refl _), keep hb3 HBU.out.2 HYU.out.2.1, keep hb3 HBU.out.2 HYU.out.2.2⟩
      have HSU3 := HS.out.1.below HB3.out.1
      have HNP := implLensPut_yes a8 c8 res u3 hm8.byt hm8.cap_le HZ.out.2.2.2.1 HSU3.f4 HSU3.eT
      rw [HZ.out.1] at HNP
      simp only at HNP
      rw [HZ.out.2.2.1] at HNP ⊢
      rw [HZ.out.2.1]
      clear hb3 hy3 hm8 HSU3 HSU HYU HBU HYR
      have HZZ : Hid ((enc Z (bt V2 p Z)).length ≤ 2000 ∧ val (enc Z (bt V2 p Z)) = bt V2 p Z ∧ okB (Z : Int) (enc Z (bt V2 p Z)) = true) := ⟨by rw [enc_len]; omega, val_encB _ _ HZ.out.2.2.2.2.2.2.2, okB_encB _ _ (by omega) HZ.out.2.2.2.2.2.2.2⟩
      generalize enc Z (bt V2 p Z) = zz at *
      go_wp2_with fail
      refine HNP.mono ?_
      clear HNP
      rintro e u4 ⟨az, cz, rfl, hmz, hb4⟩
      have hA4 : Below u4.heap.size u4 (u4.alloc (Obj.cells #[Value.slice az zz.length cz, Value.int IntKind.i64 (Z : Nat)] 36)) := (Below.refl _ _).alloc (Nat.le_refl _) _
      have hb34 : Below u3.heap.size u3 (u4.alloc (Obj.cells #[Value.slice az zz.length cz, Value.int IntKind.i64 (Z : Nat)] 36)) := hb4.trans (hA4.mono hb4.size)
      have H4 : Hid (Byt (u4.alloc (Obj.cells #[Value.slice az zz.length cz, Value.int IntKind.i64 (Z : Nat)] 36)) ay ys ∧ Byt (u4.alloc (Obj.cells #[Value.slice az zz.length cz, Value.int IntKind.i64 (Z : Nat)] 36)) az zz ∧ Below w.heap.size w (u4.alloc (Obj.cells #[Value.slice az zz.length cz, Value.int IntKind.i64 (Z : Nat)] 36)) ∧ Y < (u4.alloc (Obj.cells #[Value.slice az zz.length cz, Value.int IntKind.i64 (Z : Nat)] 36)).heap.size ∧ u4.heap.size < (u4.alloc (Obj.cells #[Value.slice az zz.length cz, Value.int IntKind.i64 (Z : Nat)] 36)).heap.size) := ⟨HY3.out.1.below hb34 (Nat.le_refl _), hmz.byt.below hA4 (Nat.le_refl _), HB3.out.1.trans (hb34.mono HB3.out.1.size), Nat.lt_of_lt_of_le HB3.out.2 hb34.size, by simp⟩
      have HC4 : Hid ((u4.alloc (Obj.cells #[Value.slice az zz.length cz, Value.int IntKind.i64 (Z : Nat)] 36)).cell? ⟨Y, 0, none⟩ = some (.slice ay ys.length cy) ∧ (u4.alloc (Obj.cells #[Value.slice az zz.length cz, Value.int IntKind.i64 (Z : Nat)] 36)).cell? ⟨Y, 1, none⟩ = some (.int .i64 (k : Nat)) ∧ (u4.alloc (Obj.cells #[Value.slice az zz.length cz, Value.int IntKind.i64 (Z : Nat)] 36)).cell? ⟨u4.heap.size, 0, none⟩ = some (.slice az zz.length cz) ∧ (u4.alloc (Obj.cells #[Value.slice az zz.length cz, Value.int IntKind.i64 (Z : Nat)] 36)).cell? ⟨u4.heap.size, 1, none⟩ = some (.int .i64 (Z : Nat))) := ⟨keep hb34 HB3.out.2 HY3.out.2.1, keep hb34 HB3.out.2 HY3.out.2.2, by simp, by simp⟩
      clear hmz hb4 hA4 hb34 HB3 HY3
      go_wp2_with fail
      generalize u4.alloc (Obj.cells #[Value.slice az zz.length cz, Value.int IntKind.i64 (Z : Nat)] 36) = u5 at *
      generalize u4.heap.size = P at *
      go_loopw [17] (fun iv W => ∃ i : Nat, i ≤ Z ∧ iv = .int .i64 i ∧ Below u5.heap.size u5 W) (fun iv _ => Z - (intOf iv).toNat)
      case atStart => exact ⟨0, Nat.zero_le _, rfl, Below.refl _ _⟩
      case round =>
        obtain ⟨i, hi, rfl, hbl⟩ := hrel
        have c3 := keep hbl H4.out.2.2.2.2 HC4.out.2.2.2
        have HBL : Hid (Below u5.heap.size u5 wr) := hbl
        clear hbl
        by_cases hlt : i < Z
        · have c2 := keep HBL.out H4.out.2.2.2.2 HC4.out.2.2.1
          have hG1 := implGet_yes az cz zz (Z : Nat) (i : Nat) 1 wr (H4.out.2.1.below HBL.out (Nat.le_refl _)) HZZ.out.2.2 (by omega) (by omega) (by omega) (by omega)
          rw [HZZ.out.2.1, Int.toNat_natCast] at hG1
          simp only [show (1 : Int).toNat = 1 from rfl, Nat.pow_one] at hG1
          rw [bt_bit V2 p Z i hlt] at hG1
          have HB01 : Hid (V2 / 2 ^ (p + i) % 2 < 2 ∧ True) := ⟨Nat.mod_lt _ (by omega), trivial⟩
          have hG2 : ∀ W, Below wr.heap.size wr W → Calls Tryd.prog 25 #[.agg #[.slice ay ys.length cy, .int .i64 (k : Nat)], .int .i64 ((p : Int) + (i : Int)), .int .i64 1] W fun e w' => e = .returned (.tuple #[.int .i64 (V2 / 2 ^ (p + i) % 2 : Nat), .int .i64 ((p : Int) + (i : Int) + 1)]) ∧ Below W.heap.size W w' := fun W hW => by
            have h := implGet_yes ay cy ys (k : Nat) ((p + i : Nat) : Int) 1 W ((H4.out.1.below HBL.out (Nat.le_refl _)).below hW (Nat.le_refl _)) HZ.out.2.2.2.2.2.1 (by omega) (by omega) (by omega) (by omega)
            rw [HZ.out.2.2.2.2.2.2.1, Int.toNat_natCast] at h
            simp only [show (1 : Int).toNat = 1 from rfl, Nat.pow_one] at h
            rw [show ((p + i : Nat) : Int) = (p : Int) + (i : Int) by omega] at h
            exact h
          have HG2 : Hid _ := hG2
          clear hG2
          generalize V2 / 2 ^ (p + i) % 2 = bit at *
          have hbb : ((bit : Int) != (bit : Int)) = false := by simp
          go_wp2_with fail
          refine hG1.mono ?_
          clear hG1
          rintro e v1 ⟨rfl, hv1⟩
          have hYl : Y < wr.heap.size := Nat.lt_of_lt_of_le H4.out.2.2.2.1 HBL.out.size
          have y0 := keep hv1 hYl (keep HBL.out H4.out.2.2.2.1 HC4.out.1)
          have y1 := keep hv1 hYl (keep HBL.out H4.out.2.2.2.1 HC4.out.2.1)
          have hG3 := HG2.out v1 hv1
          have HBV : Hid (Below u5.heap.size u5 v1) := HBL.out.trans (hv1.mono HBL.out.size)
          clear hv1 c2 c3 HG2 HBL hYl
          go_wp2_with fail
          refine hG3.mono ?_
          clear hG3
          rintro e v2 ⟨rfl, hv2⟩
          have HBV2 : Hid (Below u5.heap.size u5 v2) := HBV.out.trans (hv2.mono HBV.out.size)
          clear hv2 HBV y0 y1
          go_wp2
          go_roundw
          case rel => exact ⟨i + 1, by omega, by go_num, HBV2.out⟩
          case measure => simp [intOf]; omega
        · have hpp : ((p : Int) + (Z : Int) == (p : Int) + (Z : Int)) = true := by simp
          have hss : ((s : Int) == (s : Int)) = true := by simp
          go_wp2
          go_ret
          exact ⟨rfl, H4.out.2.2.1.trans (HBL.out.mono H4.out.2.2.1.size)⟩
    · have HNG : Calls Tryd.prog 23 #[.agg #[.slice ay ys.length cy, .int .i64 N], .int .i64 t, .int .i64 m] u2 fun e w' => e = .returned (.tuple #[.slice none 0 0, .int .i64 (-1), .bool false]) ∧ Below u2.heap.size u2 w' := by
        by_cases hga : lgArgs N t m ys
        · obtain ⟨hO, g1, g2, g3, g4⟩ := hga
          obtain ⟨k, rfl, hk1, hke, hkv⟩ := okB_enc hO HYR.out
          obtain ⟨p, rfl⟩ := Int.eq_ofNat_of_zero_le g1
          obtain ⟨s, rfl⟩ := Int.eq_ofNat_of_zero_le (show 0 ≤ m by omega)
          refine (implLensGet_ok ay cy ys k p s u2 HYU.out.1 hO hke hk1 (by omega) (by omega) (by omega) HSU.s0 HSU.s1 HSU.s2 HSU.f4 HSU.hG).mono ?_
          rintro e w' ⟨hb', -, hn'⟩
          exact ⟨hn' (fun ⟨res, q, h⟩ => hgot ⟨k, val ys, p, s, q, res, rfl, rfl, rfl, hk1, by omega, by omega, by omega, hO, hke, rfl, h⟩), hb'⟩
        · exact implLensGet_no ay cy ys N t m u2 HYU.out.1 (by omega) hga
      clear hgot HSU
      refine HNG.mono ?_
      clear HNG
      rintro e u3 ⟨rfl, hb3⟩
      have HB3 : Hid (Below w.heap.size w u3 ∧ True) := ⟨HBU.out.1.trans (hb3.mono HBU.out.1.size), trivial⟩
      clear hb3 HYU HBU HYR
      have HIN : Hid (∀ T, Ins (u3.alloc (.cells #[.int .i64 1, .int .i64 2, .int .i64 2] T)) (some ⟨u3.heap.size, 0, none⟩) [1, 2, 2]) := fun T => by
        have := ins_newN u3 T [1, 2, 2] (by intro z hz; simp at hz; omega)
        simpa using this
      have HBA : Hid (∀ T, Below w.heap.size w (u3.alloc (.cells #[.int .i64 1, .int .i64 2, .int .i64 2] T))) := fun T => HB3.out.1.alloc HB3.out.1.size _
      go_wp2_with fail
      have HSA := HS.out.1.below (HBA.out 3)
      refine (lens122_any (some ⟨u3.heap.size, 0, none⟩) 3 _ (HIN.out 3) HSA.f4 HSA.eT).mono ?_
      rintro e u5 ⟨rfl, hb5⟩
      have HB5 : Hid (Below w.heap.size w u5 ∧ True) := ⟨(HBA.out 3).trans (hb5.mono (HBA.out 3).size), trivial⟩
      clear hb5 HSA HIN HBA HB3
      go_wp2
      go_ret
      exact ⟨rfl, HB5.out.1⟩
end Go.Proofs.YtkjebacpmmfflaaDoor
