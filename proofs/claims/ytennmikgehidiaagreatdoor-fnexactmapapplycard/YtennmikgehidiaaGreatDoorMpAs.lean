/-
  MapApply of the model.
-/
import Derived.Test.YtennmikgehidiaaGreatDoorSzS
import Derived.Test.YtennmikgehidiaaGreatDoorPlP
import Derived.Deep.RegionHeld3
import Derived.Test.YtennmikgehidiaaGreatDoorPkJ
import Derived.Test.YtennmikgehidiaaGreatDoorPkS
import Derived.Test.YtennmikgehidiaaGreatDoorIApp
import Derived.Test.YtennmikgehidiaaGreatDoorMpOkS
namespace Go.Proofs.YtennmikgehidiaaGreatDoor
open Go.RowKit
set_option linter.unusedVariables false

set_option maxHeartbeats 800000 in
theorem szItem_any (n : Int) (a : Option Addr) (cap : Nat) (zs : List Int) (left : Int) (w : World) (hn : zs.length ≤ maxLen) (h0 : 0 ≤ left) (h1 : left ≤ 1048576) :
    Calls Tryz.prog 32 #[.agg #[.int .i64 n, .slice a zs.length cap], .int .i64 left] w fun e w' => e = .returned (.int .i64 (if (zs.length : Int) ≤ left then left - zs.length else -1)) ∧ Below w.heap.size w w' := by
  by_cases h : (zs.length : Int) ≤ left
  · go_enter Tryz.func32, Tryz.ntmps32
    go_wp2_with (go_at_call 48; refine (szByteS_any _ _ _ _ _ hn h0 h1).mono ?_; rintro e w' ⟨rfl, rfl⟩; rw [if_pos h])
    go_ret
    exact ⟨rfl, (Below.refl _ _).alloc (Nat.le_refl _) _⟩
  · go_enter Tryz.func32, Tryz.ntmps32
    go_wp2_with (go_at_call 48; refine (szByteS_any _ _ _ _ _ hn h0 h1).mono ?_; rintro e w' ⟨rfl, rfl⟩; rw [if_neg h])
    go_ret
    exact ⟨rfl, (Below.refl _ _).alloc (Nat.le_refl _) _⟩

set_option maxHeartbeats 1600000 in
theorem szItemS_any (a : Option Addr) (cap : Nat) (ss : List El) (left : Int) (w : World) (hb : Els true w a ss) (hm : ss.length ≤ maxLen) (h0 : 0 ≤ left) (h1 : left ≤ 1048576) :
    Calls Tryz.prog 16 #[.slice a ss.length cap, .int .i64 left] w fun e w' => (∃ z : Int, e = .returned (.int .i64 z) ∧ (z = -1 ∨ (0 ≤ z ∧ z ≤ left ∧ z + ss.length + elets ss = left))) ∧ Below w.heap.size w w' := by
  have HSS : Hid (Els true w a ss) := hb
  unfold maxLen at hm
  clear hb
  have HEL : Hid (elets (ss.take ss.length) = elets ss ∧ True) := ⟨by rw [List.take_length], trivial⟩
  generalize hlen : ss.length = n at *
  have HL : Hid (ss.length = n ∧ True) := ⟨hlen, trivial⟩
  clear hlen
  by_cases hn : (n : Int) ≤ left
  · go_enter Tryz.func16, Tryz.ntmps16
    go_wp2
    go_loopw [1, 5] (fun l i wr => ∃ (k : Nat) (z : Int), k ≤ n ∧ i = .int .i64 k ∧ l = .int .i64 z ∧ 0 ≤ z ∧ z ≤ 1048576 ∧ z ≤ left ∧ (n : Int) + (elets (ss.take k) : Nat) + z = left ∧ Below w.heap.size w wr) (fun _ i _ => n - (intOf i).toNat)
    case atStart => exact ⟨0, left - n, Nat.zero_le _, rfl, rfl, by omega, by omega, by omega, by simp [elets]; omega, Below.refl _ _⟩
    case round =>
      obtain ⟨k, z, hk, rfl, rfl, hz0, hz1, hz2, hsum, hbel⟩ := hrel
      have HSUM : Hid ((n : Int) + (elets (ss.take k) : Nat) + z = left ∧ True) := ⟨hsum, trivial⟩
      clear hsum
      by_cases hlt : k < n
      · obtain ⟨b, off, rfl, hb1, c0, c1, hby, hrg⟩ := (HSS.out.below hbel (Nat.le_refl _)).pen k (by rw [HL.out.1]; exact hlt)
        have HT : Hid (elets (ss.take (k + 1)) = elets (ss.take k) + (ss.getD k de).ls.length ∧ True) := ⟨elets_take_succ ss k (by rw [HL.out.1]; exact hlt), trivial⟩
        generalize ss.getD k de = s at *
        obtain ⟨sn, sa, sc, sl⟩ := s
        simp only at c0 c1 HT
        have hml := hrg.len
        simp only at hml
        clear hby hrg
        have HSZ := szItem_any sn sa sc sl z wr hml hz0 hz1
        go_wp2_with fail
        refine HSZ.mono ?_
        clear HSZ
        rintro e w1 ⟨rfl, hb2⟩
        have HB2 : Hid (Below w.heap.size w w1) := hbel.trans (hb2.mono hbel.size)
        clear hb2 hbel c0 c1
        by_cases hc : (sl.length : Int) ≤ z
        · rw [if_pos hc]
          have HS2 : Hid ((n : Int) + (elets (ss.take (k + 1)) : Nat) + (z - sl.length) = left ∧ True) := by
            have h1 := HSUM.out.1
            have h2 := HT.out.1
            exact ⟨by omega, trivial⟩
          go_wp2
          go_roundw
          case rel => exact ⟨k + 1, z - sl.length, by omega, by go_num, rfl, by omega, by omega, by omega, HS2.out.1, HB2.out⟩
          case measure => simp [intOf]; omega
        · rw [if_neg hc]
          go_wp2
          go_ret
          exact ⟨⟨-1, rfl, .inl rfl⟩, HB2.out⟩
      · have hkn : k = n := by omega
        subst hkn
        have HF : Hid (z + (k : Int) + elets ss = left ∧ True) := by
          have h1 := HSUM.out.1
          rw [HEL.out.1] at h1
          exact ⟨by omega, trivial⟩
        go_wp2
        go_ret
        exact ⟨⟨z, rfl, .inr ⟨hz0, hz2, HF.out.1⟩⟩, hbel⟩
  · go_enter Tryz.func16, Tryz.ntmps16
    go_wp2
    go_ret
    exact ⟨⟨-1, rfl, .inl rfl⟩, Below.refl _ _⟩

/-- What is asked of items that are not too many. -/
structure FewI (es : List El) : Prop where
  n : es.length ≤ 1048576
  l : ∀ s ∈ es, s.ls.length ≤ 1048576
  sum : es.length + elets es ≤ 1048576
theorem FewI.mk' {es : List El} (h : es.length + elets es ≤ 1048576) : FewI es := ⟨by omega, fun s hs => by have := elets_mem hs; omega, h⟩
theorem FewI.ct {es ts : List El} (h : FewI es) (h1 : ts.map El.ct = es.map El.ct) : FewI ts := FewI.mk' (by rw [len_ctE h1, elets_ct _ _ h1]; exact h.sum)

set_option maxHeartbeats 1600000 in
theorem szPack_any (E O : Int) (a : Option Addr) (cap : Nat) (es : List El) (w : World) (hb : Els true w a es) (hm : es.length ≤ maxLen) (left : Int) (h0 : 0 ≤ left) (h1 : left ≤ 1048576) :
    Calls Tryz.prog 5 #[.agg #[.int .i64 E, .int .i64 O, .slice a es.length cap], .int .i64 left] w fun e w' => (∃ z : Int, e = .returned (.int .i64 z) ∧ (z = -1 ∨ (0 ≤ z ∧ z ≤ left ∧ z + es.length + elets es = left))) ∧ Below w.heap.size w w' := by
  have hw : Below w.heap.size w (w.alloc (Obj.cells #[Value.int IntKind.i64 E, Value.int IntKind.i64 O, Value.slice a es.length cap] 27)) := (Below.refl _ _).alloc (Nat.le_refl _) _
  have HS := szItemS_any a cap es left _ (hb.below hw (Nat.le_refl _)) hm h0 h1
  clear hb hm
  go_enter Tryz.func5, Tryz.ntmps5
  go_wp2_with fail
  refine HS.mono ?_
  clear HS
  rintro e w1 ⟨⟨z, rfl, hz⟩, hb1⟩
  have HB1 : Hid (Below w.heap.size w w1) := hw.trans (hb1.mono (by simp))
  clear hw hb1
  rcases hz with rfl | ⟨hz0, hz1, hz2⟩
  · go_wp2
    go_ret
    exact ⟨⟨-1, rfl, .inl rfl⟩, HB1.out⟩
  · have HZ : Hid (z + (es.length : Int) + elets es = left ∧ True) := ⟨hz2, trivial⟩
    clear hz2
    go_wp2
    go_ret
    exact ⟨⟨z, rfl, .inr ⟨hz0, hz1, HZ.out.1⟩⟩, HB1.out⟩
end Go.Proofs.YtennmikgehidiaaGreatDoor
namespace Go.Proofs.YtennmikgehidiaaGreatDoor
open Go.RowKit
set_option linter.unusedVariables false

set_option maxHeartbeats 800000 in
theorem eqByteS_any (a b : Option Addr) (ca cb : Nat) (xs ys : List Int) (w : World) (ha : Byt w a xs) (hb : Byt w b ys) (hx : xs.length ≤ 281474976710656) (hy : ys.length ≤ 281474976710656) :
    Calls Tryz.prog 56 #[.slice a xs.length ca, .slice b ys.length cb] w fun e w' => e = .returned (.bool (decide (xs = ys))) ∧ ∃ n, w' = w.drewN n := by
  by_cases hl : xs.length = ys.length
  · generalize hlx : xs.length = n at *
    have HX : Hid (xs.length = n) := hlx
    have HY : Hid (ys.length = n) := hl.symm
    rw [← hl]
    have hnn : ((n : Int) != (n : Int)) = false := by simp
    clear hlx hl hy
    go_enter Tryz.func56, Tryz.ntmps56
    go_wp2
    go_loopw [5] (fun i wr => ∃ k m : Nat, k ≤ n ∧ i = .int .i64 k ∧ wr = w.drewN m ∧ xs.take k = ys.take k) (fun i _ => n - (intOf i).toNat)
    case atStart => exact ⟨0, 0, Nat.zero_le _, rfl, rfl, by simp⟩
    case round =>
      obtain ⟨k, m, hk, rfl, rfl, htk⟩ := hrel
      have HT : Hid (xs.take k = ys.take k) := htk
      clear htk
      by_cases hlt : k < n
      · obtain ⟨b1, o1, rfl, hb1, hc1⟩ := ha.len_pos k (by rw [HX.out]; exact hlt)
        obtain ⟨b2, o2, rfl, hb2, hc2⟩ := hb.len_pos k (by rw [HY.out]; exact hlt)
        have hs1 := hc1 k (by rw [HX.out]; exact hlt)
        have hs2 := hc2 k (by rw [HY.out]; exact hlt)
        have g1 := getD_rng ha.1 k
        have g2 := getD_rng hb.1 k
        clear hc1 hc2 ha hb
        generalize hx1 : xs.getD k 0 = x1 at *
        generalize hy1 : ys.getD k 0 = y1 at *
        have HX1 : Hid (xs.getD k 0 = x1) := hx1
        have HY1 : Hid (ys.getD k 0 = y1) := hy1
        clear hx1 hy1
        by_cases hxy : x1 = y1
        · subst hxy
          have hq : (x1 != x1) = false := by simp
          have HT' : Hid (xs.take (k + 1) = ys.take (k + 1)) := take_eq_succ HT.out (by rw [HX.out]; exact hlt) (by rw [HY.out]; exact hlt) (by rw [HX1.out, HY1.out])
          go_wp2
          go_quiet (fail)
          go_wp2
          go_roundw
          case rel => exact ⟨k + 1, _, by omega, by go_num, rfl, HT'.out⟩
          case measure => simp [intOf]; omega
        · have hq : (x1 != y1) = true := by rw [bne_iff_ne]; exact hxy
          have HN : Hid (decide (xs = ys) = false) := by
            have : xs ≠ ys := ne_of_getD (k := k) (by rw [HX1.out, HY1.out]; exact hxy)
            simpa [Hid] using this
          clear hxy
          go_wp2
          go_quiet (fail)
          go_wp2
          go_ret
          exact ⟨by rw [HN.out]; rfl, _, World.drewN_drewN ..⟩
      · have HE : Hid (decide (xs = ys) = true) := by
          have h1 := HT.out
          rw [List.take_of_length_le (by rw [HX.out]; omega), List.take_of_length_le (by rw [HY.out]; omega)] at h1
          simpa [Hid] using h1
        go_wp2
        go_ret
        exact ⟨by rw [HE.out]; rfl, _, rfl⟩
  · have hne : decide (xs = ys) = false := by simp; intro h; exact hl (by rw [h])
    have hl' : ((xs.length : Int) != (ys.length : Int)) = true := by rw [bne_iff_ne]; omega
    rw [hne]
    go_enter Tryz.func56, Tryz.ntmps56
    go_wp2
    go_ret
    exact ⟨rfl, 0, rfl⟩

theorem eqByteS_yes (a b : Option Addr) (ca cb : Nat) (xs : List Int) (w : World) (ha : Byt w a xs) (hb : Byt w b xs) (hx : xs.length ≤ 281474976710656) :
    Calls Tryz.prog 56 #[.slice a xs.length ca, .slice b xs.length cb] w fun e w' => e = .returned (.bool true) ∧ ∃ n, w' = w.drewN n := by
  refine (eqByteS_any a b ca cb xs xs w ha hb hx hx).mono ?_
  rintro e w' ⟨rfl, h⟩
  exact ⟨by simp, h⟩

end Go.Proofs.YtennmikgehidiaaGreatDoor
namespace Go.Proofs.YtennmikgehidiaaGreatDoor
open Go.RowKit
set_option linter.unusedVariables false

theorem below_dI {w W : World} {B : Nat} (h : Below B w W) (n : Nat) : Below B w (W.drewN n) := ⟨h.os, h.tape, h.output, h.size, h.block⟩

set_option maxHeartbeats 800000 in
theorem eqItem_yes (a b : Option Addr) (ca cb : Nat) (xs : List Int) (n : Int) (w : World) (ha : Byt w a xs) (hb : Byt w b xs) (hx : xs.length ≤ 281474976710656) :
    Calls Tryz.prog 46 #[.agg #[.int .i64 n, .slice a xs.length ca], .agg #[.int .i64 n, .slice b xs.length cb]] w fun e w' => e = .returned (.bool true) ∧ Below w.heap.size w w' := by
  have hw : Below w.heap.size w ((w.alloc (Obj.cells #[Value.int IntKind.i64 n, Value.slice a xs.length ca] 74)).alloc (Obj.cells #[Value.int IntKind.i64 n, Value.slice b xs.length cb] 74)) := ((Below.refl _ _).alloc (Nat.le_refl _) _).alloc (by simp) _
  have hnn : (n != n) = false := by simp
  go_enter Tryz.func46, Tryz.ntmps46
  go_wp2_with fail
  refine (eqByteS_yes a b ca cb xs _ (ha.below hw (Nat.le_refl _)) (hb.below hw (Nat.le_refl _)) hx).mono ?_
  rintro e w1 ⟨rfl, nq, rfl⟩
  go_wp2
  go_ret
  exact ⟨rfl, below_dI hw _⟩

set_option maxHeartbeats 1600000 in
theorem eqItemS_yes (a b : Option Addr) (ca cb : Nat) (ss ts : List El) (w : World) (ha : Els true w a ss) (hb : Els true w b ts) (hct : ss.map El.ct = ts.map El.ct) (hx : ss.length ≤ 281474976710656) (hxl : ∀ s ∈ ss, s.ls.length ≤ 281474976710656) :
    Calls Tryz.prog 28 #[.slice a ss.length ca, .slice b ss.length cb] w fun e w' => e = .returned (.bool true) ∧ Below w.heap.size w w' := by
  have htl : ts.length = ss.length := by have := congrArg List.length hct; simpa using this.symm
  have HA : Hid (Els true w a ss) := ha
  have HB : Hid (Els true w b ts) := hb
  have HCT : Hid (ss.map El.ct = ts.map El.ct ∧ ts.length = ss.length) := ⟨hct, htl⟩
  have HXL : Hid (∀ s ∈ ss, s.ls.length ≤ 281474976710656) := hxl
  clear ha hb hct htl hxl
  generalize hlen : ss.length = n at *
  have HL : Hid (ss.length = n ∧ True) := ⟨hlen, trivial⟩
  clear hlen
  have hnn : ((n : Int) != (n : Int)) = false := by simp
  go_enter Tryz.func28, Tryz.ntmps28
  go_wp2
  go_loopw [5] (fun i wr => ∃ k : Nat, k ≤ n ∧ i = .int .i64 k ∧ Below w.heap.size w wr) (fun i _ => n - (intOf i).toNat)
  case atStart => exact ⟨0, Nat.zero_le _, rfl, Below.refl _ _⟩
  case round =>
    obtain ⟨k, hk, rfl, hbel⟩ := hrel
    by_cases hlt : k < n
    · obtain ⟨b1, o1, rfl, hb1, c0, c1, hy1, -⟩ := (HA.out.below hbel (Nat.le_refl _)).pen k (by rw [HL.out.1]; exact hlt)
      obtain ⟨b2, o2, rfl, hb2, d0, d1, hy2, -⟩ := (HB.out.below hbel (Nat.le_refl _)).pen k (by rw [HCT.out.2]; exact hlt)
      have hml := HXL.out _ (getD_memE (k := k) (by rw [HL.out.1]; exact hlt))
      have hce := ctE_get HCT.out.1 k
      generalize ss.getD k de = s at *
      generalize ts.getD k de = t at *
      obtain ⟨sn, sa, sc, sl⟩ := s
      obtain ⟨tn, ta, tc, tl⟩ := t
      simp only [El.ct, Prod.mk.injEq] at hce
      obtain ⟨rfl, rfl⟩ := hce
      simp only at c0 c1 d0 d1 hy1 hy2 hml
      have HY1 : Hid (Byt wr sa sl) := hy1
      have HY2 : Hid (Byt wr ta sl) := hy2
      have HML : Hid (sl.length ≤ 281474976710656) := hml
      have HC : Hid (wr.cell? ⟨b1, o1 + k * 2, none⟩ = some (.int .i64 sn) ∧ wr.cell? ⟨b1, o1 + k * 2 + 1, none⟩ = some (.slice sa sl.length sc) ∧ wr.cell? ⟨b2, o2 + k * 2, none⟩ = some (.int .i64 sn) ∧ wr.cell? ⟨b2, o2 + k * 2 + 1, none⟩ = some (.slice ta sl.length tc)) := ⟨c0, c1, d0, d1⟩
      clear hy1 hy2 hml c0 c1 d0 d1
      go_wp2_with fail
      go_region_held3 (fun W => W.cell? ⟨b1, o1 + k * 2, none⟩ = some (.int .i64 sn) ∧ W.cell? ⟨b1, o1 + k * 2 + 1, none⟩ = some (.slice sa sl.length sc) ∧ W.cell? ⟨b2, o2 + k * 2, none⟩ = some (.int .i64 sn) ∧ W.cell? ⟨b2, o2 + k * 2 + 1, none⟩ = some (.slice ta sl.length tc))
        (first | exact HC.out | exact HC8.out)
        (first
          | (go_at_call 46; refine (eqItem_yes sa ta sc tc sl sn _ (by exact HY1.out) (by exact HY2.out) HML.out).mono ?_; rintro e w8 ⟨rfl, hb8'⟩; have HB8 : Hid (Below w.heap.size w w8) := hbel.trans ((Below.drewS hb8').mono hbel.size); have HC8 : Hid (w8.cell? ⟨b1, o1 + k * 2, none⟩ = some (.int .i64 sn) ∧ w8.cell? ⟨b1, o1 + k * 2 + 1, none⟩ = some (.slice sa sl.length sc) ∧ w8.cell? ⟨b2, o2 + k * 2, none⟩ = some (.int .i64 sn) ∧ w8.cell? ⟨b2, o2 + k * 2 + 1, none⟩ = some (.slice ta sl.length tc)) := ⟨keep (Below.drewS hb8') hb1 HC.out.1, keep (Below.drewS hb8') hb1 HC.out.2.1, keep (Below.drewS hb8') hb2 HC.out.2.2.1, keep (Below.drewS hb8') hb2 HC.out.2.2.2⟩; clear hb8'))
      clear HC HC8
      go_wp2
      go_roundw
      case rel => exact ⟨k + 1, by omega, by go_num, HB8.out⟩
      case measure => simp [intOf]; omega
    · have hkn : k = n := by omega
      subst hkn
      go_wp2
      go_ret
      exact ⟨rfl, hbel⟩

set_option maxHeartbeats 1600000 in
theorem eqPack_yes (E O : Int) (a b : Option Addr) (ca cb : Nat) (ss ts : List El) (w : World) (ha : Els true w a ss) (hb : Els true w b ts) (hct : ss.map El.ct = ts.map El.ct) (hx : FewI ss) :
    Calls Tryz.prog 11 #[.agg #[.int .i64 E, .int .i64 O, .slice a ss.length ca], .agg #[.int .i64 E, .int .i64 O, .slice b ss.length cb]] w fun e w' => e = .returned (.bool true) ∧ Below w.heap.size w w' := by
  have hw : Below w.heap.size w ((w.alloc (Obj.cells #[Value.int IntKind.i64 E, Value.int IntKind.i64 O, Value.slice a ss.length ca] 38)).alloc (Obj.cells #[Value.int IntKind.i64 E, Value.int IntKind.i64 O, Value.slice b ss.length cb] 38)) := ((Below.refl _ _).alloc (Nat.le_refl _) _).alloc (by simp) _
  have HE := eqItemS_yes a b ca cb ss ts _ (ha.below hw (Nat.le_refl _)) (hb.below hw (Nat.le_refl _)) hct (by have := hx.n; omega) (fun s hs => by have := hx.l s hs; omega)
  have hE : (E != E) = false := by simp
  have hO : (O != O) = false := by simp
  clear ha hb hct hx
  go_enter Tryz.func11, Tryz.ntmps11
  go_wp2_with fail
  refine HE.mono ?_
  clear HE
  rintro e w1 ⟨rfl, hb1⟩
  have HB1 : Hid (Below w.heap.size w w1) := hw.trans (hb1.mono (by simp; omega))
  clear hw hb1
  go_wp2
  go_ret
  exact ⟨rfl, HB1.out⟩
end Go.Proofs.YtennmikgehidiaaGreatDoor
namespace Go.Proofs.YtennmikgehidiaaGreatDoor
open Go.RowKit
set_option linter.unusedVariables false

theorem FewI.j {es : List El} (h : FewI es) : FewJ es := ⟨h.n, h.l, by have := h.sum; omega⟩
/-- Two copies of one pack are equal. -/
theorem eqPack_two (E O : Int) (a b : Option Addr) (es us vs : List El) {B B' : Nat} (w : World) (hu : CopT w B (.slice a es.length es.length) us es) (hv : CopT w B' (.slice b es.length es.length) vs es) (hx : FewI es) :
    Calls Tryz.prog 11 #[.agg #[.int .i64 E, .int .i64 O, .slice a es.length es.length], .agg #[.int .i64 E, .int .i64 O, .slice b es.length es.length]] w fun e w' => e = .returned (.bool true) ∧ Below w.heap.size w w' := by
  have := eqPack_yes E O a b es.length es.length us vs w hu.its.els hv.its.els (hu.ct.trans hv.ct.symm) (hx.ct hu.ct)
  rw [len_ctE hu.ct] at this
  exact this
end Go.Proofs.YtennmikgehidiaaGreatDoor
namespace Go.Proofs.YtennmikgehidiaaGreatDoor
open Go.RowKit
set_option linter.unusedVariables false
set_option linter.unusedSimpArgs false

/-- What MapApply asks. -/
structure AyT (f : List Int → Option (List Int)) (ps : List (Int × Int)) (s E O : Int) (es : List El) : Prop where
  map : mapB ps = true
  pack : PkR f E O es
  lo : 2 ≤ s
  hi : s < 24
  liv : (liv ps ps.length s).length = 0
/-- What it answers. -/
def AyP (f : List Int → Option (List Int)) (ps : List (Int × Int)) (s E O : Int) (es : List El) (qs : List (Int × Int)) (R : Bool) : Prop :=
  (AyT f ps s E O es ∧ qs = mvL s es ps es.length ∧ R = true) ∨ (¬ AyT f ps s E O es ∧ qs = [] ∧ R = false)
theorem AyP.ex (f : List Int → Option (List Int)) (ps : List (Int × Int)) (s E O : Int) (es : List El) : ∃ qs R, AyP f ps s E O es qs R := by
  by_cases h : AyT f ps s E O es
  · exact ⟨_, _, .inl ⟨h, rfl, rfl⟩⟩
  · exact ⟨_, _, .inr ⟨h, rfl, rfl⟩⟩
/-- The answer, and where it lies. -/
def AyA (f : List Int → Option (List Int)) (ps : List (Int × Int)) (s E O : Int) (es : List El) (w : World) (r : Ending) (w' : World) : Prop :=
  (∃ qs R a c, AyP f ps s E O es qs R ∧ r = .returned (.tuple #[.agg #[.slice a qs.length c], .bool R]) ∧ MinP w' w.heap.size w'.heap.size a c qs) ∧ Below w.heap.size w w'
theorem AyA.no {f : List Int → Option (List Int)} {ps : List (Int × Int)} {s E O : Int} {es : List El} {w w' : World} (h : ¬ AyT f ps s E O es) (hb : Below w.heap.size w w') : AyA f ps s E O es w (.returned (.tuple #[.agg #[.slice none 0 0], .bool false])) w' :=
  ⟨⟨[], false, none, 0, .inr ⟨h, rfl, rfl⟩, rfl, .inl ⟨rfl, rfl, rfl⟩⟩, hb⟩
theorem AyA.yes {f : List Int → Option (List Int)} {ps : List (Int × Int)} {s E O : Int} {es : List El} {w w' : World} {g c : Nat} (h : AyT f ps s E O es) (ho : OwP w' w.heap.size g c (mvL s es ps es.length)) (hb : Below w.heap.size w w') : AyA f ps s E O es w (.returned (.tuple #[.agg #[.slice (some ⟨g, 0, none⟩) ps.length c], .bool true])) w' :=
  ⟨⟨_, true, some ⟨g, 0, none⟩, c, .inl ⟨h, rfl, rfl⟩, by rw [mvL_len], .inr ⟨g, rfl, ho.lt.1, ho.lt.2, ho⟩⟩, hb⟩
end Go.Proofs.YtennmikgehidiaaGreatDoor
namespace Go.Proofs.YtennmikgehidiaaGreatDoor
open Go.RowKit
set_option linter.unusedVariables false
set_option linter.unusedSimpArgs false

/-- The boxes of the arguments and of the answer. -/
structure AyB (w W : World) (a : Option Addr) (n cap : Nat) (E O : Int) (sa : Option Addr) (m sc : Nat) : Prop where
  bel : Below w.heap.size w W
  p0 : W.cell? ⟨w.heap.size, 0, none⟩ = some (.slice a n cap)
  q0 : W.cell? ⟨w.heap.size + 1, 0, none⟩ = some (.int .i64 E)
  q1 : W.cell? ⟨w.heap.size + 1, 1, none⟩ = some (.int .i64 O)
  q2 : W.cell? ⟨w.heap.size + 1, 2, none⟩ = some (.slice sa m sc)
  r0 : W.cell? ⟨w.heap.size + 1 + 1, 0, none⟩ = some (.slice none 0 0)
  r1 : W.frozen? ⟨w.heap.size + 1 + 1, 0, none⟩ = false
  sz : w.heap.size + 1 + 1 < W.heap.size
theorem AyB.start (w : World) (a : Option Addr) (n cap : Nat) (E O : Int) (sa : Option Addr) (m sc : Nat) (T T2 : TypeId) :
    AyB w (((w.alloc (Obj.cells #[Value.slice a n cap] T)).alloc (Obj.cells #[Value.int IntKind.i64 E, Value.int IntKind.i64 O, Value.slice sa m sc] T2)).alloc (Obj.cells #[Value.slice none 0 0] T)) a n cap E O sa m sc := by
  have h3 := (Box3.new (w.alloc (Obj.cells #[Value.slice a n cap] T)) (.int .i64 E) (.int .i64 O) (.slice sa m sc) T2).alloc (Obj.cells #[Value.slice none 0 0] T)
  have hr := new1 ((w.alloc (Obj.cells #[Value.slice a n cap] T)).alloc (Obj.cells #[Value.int IntKind.i64 E, Value.int IntKind.i64 O, Value.slice sa m sc] T2)) (.slice none 0 0) T
  have hp := (new1 w (.slice a n cap) T).1
  have hb : Below (w.heap.size + 1) (w.alloc (Obj.cells #[Value.slice a n cap] T)) (((w.alloc (Obj.cells #[Value.slice a n cap] T)).alloc (Obj.cells #[Value.int IntKind.i64 E, Value.int IntKind.i64 O, Value.slice sa m sc] T2)).alloc (Obj.cells #[Value.slice none 0 0] T)) := ((Below.refl _ _).alloc (by simp) _).alloc (by simp) _
  simp only [World.size_alloc] at h3 hr
  exact ⟨(((Below.refl _ _).alloc (Nat.le_refl _) _).alloc (by simp) _).alloc (by simp; omega) _, keep hb (by omega) hp, h3.c0, h3.c1, h3.c2, hr.1, hr.2, by simp⟩
theorem AyB.step {w W W' : World} {a : Option Addr} {n cap : Nat} {E O : Int} {sa : Option Addr} {m sc : Nat} (h : AyB w W a n cap E O sa m sc) (hb : Below W.heap.size W W') : AyB w W' a n cap E O sa m sc := by
  have hz := h.sz
  exact ⟨h.bel.trans (hb.mono h.bel.size), keep hb (by omega) h.p0, keep hb (by omega) h.q0, keep hb (by omega) h.q1, keep hb (by omega) h.q2, keep hb (by omega) h.r0, (hb.frozen (p := ⟨w.heap.size + 1 + 1, 0, none⟩) (by simp only; omega)).trans h.r1, by have := hb.size; omega⟩
theorem AyB.set {w W : World} {a : Option Addr} {n cap : Nat} {E O : Int} {sa : Option Addr} {m sc : Nat} (h : AyB w W a n cap E O sa m sc) (v : Value) : Below w.heap.size w (W.setCell ⟨w.heap.size + 1 + 1, 0, none⟩ v) := h.bel.setCell (by simp only; omega) _
theorem pk_pos {f : List Int → Option (List Int)} {E O : Int} {es : List El} (h : PkR f E O es) : ∀ e ∈ es, 0 ≤ e.n := by
  intro e he
  obtain ⟨i, hi, rfl⟩ := List.getElem_of_mem he
  have := (h.ap i hi).1.1.1
  simpa [List.getD_eq_getElem?_getD, hi] using this

set_option maxRecDepth 20000 in
set_option maxHeartbeats 8000000 in
theorem specMapApply_any (f : List Int → Option (List Int)) (hf : DecF f) (a : Option Addr) (cap : Nat) (ps : List (Int × Int)) (s E O : Int) (sa : Option Addr) (sc : Nat) (es : List El) (w : World) (hb : Pls w a ps) (hn : ps.length ≤ 1048576) (hi : ItI w sa es) (hx : FewJ es) (hs : -9223372036854775808 ≤ s ∧ s ≤ 9223372036854775807) :
    Calls Tryz.prog 6 #[.agg #[.slice a ps.length cap], .int .i64 s, .agg #[.int .i64 E, .int .i64 O, .slice sa es.length sc]] w (AyA f ps s E O es w) := by
  have HK : Hid (Pls w a ps ∧ ItI w sa es ∧ FewJ es ∧ DecF f) := ⟨hb, hi, hx, hf⟩
  have HAB := AyB.start w a ps.length cap E O sa es.length sc 32 38
  have HMO := specMapOk_any a cap ps _ (hb.below HAB.bel (Nat.le_refl _)) hn
  have HL := l8live_any a cap ps s
  clear hb hi hx hf
  go_enter Tryz.func6, Tryz.ntmps6
  go_wp2_with fail
  generalize (((w.alloc (Obj.cells #[Value.slice a ps.length cap] 32)).alloc (Obj.cells #[Value.int IntKind.i64 E, Value.int IntKind.i64 O, Value.slice sa es.length sc] 38)).alloc (Obj.cells #[Value.slice none 0 0] 32)) = W0 at *
  refine HMO.mono ?_
  clear HMO
  rintro e w1 ⟨rfl, hb1⟩
  have HA1 : Hid (AyB w w1 a ps.length cap E O sa es.length sc) := HAB.step hb1
  clear HAB hb1
  cases hm : mapB ps with
  | false =>
    have HF : Hid (AyA f ps s E O es w (.returned (.tuple #[.agg #[.slice none 0 0], .bool false])) (w1.setCell ⟨w.heap.size + 1 + 1, 0, none⟩ (.slice none 0 0))) := AyA.no (fun h => by rw [h.map] at hm; cases hm) (HA1.out.set _)
    have r0 := HA1.out.r0
    have r1 := HA1.out.r1
    clear hm HL
    go_wp2
    exact bodyPost_ret (v := .tuple #[.agg #[.slice none 0 0], .bool false]) (by simp [results, Tryz.results6, go_sem, r0]) rfl HF.out
  | true =>
    have HPO := specPackOk_any f HK.out.2.2.2 E O sa sc es w1 (HK.out.2.1.below HA1.out.bel (Nat.le_refl _)) HK.out.2.2.1
    have q0 := HA1.out.q0
    have q1 := HA1.out.q1
    have q2 := HA1.out.q2
    have HM : Hid (mapB ps = true ∧ True) := ⟨hm, trivial⟩
    have hln := mapB_len ps hm
    clear hm
    go_wp2_with fail
    refine HPO.mono ?_
    clear HPO q0 q1 q2
    rintro e w2 ⟨⟨hpk, rfl⟩ | ⟨hpk, rfl⟩, hb2⟩
    rotate_left 1
    · have HA2 : Hid (AyB w w2 a ps.length cap E O sa es.length sc) := HA1.out.step hb2
      have HF : Hid (AyA f ps s E O es w (.returned (.tuple #[.agg #[.slice none 0 0], .bool false])) (w2.setCell ⟨w.heap.size + 1 + 1, 0, none⟩ (.slice none 0 0))) := AyA.no (fun h => hpk h.pack) (HA2.out.set _)
      have r0 := HA2.out.r0
      have r1 := HA2.out.r1
      clear hpk hb2 HL
      go_wp2
      exact bodyPost_ret (v := .tuple #[.agg #[.slice none 0 0], .bool false]) (by simp [results, Tryz.results6, go_sem, r0]) rfl HF.out
    have HA2 : Hid (AyB w w2 a ps.length cap E O sa es.length sc) := HA1.out.step hb2
    have HPK : Hid (PkR f E O es) := hpk
    clear hpk hb2 HA1
    have key : s < 2 ∨ (2 ≤ s ∧ 24 ≤ s) ∨ (2 ≤ s ∧ s < 24) := by omega
    rcases key with h2 | ⟨h2, h3⟩ | ⟨h2, h3⟩
    · have HF : Hid (AyA f ps s E O es w (.returned (.tuple #[.agg #[.slice none 0 0], .bool false])) (w2.setCell ⟨w.heap.size + 1 + 1, 0, none⟩ (.slice none 0 0))) := AyA.no (fun h => by have := h.lo; omega) (HA2.out.set _)
      have r0 := HA2.out.r0
      have r1 := HA2.out.r1
      clear HL
      go_wp2
      exact bodyPost_ret (v := .tuple #[.agg #[.slice none 0 0], .bool false]) (by simp [results, Tryz.results6, go_sem, r0]) rfl HF.out
    · have HF : Hid (AyA f ps s E O es w (.returned (.tuple #[.agg #[.slice none 0 0], .bool false])) (w2.setCell ⟨w.heap.size + 1 + 1, 0, none⟩ (.slice none 0 0))) := AyA.no (fun h => by have := h.hi; omega) (HA2.out.set _)
      have r0 := HA2.out.r0
      have r1 := HA2.out.r1
      have h4 : ¬ s < 2 := by omega
      clear HL
      go_wp2
      exact bodyPost_ret (v := .tuple #[.agg #[.slice none 0 0], .bool false]) (by simp [results, Tryz.results6, go_sem, r0]) rfl HF.out
    have h4 : ¬ s < 2 := by omega
    have h5 : ¬ 24 ≤ s := by omega
    have HLV := HL w2 (HK.out.1.below HA2.out.bel (Nat.le_refl _)) HM.out.1 hs
    clear HL
    have p0 := HA2.out.p0
    go_wp2_with fail
    refine HLV.mono ?_
    clear HLV p0
    rintro e w3 ⟨⟨va, vc, rfl, -⟩, hb3⟩
    have HA3 : Hid (AyB w w3 a ps.length cap E O sa es.length sc) := HA2.out.step hb3
    clear hb3 HA2
    have HZ : Hid (∃ z, (liv ps ps.length s).length = z ∧ True) := ⟨_, rfl, trivial⟩
    have hzl := liv_len ps ps.length s
    generalize hz : (liv ps ps.length s).length = z at *
    by_cases h0 : 0 < z
    · have HF : Hid (AyA f ps s E O es w (.returned (.tuple #[.agg #[.slice none 0 0], .bool false])) (w3.setCell ⟨w.heap.size + 1 + 1, 0, none⟩ (.slice none 0 0))) := AyA.no (fun h => by have := h.liv; omega) (HA3.out.set _)
      have r0 := HA3.out.r0
      have r1 := HA3.out.r1
      clear hz
      go_wp2
      exact bodyPost_ret (v := .tuple #[.agg #[.slice none 0 0], .bool false]) (by simp [results, Tryz.results6, go_sem, r0]) rfl HF.out
    have HT : Hid (AyT f ps s E O es) := ⟨HM.out.1, HPK.out, h2, h3, by omega⟩
    obtain rfl : z = 0 := by omega
    clear hz
    obtain ⟨b, off, rfl, -, -⟩ := HK.out.1.len_pos 0 (by omega)
    have HAP := l8apply_any ⟨b, off, none⟩ cap ps s E O sa sc es w3 (HK.out.1.below HA3.out.bel (Nat.le_refl _)) (by omega) (by omega) (HK.out.2.1.els.below HA3.out.bel (Nat.le_refl _)) (by have := HPK.out.n; omega) (pk_pos HPK.out) hs
    have p0 := HA3.out.p0
    have q0 := HA3.out.q0
    have q1 := HA3.out.q1
    have q2 := HA3.out.q2
    go_wp2_with fail
    refine HAP.mono ?_
    clear HAP p0 q0 q1 q2
    rintro e w4 ⟨⟨g, c, rfl, how⟩, hb4⟩
    have HA4 : Hid (AyB w w4 (some ⟨b, off, none⟩) ps.length cap E O sa es.length sc) := HA3.out.step hb4
    have HF : Hid (AyA f ps s E O es w (.returned (.tuple #[.agg #[.slice (some ⟨g, 0, none⟩) ps.length c], .bool true])) (w4.setCell ⟨w.heap.size + 1 + 1, 0, none⟩ (.slice (some ⟨g, 0, none⟩) ps.length c))) :=
      AyA.yes HT.out (OVp.weak (how.other (by have h1 := how.lt; have h6 := HA3.out.sz; simp only; omega) _) (by have h6 := HA3.out.sz; omega)) (HA4.out.set _)
    have r0 := HA4.out.r0
    have r1 := HA4.out.r1
    clear how hb4 HA3
    go_wp2
    exact bodyPost_ret (v := .tuple #[.agg #[.slice (some ⟨g, 0, none⟩) ps.length c], .bool true]) (by simp [results, Tryz.results6, go_sem, r0]) rfl HF.out
end Go.Proofs.YtennmikgehidiaaGreatDoor
