/-
  eqRaw says yes of two devices that say the same.
-/
import Derived.Test.YtajhaoclkomjnaaElTo
import Derived.Test.YtajhaoclkomjnaaElSz
import Derived.Test.YtajhaoclkomjnaaEqS
import Derived.Deep.RegionHeld3
namespace Go.Proofs.Ytajhaoclkomjnaa
open Go.RowKit
set_option linter.unusedVariables false

theorem below_dE {w W : World} {B : Nat} (h : Below B w W) (n : Nat) : Below B w (W.drewN n) := ⟨h.os, h.tape, h.output, h.size, h.block⟩

set_option maxHeartbeats 1600000 in
theorem eqByteSS_yes (a b : Option Addr) (ca cb : Nat) (ss ts : List El) (w : World) (ha : Els false w a ss) (hb : Els false w b ts) (hct : ss.map El.ct = ts.map El.ct) (hx : ss.length ≤ 281474976710656) (hxl : ∀ s ∈ ss, s.ls.length ≤ 281474976710656) :
    Calls Try.prog 38 #[.slice a ss.length ca, .slice b ss.length cb] w fun e w' => e = .returned (.bool true) ∧ Below w.heap.size w w' := by
  have htl : ts.length = ss.length := by have := congrArg List.length hct; simpa using this.symm
  have HA : Hid (Els false w a ss) := ha
  have HB : Hid (Els false w b ts) := hb
  have HCT : Hid (ss.map El.ct = ts.map El.ct ∧ ts.length = ss.length) := ⟨hct, htl⟩
  have HXL : Hid (∀ s ∈ ss, s.ls.length ≤ 281474976710656) := hxl
  clear ha hb hct htl hxl
  generalize hlen : ss.length = n at *
  have HL : Hid (ss.length = n ∧ True) := ⟨hlen, trivial⟩
  clear hlen
  have hnn : ((n : Int) != (n : Int)) = false := by simp
  go_enter Try.func38, Try.ntmps38
  go_wp2
  go_loopw [5] (fun i wr => ∃ k : Nat, k ≤ n ∧ i = .int .i64 k ∧ Below w.heap.size w wr) (fun i _ => n - (intOf i).toNat)
  case atStart => exact ⟨0, Nat.zero_le _, rfl, Below.refl _ _⟩
  case round =>
    obtain ⟨k, hk, rfl, hbel⟩ := hrel
    by_cases hlt : k < n
    · obtain ⟨b1, o1, rfl, hb1, c0, hy1, -⟩ := (HA.out.below hbel (Nat.le_refl _)).sec k (by rw [HL.out.1]; exact hlt)
      obtain ⟨b2, o2, rfl, hb2, d0, hy2, -⟩ := (HB.out.below hbel (Nat.le_refl _)).sec k (by rw [HCT.out.2]; exact hlt)
      have hml := HXL.out _ (getD_memE (k := k) (by rw [HL.out.1]; exact hlt))
      have hce := ctE_get HCT.out.1 k
      generalize ss.getD k de = s at *
      generalize ts.getD k de = t at *
      obtain ⟨sn, sa, sc, sl⟩ := s
      obtain ⟨tn, ta, tc, tl⟩ := t
      simp only [El.ct, Prod.mk.injEq] at hce
      obtain ⟨rfl, rfl⟩ := hce
      simp only at c0 d0 hy1 hy2 hml
      have HY1 : Hid (Byt wr sa sl) := hy1
      have HY2 : Hid (Byt wr ta sl) := hy2
      have HML : Hid (sl.length ≤ 281474976710656) := hml
      have HC : Hid (wr.cell? ⟨b1, o1 + k, none⟩ = some (.slice sa sl.length sc) ∧ wr.cell? ⟨b2, o2 + k, none⟩ = some (.slice ta sl.length tc)) := ⟨c0, d0⟩
      clear hy1 hy2 hml c0 d0
      go_wp2_with fail
      go_region_held3 (fun W => W.cell? ⟨b1, o1 + k, none⟩ = some (.slice sa sl.length sc) ∧ W.cell? ⟨b2, o2 + k, none⟩ = some (.slice ta sl.length tc))
        (first | exact HC.out | exact HC8.out)
        (first
          | (go_at_call 20; refine (eqByteS_yes sa ta sc tc sl _ (by exact HY1.out) (by exact HY2.out) HML.out).mono ?_; rintro e w8 ⟨rfl, n8, hw8⟩; have HB8 : Hid (Below w.heap.size w w8) := (by rw [hw8]; exact below_dE (below_dE hbel 1) n8); have HC8 : Hid (w8.cell? ⟨b1, o1 + k, none⟩ = some (.slice sa sl.length sc) ∧ w8.cell? ⟨b2, o2 + k, none⟩ = some (.slice ta sl.length tc)) := (by rw [hw8]; exact HC.out); clear hw8))
      clear HC HC8
      go_wp2
      go_roundw
      case rel => exact ⟨k + 1, by omega, by go_num, HB8.out⟩
      case measure => simp [intOf]; omega
    · have hkn : k = n := by omega
      subst hkn
      go_wp2
      go_ret
      exact ⟨rfl, hbel⟩

set_option maxHeartbeats 800000 in
theorem eqPend_yes (a b : Option Addr) (ca cb : Nat) (xs : List Int) (n : Int) (w : World) (ha : Byt w a xs) (hb : Byt w b xs) (hx : xs.length ≤ 281474976710656) :
    Calls Try.prog 60 #[.agg #[.int .i64 n, .slice a xs.length ca], .agg #[.int .i64 n, .slice b xs.length cb]] w fun e w' => e = .returned (.bool true) ∧ Below w.heap.size w w' := by
  have hw : Below w.heap.size w ((w.alloc (Obj.cells #[Value.int IntKind.i64 n, Value.slice a xs.length ca] 57)).alloc (Obj.cells #[Value.int IntKind.i64 n, Value.slice b xs.length cb] 57)) := ((Below.refl _ _).alloc (Nat.le_refl _) _).alloc (by simp) _
  have hnn : (n != n) = false := by simp
  go_enter Try.func60, Try.ntmps60
  go_wp2_with fail
  refine (eqByteS_yes a b ca cb xs _ (ha.below hw (Nat.le_refl _)) (hb.below hw (Nat.le_refl _)) hx).mono ?_
  rintro e w1 ⟨rfl, nq, rfl⟩
  go_wp2
  go_ret
  exact ⟨rfl, below_dE hw _⟩

set_option maxHeartbeats 1600000 in
theorem eqPendS_yes (a b : Option Addr) (ca cb : Nat) (ss ts : List El) (w : World) (ha : Els true w a ss) (hb : Els true w b ts) (hct : ss.map El.ct = ts.map El.ct) (hx : ss.length ≤ 281474976710656) (hxl : ∀ s ∈ ss, s.ls.length ≤ 281474976710656) :
    Calls Try.prog 39 #[.slice a ss.length ca, .slice b ss.length cb] w fun e w' => e = .returned (.bool true) ∧ Below w.heap.size w w' := by
  have htl : ts.length = ss.length := by have := congrArg List.length hct; simpa using this.symm
  have HA : Hid (Els true w a ss) := ha
  have HB : Hid (Els true w b ts) := hb
  have HCT : Hid (ss.map El.ct = ts.map El.ct ∧ ts.length = ss.length) := ⟨hct, htl⟩
  have HXL : Hid (∀ s ∈ ss, s.ls.length ≤ 281474976710656) := hxl
  clear ha hb hct htl hxl
  generalize hlen : ss.length = n at *
  have HL : Hid (ss.length = n ∧ True) := ⟨hlen, trivial⟩
  clear hlen
  have hnn : ((n : Int) != (n : Int)) = false := by simp
  go_enter Try.func39, Try.ntmps39
  go_wp2
  go_loopw [5] (fun i wr => ∃ k : Nat, k ≤ n ∧ i = .int .i64 k ∧ Below w.heap.size w wr) (fun i _ => n - (intOf i).toNat)
  case atStart => exact ⟨0, Nat.zero_le _, rfl, Below.refl _ _⟩
  case round =>
    obtain ⟨k, hk, rfl, hbel⟩ := hrel
    by_cases hlt : k < n
    · obtain ⟨b1, o1, rfl, hb1, c0, c1, hy1, -⟩ := (HA.out.below hbel (Nat.le_refl _)).pen k (by rw [HL.out.1]; exact hlt)
      obtain ⟨b2, o2, rfl, hb2, d0, d1, hy2, -⟩ := (HB.out.below hbel (Nat.le_refl _)).pen k (by rw [HCT.out.2]; exact hlt)
      have hml := HXL.out _ (getD_memE (k := k) (by rw [HL.out.1]; exact hlt))
      have hce := ctE_get HCT.out.1 k
      generalize ss.getD k de = s at *
      generalize ts.getD k de = t at *
      obtain ⟨sn, sa, sc, sl⟩ := s
      obtain ⟨tn, ta, tc, tl⟩ := t
      simp only [El.ct, Prod.mk.injEq] at hce
      obtain ⟨rfl, rfl⟩ := hce
      simp only at c0 c1 d0 d1 hy1 hy2 hml
      have HY1 : Hid (Byt wr sa sl) := hy1
      have HY2 : Hid (Byt wr ta sl) := hy2
      have HML : Hid (sl.length ≤ 281474976710656) := hml
      have HC : Hid (wr.cell? ⟨b1, o1 + k * 2, none⟩ = some (.int .i64 sn) ∧ wr.cell? ⟨b1, o1 + k * 2 + 1, none⟩ = some (.slice sa sl.length sc) ∧ wr.cell? ⟨b2, o2 + k * 2, none⟩ = some (.int .i64 sn) ∧ wr.cell? ⟨b2, o2 + k * 2 + 1, none⟩ = some (.slice ta sl.length tc)) := ⟨c0, c1, d0, d1⟩
      clear hy1 hy2 hml c0 c1 d0 d1
      go_wp2_with fail
      go_region_held3 (fun W => W.cell? ⟨b1, o1 + k * 2, none⟩ = some (.int .i64 sn) ∧ W.cell? ⟨b1, o1 + k * 2 + 1, none⟩ = some (.slice sa sl.length sc) ∧ W.cell? ⟨b2, o2 + k * 2, none⟩ = some (.int .i64 sn) ∧ W.cell? ⟨b2, o2 + k * 2 + 1, none⟩ = some (.slice ta sl.length tc))
        (first | exact HC.out | exact HC8.out)
        (first
          | (go_at_call 60; refine (eqPend_yes sa ta sc tc sl sn _ (by exact HY1.out) (by exact HY2.out) HML.out).mono ?_; rintro e w8 ⟨rfl, hb8'⟩; have HB8 : Hid (Below w.heap.size w w8) := hbel.trans ((Below.drewS hb8').mono hbel.size); have HC8 : Hid (w8.cell? ⟨b1, o1 + k * 2, none⟩ = some (.int .i64 sn) ∧ w8.cell? ⟨b1, o1 + k * 2 + 1, none⟩ = some (.slice sa sl.length sc) ∧ w8.cell? ⟨b2, o2 + k * 2, none⟩ = some (.int .i64 sn) ∧ w8.cell? ⟨b2, o2 + k * 2 + 1, none⟩ = some (.slice ta sl.length tc)) := ⟨keep (Below.drewS hb8') hb1 HC.out.1, keep (Below.drewS hb8') hb1 HC.out.2.1, keep (Below.drewS hb8') hb2 HC.out.2.2.1, keep (Below.drewS hb8') hb2 HC.out.2.2.2⟩; clear hb8'))
      clear HC HC8
      go_wp2
      go_roundw
      case rel => exact ⟨k + 1, by omega, by go_num, HB8.out⟩
      case measure => simp [intOf]; omega
    · have hkn : k = n := by omega
      subst hkn
      go_wp2
      go_ret
      exact ⟨rfl, hbel⟩

set_option maxHeartbeats 1600000 in
theorem eqRaw_yes (sa pa ta qa : Option Addr) (sc pc tc qc : Nat) (ss ps ts qs : List El) (w : World) (ha : RawI w sa pa ss ps) (hb : RawI w ta qa ts qs) (h1 : ss.map El.ct = ts.map El.ct) (h2 : ps.map El.ct = qs.map El.ct) (hx : Few ss ps) :
    Calls Try.prog 13 #[.agg #[.slice sa ss.length sc, .slice pa ps.length pc], .agg #[.slice ta ss.length tc, .slice qa ps.length qc]] w fun e w' => e = .returned (.bool true) ∧ Below w.heap.size w w' := by
  have HA : Hid (RawI w sa pa ss ps ∧ RawI w ta qa ts qs) := ⟨ha, hb⟩
  have HC : Hid (ss.map El.ct = ts.map El.ct ∧ ps.map El.ct = qs.map El.ct) := ⟨h1, h2⟩
  have HX : Hid (Few ss ps) := hx
  clear ha hb h1 h2 hx
  go_enter Try.func13, Try.ntmps13
  have hw : Below w.heap.size w ((w.alloc (Obj.cells #[Value.slice sa ss.length sc, Value.slice pa ps.length pc] 30)).alloc (Obj.cells #[Value.slice ta ss.length tc, Value.slice qa ps.length qc] 30)) := ((Below.refl _ _).alloc (Nat.le_refl _) _).alloc (by simp) _
  have hx0 : Box2 ((w.alloc (Obj.cells #[Value.slice sa ss.length sc, Value.slice pa ps.length pc] 30)).alloc (Obj.cells #[Value.slice ta ss.length tc, Value.slice qa ps.length qc] 30)) w.heap.size (.slice sa ss.length sc) (.slice pa ps.length pc) := (Box2.new w _ _ 30).alloc _
  have hx1 : Box2 ((w.alloc (Obj.cells #[Value.slice sa ss.length sc, Value.slice pa ps.length pc] 30)).alloc (Obj.cells #[Value.slice ta ss.length tc, Value.slice qa ps.length qc] 30)) (w.heap.size + 1) (.slice ta ss.length tc) (.slice qa ps.length qc) := by
    have h9 := Box2.new (w.alloc (Obj.cells #[Value.slice sa ss.length sc, Value.slice pa ps.length pc] 30)) (.slice ta ss.length tc) (.slice qa ps.length qc) 30
    simpa using h9
  go_wp2_with fail
  have hsz : w.heap.size + 1 + 1 = ((w.alloc (Obj.cells #[Value.slice sa ss.length sc, Value.slice pa ps.length pc] 30)).alloc (Obj.cells #[Value.slice ta ss.length tc, Value.slice qa ps.length qc] 30)).heap.size := by simp
  generalize (w.alloc (Obj.cells #[Value.slice sa ss.length sc, Value.slice pa ps.length pc] 30)).alloc (Obj.cells #[Value.slice ta ss.length tc, Value.slice qa ps.length qc] 30) = W at *
  refine (eqByteSS_yes sa ta sc tc ss ts W (HA.out.1.1.below hw (Nat.le_refl _)) (HA.out.2.1.below hw (Nat.le_refl _)) HC.out.1 (by have := HX.out.n; omega) (fun s hs => by have := HX.out.l s hs; omega)).mono ?_
  rintro e w1 ⟨rfl, hb1⟩
  have hy0 := hx0.keep hb1 hx0.lt
  have hy1 := hx1.keep hb1 hx1.lt
  have HB1 : Hid (Below w.heap.size w w1) := hw.trans (hb1.mono hw.size)
  clear hb1 hw hx0 hx1 hsz
  obtain ⟨r0, r1, -, -, rl⟩ := hy0
  obtain ⟨s0, s1, -, -, sl⟩ := hy1
  go_wp2_with fail
  refine (eqPendS_yes pa qa pc qc ps qs w1 (HA.out.1.2.below HB1.out (Nat.le_refl _)) (HA.out.2.2.below HB1.out (Nat.le_refl _)) HC.out.2 (by have := HX.out.m; omega) (fun s hs => by have := HX.out.p s hs; omega)).mono ?_
  rintro e w2 ⟨rfl, hb2⟩
  have HB2 : Hid (Below w.heap.size w w2) := HB1.out.trans (hb2.mono HB1.out.size)
  clear hb2
  go_wp2
  go_ret
  exact ⟨rfl, HB2.out⟩
end Go.Proofs.Ytajhaoclkomjnaa
