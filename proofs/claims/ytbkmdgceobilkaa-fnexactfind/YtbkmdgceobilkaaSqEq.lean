/-
  eqSeq and eqSeqS answer true of what says the same.
-/
import Derived.Test.YtbkmdgceobilkaaSqP
import Derived.Test.YtbkmdgceobilkaaEqS
import Derived.Deep.RegionHeld3
namespace Go.Proofs.Ytbkmdgceobilkaa
open Go.RowKit
set_option linter.unusedVariables false

theorem below_dSq {B : Nat} {a b : World} (h : Below B a b) (n : Nat) : Below B a (b.drewN n) := ⟨h.os, h.tape, h.output, h.size, h.block⟩

set_option maxHeartbeats 800000 in
theorem eqSeq_yes (a b : Option Addr) (ca cb : Nat) (xs : List Int) (n d : Int) (w : World) (ha : Byt w a xs) (hb : Byt w b xs) (hx : xs.length ≤ 281474976710656) :
    Calls Try.prog 21 #[.agg #[.slice a xs.length ca, .int .i64 n, .int .i64 d], .agg #[.slice b xs.length cb, .int .i64 n, .int .i64 d]] w fun e w' => e = .returned (.bool true) ∧ Below w.heap.size w w' := by
  have hw : Below w.heap.size w ((w.alloc (Obj.cells #[Value.slice a xs.length ca, Value.int IntKind.i64 n, Value.int IntKind.i64 d] 43)).alloc (Obj.cells #[Value.slice b xs.length cb, Value.int IntKind.i64 n, Value.int IntKind.i64 d] 43)) :=
    ((Below.refl _ _).alloc (Nat.le_refl _) _).alloc (by simp) _
  have hnn : (n != n) = false := by simp
  have hdd : (d != d) = false := by simp
  go_enter Try.func21, Try.ntmps21
  go_wp2_with fail
  refine (eqByteS_yes a b ca cb xs _ (ha.below hw (Nat.le_refl _)) (hb.below hw (Nat.le_refl _)) hx).mono ?_
  rintro e w1 ⟨rfl, nq, rfl⟩
  go_wp2
  go_ret
  exact ⟨rfl, below_dSq hw _⟩

theorem ct_get {ss ts : List Sq} (h : ss.map Sq.ct = ts.map Sq.ct) (k : Nat) : (ss.getD k dq).ct = (ts.getD k dq).ct := by
  have : (ss.map Sq.ct).getD k dq.ct = (ts.map Sq.ct).getD k dq.ct := by rw [h]
  simpa [List.getD_eq_getElem?_getD, List.getElem?_map, Option.getD_map] using this

set_option maxHeartbeats 1600000 in
theorem eqSeqS_yes (a b : Option Addr) (ca cb : Nat) (ss ts : List Sq) (w : World) (ha : Sqs w a ss) (hb : Sqs w b ts) (hct : ss.map Sq.ct = ts.map Sq.ct) (hx : ss.length ≤ 281474976710656) (hxl : ∀ s ∈ ss, s.ls.length ≤ 281474976710656) :
    Calls Try.prog 11 #[.slice a ss.length ca, .slice b ss.length cb] w fun e w' => e = .returned (.bool true) ∧ Below w.heap.size w w' := by
  have htl : ts.length = ss.length := by have := congrArg List.length hct; simpa using this.symm
  have HA : Hid (Sqs w a ss) := ha
  have HB : Hid (Sqs w b ts) := hb
  have HCT : Hid (ss.map Sq.ct = ts.map Sq.ct) := hct
  have HTL : Hid (ts.length = ss.length) := htl
  have HXL : Hid (∀ s ∈ ss, s.ls.length ≤ 281474976710656) := hxl
  clear ha hb hct htl hxl
  generalize hlen : ss.length = n at *
  have HL : Hid (ss.length = n) := hlen
  clear hlen
  have hnn : ((n : Int) != (n : Int)) = false := by simp
  go_enter Try.func11, Try.ntmps11
  go_wp2
  go_loopw [5] (fun i wr => ∃ k : Nat, k ≤ n ∧ i = .int .i64 k ∧ Below w.heap.size w wr) (fun i _ => n - (intOf i).toNat)
  case atStart => exact ⟨0, Nat.zero_le _, rfl, Below.refl _ _⟩
  case round =>
    obtain ⟨k, hk, rfl, hbel⟩ := hrel
    by_cases hlt : k < n
    · obtain ⟨b1, o1, rfl, hb1, hc1⟩ := (HA.out.below hbel (Nat.le_refl _)).len_pos k (by rw [HL.out]; exact hlt)
      obtain ⟨b2, o2, rfl, hb2, hc2⟩ := (HB.out.below hbel (Nat.le_refl _)).len_pos k (by rw [HTL.out]; exact hlt)
      have l1 := hc1 k (by rw [HL.out]; exact hlt)
      have l2 := hc2 k (by rw [HTL.out]; exact hlt)
      have hml := HXL.out _ (getD_memS (k := k) (by rw [HL.out]; exact hlt))
      have hce := ct_get HCT.out k
      clear hc1 hc2
      generalize ss.getD k dq = s at *
      generalize ts.getD k dq = t at *
      obtain ⟨sa, sc, sl, sn, sd⟩ := s
      obtain ⟨ta, tc, tl, tn, td⟩ := t
      simp only [Sq.ct, Prod.mk.injEq] at hce
      obtain ⟨rfl, rfl, rfl⟩ := hce
      obtain ⟨c0, c1, c2, hy1⟩ := l1
      obtain ⟨d0, d1, d2, hy2⟩ := l2
      simp only at c0 c1 c2 d0 d1 d2 hy1 hy2 hml
      have HY1 : Hid (Byt wr sa sl) := hy1
      have HY2 : Hid (Byt wr ta sl) := hy2
      have HML : Hid (sl.length ≤ 281474976710656) := hml
      have HC : Hid (wr.cell? ⟨b1, o1 + k * 3, none⟩ = some (.slice sa sl.length sc) ∧ wr.cell? ⟨b1, o1 + k * 3 + 1, none⟩ = some (.int .i64 sn) ∧ wr.cell? ⟨b1, o1 + k * 3 + 2, none⟩ = some (.int .i64 sd) ∧ wr.cell? ⟨b2, o2 + k * 3, none⟩ = some (.slice ta sl.length tc) ∧ wr.cell? ⟨b2, o2 + k * 3 + 1, none⟩ = some (.int .i64 sn) ∧ wr.cell? ⟨b2, o2 + k * 3 + 2, none⟩ = some (.int .i64 sd)) := ⟨c0, c1, c2, d0, d1, d2⟩
      clear hy1 hy2 hml c0 c1 c2 d0 d1 d2
      go_wp2_with fail
      go_region_held3 (fun W => W.cell? ⟨b1, o1 + k * 3, none⟩ = some (.slice sa sl.length sc) ∧ W.cell? ⟨b1, o1 + k * 3 + 1, none⟩ = some (.int .i64 sn) ∧ W.cell? ⟨b1, o1 + k * 3 + 2, none⟩ = some (.int .i64 sd) ∧ W.cell? ⟨b2, o2 + k * 3, none⟩ = some (.slice ta sl.length tc) ∧ W.cell? ⟨b2, o2 + k * 3 + 1, none⟩ = some (.int .i64 sn) ∧ W.cell? ⟨b2, o2 + k * 3 + 2, none⟩ = some (.int .i64 sd))
        (first | exact HC.out | exact HC8.out)
        (first
          | (go_at_call 21; refine (eqSeq_yes sa ta sc tc sl sn sd _ (by exact HY1.out) (by exact HY2.out) HML.out).mono ?_; rintro e w8 ⟨rfl, hb8'⟩; have HB8 : Hid (Below w.heap.size w w8) := hbel.trans ((Below.drewS hb8').mono hbel.size); have HC8 : Hid (w8.cell? ⟨b1, o1 + k * 3, none⟩ = some (.slice sa sl.length sc) ∧ w8.cell? ⟨b1, o1 + k * 3 + 1, none⟩ = some (.int .i64 sn) ∧ w8.cell? ⟨b1, o1 + k * 3 + 2, none⟩ = some (.int .i64 sd) ∧ w8.cell? ⟨b2, o2 + k * 3, none⟩ = some (.slice ta sl.length tc) ∧ w8.cell? ⟨b2, o2 + k * 3 + 1, none⟩ = some (.int .i64 sn) ∧ w8.cell? ⟨b2, o2 + k * 3 + 2, none⟩ = some (.int .i64 sd)) := ⟨keep (Below.drewS hb8') hb1 HC.out.1, keep (Below.drewS hb8') hb1 HC.out.2.1, keep (Below.drewS hb8') hb1 HC.out.2.2.1, keep (Below.drewS hb8') hb2 HC.out.2.2.2.1, keep (Below.drewS hb8') hb2 HC.out.2.2.2.2.1, keep (Below.drewS hb8') hb2 HC.out.2.2.2.2.2⟩; clear hb8'))
      clear HC HC8
      go_wp2
      go_roundw
      case rel => exact ⟨k + 1, by omega, by go_num, HB8.out⟩
      case measure => simp [intOf]; omega
    · have hkn : k = n := by omega
      subst hkn
      go_wp2
      go_ret
      exact ⟨rfl, hbel⟩
end Go.Proofs.Ytbkmdgceobilkaa
