/-
  LitsOf, both.
-/
import Derived.Test.YtgkcaohcgjcbnaaSqX
namespace Go.Proofs.Ytgkcaohcgjcbnaa
open Go.RowKit
set_option linter.unusedVariables false

/-- The letters of the first k. -/
def lib (ss : List Sq) : Nat → List Int
  | 0 => []
  | k + 1 => lib ss k ++ (ss.getD k dq).ls
theorem lib_le (ss : List Sq) (k : Nat) : (lib ss k).length ≤ (exb ss k).length := by
  induction k with
  | zero => simp [lib]
  | succ k ih => simp only [lib, exb, rep_len, List.length_append]; omega
theorem lib_ct {ss ts : List Sq} (h : ss.map Sq.ct = ts.map Sq.ct) (k : Nat) : lib ss k = lib ts k := by
  induction k with
  | zero => rfl
  | succ k ih =>
    have hg : (ss.getD k dq).ct = (ts.getD k dq).ct := by
      have : (ss.map Sq.ct).getD k dq.ct = (ts.map Sq.ct).getD k dq.ct := by rw [h]
      simpa [List.getD_eq_getElem?_getD, List.getElem?_map, Option.getD_map] using this
    simp only [Sq.ct, Prod.mk.injEq] at hg
    simp only [lib, ih, hg]

set_option maxRecDepth 20000 in
set_option maxHeartbeats 4000000 in
theorem specLitsOf_any (a : Option Addr) (cap : Nat) (ss : List Sq) (w : World) (hb : Sqs w a ss) (hx : ss.length ≤ 281474976710656) (hxl : ∀ s ∈ ss, s.ls.length ≤ 281474976710656) :
    Calls Try.prog 28 #[.slice a ss.length cap] w fun e w' => (∃ v, e = .returned v ∧ OVB w' w.heap.size v (if (sqn ss).isSome then lib ss ss.length else [])) ∧ Below w.heap.size w w' := by
  have HSO := specSeqsOk_any a cap ss w hb hx hxl
  cases hs : sqn ss with
  | none =>
    rw [hs] at HSO
    clear hs
    go_enter Try.func28, Try.ntmps28
    go_wp2_with fail
    refine HSO.mono ?_
    rintro e w1 ⟨rfl, hb1⟩
    clear HSO
    go_wp2
    go_ret
    exact ⟨⟨_, rfl, OVB.nil _ _⟩, hb1⟩
  | some m =>
    rw [hs] at HSO
    obtain ⟨h40, hm64, hel, hat⟩ := sqn_at hs
    have HLL : Hid (∀ k, k < ss.length → (lib ss k).length + (ss.getD k dq).ls.length ≤ 64) := fun k hk => by
      have h1 := lib_le ss k
      have h2 := (hat k hk).hl
      omega
    have HIF : Hid ((if (some m).isSome then lib ss ss.length else []) = lib ss ss.length) := rfl
    generalize (if (some m).isSome then lib ss ss.length else []) = R at *
    have HSS : Hid (Sqs w a ss) := hb
    clear hs hel hat hb
    generalize hlen : ss.length = n at *
    have HL : Hid (ss.length = n) := hlen
    clear hlen
    go_enter Try.func28, Try.ntmps28
    go_wp2_with fail
    refine HSO.mono ?_
    rintro e w1 ⟨rfl, hb1⟩
    clear HSO
    go_wp2
    go_loopw [3, 4] (fun x i wr => ∃ k : Nat, k ≤ n ∧ i = .int .i64 k ∧ OVB wr w.heap.size x (lib ss k) ∧ Below w.heap.size w wr) (fun _ i _ => n - (intOf i).toNat)
    case atStart => exact ⟨0, Nat.zero_le _, rfl, OVB.nil _ _, hb1⟩
    case round =>
      clear hb1
      obtain ⟨k, hk, rfl, hov, hbel⟩ := hrel
      obtain ⟨ax, cx, rfl⟩ := hov.form
      have HOV : Hid (OVB wr w.heap.size (.slice ax (lib ss k).length cx) (lib ss k)) := hov
      clear hov
      by_cases hlt : k < n
      · obtain ⟨b, off, rfl, hb1, hc1⟩ := (HSS.out.below hbel (Nat.le_refl _)).len_pos k (by rw [HL.out]; exact hlt)
        have hli := hc1 k (by rw [HL.out]; exact hlt)
        have hll := HLL.out k hlt
        have HEX : Hid (lib ss (k + 1) = lib ss k ++ (ss.getD k dq).ls) := rfl
        clear hc1
        generalize ss.getD k dq = s at *
        obtain ⟨sa, sc, sl, sn, sd⟩ := s
        obtain ⟨c0, c1, c2, hby⟩ := hli
        simp only at c0 c1 c2 hby hll HEX
        have HBY : Hid (Byt wr sa sl) := hby
        clear hby
        generalize hE : lib ss k = E at *
        generalize hEl : E.length = L at *
        have HEL : Hid (E.length = L) := hEl
        clear hEl hE
        have hsz := hbel.size
        go_wp2_with (at_builtin; (refine wpList_append_byt rfl (.tmp 14) (.tmp 19) rfl w.heap.size (.slice ax L cx) E rfl HOV.out sa sc sl rfl HBY.out (by have := HEL.out; omega) hsz ?_; intro v1 w1 hov1 hgr1))
        have HB1 : Hid (Below w.heap.size w w1) := appB_below hbel hsz HOV.out hgr1
        have HF : Hid (OVB w1 w.heap.size v1 (lib ss (k + 1))) := by rw [HEX.out]; exact hov1
        clear hov1 hgr1 HOV HBY c0 c1 c2 hbel hsz
        go_wp2
        go_roundw
        case rel => exact ⟨k + 1, by omega, by go_num, HF.out, HB1.out⟩
        case measure => simp [intOf]; omega
      · have hkn : k = n := by omega
        subst hkn
        go_wp2
        go_ret
        exact ⟨⟨_, rfl, by rw [HIF.out]; exact HOV.out⟩, hbel⟩

set_option maxRecDepth 20000 in
set_option maxHeartbeats 4000000 in
theorem implLitsOf_any (a : Option Addr) (cap : Nat) (ss : List Sq) (w : World) (hb : Sqs w a ss) (hx : ss.length ≤ 281474976710656) (hxl : ∀ s ∈ ss, s.ls.length ≤ 281474976710656) :
    Calls Try.prog 29 #[.slice a ss.length cap] w fun e w' => (∃ v, e = .returned v ∧ OVB w' w.heap.size v (if (sqn ss).isSome then lib ss ss.length else [])) ∧ Below w.heap.size w w' := by
  have HSO := implSeqsOk_any a cap ss w hb hx hxl
  cases hs : sqn ss with
  | none =>
    rw [hs] at HSO
    clear hs
    go_enter Try.func29, Try.ntmps29
    go_wp2_with fail
    refine HSO.mono ?_
    rintro e w1 ⟨rfl, hb1⟩
    clear HSO
    go_wp2
    go_ret
    exact ⟨⟨_, rfl, OVB.nil _ _⟩, hb1⟩
  | some m =>
    rw [hs] at HSO
    obtain ⟨h40, hm64, hel, hat⟩ := sqn_at hs
    have HLL : Hid (∀ k, k < ss.length → (lib ss k).length + (ss.getD k dq).ls.length ≤ 64) := fun k hk => by
      have h1 := lib_le ss k
      have h2 := (hat k hk).hl
      omega
    have HIF : Hid ((if (some m).isSome then lib ss ss.length else []) = lib ss ss.length) := rfl
    generalize (if (some m).isSome then lib ss ss.length else []) = R at *
    have HSS : Hid (Sqs w a ss) := hb
    clear hs hel hat hb
    generalize hlen : ss.length = n at *
    have HL : Hid (ss.length = n) := hlen
    clear hlen
    go_enter Try.func29, Try.ntmps29
    go_wp2_with fail
    refine HSO.mono ?_
    rintro e w1 ⟨rfl, hb1⟩
    clear HSO
    go_wp2
    go_loopw [3, 11] (fun x i wr => ∃ k : Nat, k ≤ n ∧ i = .int .i64 k ∧ OVB wr w.heap.size x (lib ss k) ∧ Below w.heap.size w wr) (fun _ i _ => n - (intOf i).toNat)
    case atStart => exact ⟨0, Nat.zero_le _, rfl, OVB.nil _ _, hb1⟩
    case round =>
      clear hb1
      obtain ⟨k, hk, rfl, hov, hbel⟩ := hrel
      obtain ⟨ax, cx, rfl⟩ := hov.form
      have HOV : Hid (OVB wr w.heap.size (.slice ax (lib ss k).length cx) (lib ss k)) := hov
      clear hov
      by_cases hlt : k < n
      · obtain ⟨b, off, rfl, hb1, hc1⟩ := (HSS.out.below hbel (Nat.le_refl _)).len_pos k (by rw [HL.out]; exact hlt)
        have hli := hc1 k (by rw [HL.out]; exact hlt)
        have hll := HLL.out k hlt
        have HEX : Hid (lib ss (k + 1) = lib ss k ++ (ss.getD k dq).ls) := rfl
        clear hc1
        generalize ss.getD k dq = s at *
        obtain ⟨sa, sc, sl, sn, sd⟩ := s
        obtain ⟨c0, c1, c2, hby⟩ := hli
        simp only at c0 c1 c2 hby hll HEX
        generalize hE : lib ss k = E at *
        generalize hEl : E.length = L at *
        have HEL : Hid (E.length = L) := hEl
        clear hEl hE
        have hsz := hbel.size
        have HBY : Hid (Byt (wr.alloc (Obj.cells #[Value.slice sa sl.length sc, Value.int IntKind.i64 sn, Value.int IntKind.i64 sd] 47)) sa sl) := hby.alloc _
        have HOA : Hid (OVB (wr.alloc (Obj.cells #[Value.slice sa sl.length sc, Value.int IntKind.i64 sn, Value.int IntKind.i64 sd] 47)) w.heap.size (.slice ax L cx) E) := HOV.out.alloc _
        have HBA : Hid (Below w.heap.size w (wr.alloc (Obj.cells #[Value.slice sa sl.length sc, Value.int IntKind.i64 sn, Value.int IntKind.i64 sd] 47))) := hbel.alloc hsz _
        have hza : w.heap.size ≤ (wr.alloc (Obj.cells #[Value.slice sa sl.length sc, Value.int IntKind.i64 sn, Value.int IntKind.i64 sd] 47)).heap.size := by simp; omega
        clear hby HOV
        go_wp2_with (at_builtin; (refine wpList_append_byt rfl (.tmp 15) (.tmp 17) rfl w.heap.size (.slice ax L cx) E rfl HOA.out sa sc sl rfl HBY.out (by have := HEL.out; omega) hza ?_; intro v1 w1 hov1 hgr1))
        have HB1 : Hid (Below w.heap.size w w1) := appB_below HBA.out hza HOA.out hgr1
        have HF : Hid (OVB w1 w.heap.size v1 (lib ss (k + 1))) := by rw [HEX.out]; exact hov1
        clear hov1 hgr1 HOA HBA HBY c0 c1 c2 hbel hsz hza
        go_wp2
        go_roundw
        case rel => exact ⟨k + 1, by omega, by go_num, HF.out, HB1.out⟩
        case measure => simp [intOf]; omega
      · have hkn : k = n := by omega
        subst hkn
        go_wp2
        go_ret
        exact ⟨⟨_, rfl, by rw [HIF.out]; exact HOV.out⟩, hbel⟩
end Go.Proofs.Ytgkcaohcgjcbnaa
