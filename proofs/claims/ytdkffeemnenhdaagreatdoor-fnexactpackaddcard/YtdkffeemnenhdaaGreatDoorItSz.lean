/-
  What szPack answers: below 0, or there is not too much.
-/
import Derived.Test.YtdkffeemnenhdaaGreatDoorNum
import Derived.Test.YtdkffeemnenhdaaGreatDoorItTo
namespace Go.Proofs.YtdkffeemnenhdaaGreatDoor
open Go.RowKit
set_option linter.unusedVariables false

set_option maxHeartbeats 400000 in
theorem szByteS_any (a : Option Addr) (n cap : Nat) (left : Int) (w : World) (hn : n ≤ maxLen) (h0 : 0 ≤ left) (h1 : left ≤ 1048576) :
    Calls Tryz.prog 43 #[.slice a n cap, .int .i64 left] w fun e w' => e = .returned (.int .i64 (if (n : Int) ≤ left then left - n else -1)) ∧ w' = w := by
  unfold maxLen at hn
  by_cases h : (n : Int) ≤ left
  · go_enter Tryz.func43, Tryz.ntmps43
    go_wp2
    go_ret
    exact ⟨rfl, rfl⟩
  · go_enter Tryz.func43, Tryz.ntmps43
    go_wp2
    go_ret
    exact ⟨rfl, rfl⟩

end Go.Proofs.YtdkffeemnenhdaaGreatDoor
namespace Go.Proofs.YtdkffeemnenhdaaGreatDoor
open Go.RowKit
set_option linter.unusedVariables false

set_option maxHeartbeats 800000 in
theorem szItem_any (n : Int) (a : Option Addr) (cap : Nat) (zs : List Int) (left : Int) (w : World) (hn : zs.length ≤ maxLen) (h0 : 0 ≤ left) (h1 : left ≤ 1048576) :
    Calls Tryz.prog 16 #[.agg #[.int .i64 n, .slice a zs.length cap], .int .i64 left] w fun e w' => e = .returned (.int .i64 (if (zs.length : Int) ≤ left then left - zs.length else -1)) ∧ Below w.heap.size w w' := by
  by_cases h : (zs.length : Int) ≤ left
  · go_enter Tryz.func16, Tryz.ntmps16
    go_wp2_with (go_at_call 43; refine (szByteS_any _ _ _ _ _ hn h0 h1).mono ?_; rintro e w' ⟨rfl, rfl⟩; rw [if_pos h])
    go_ret
    exact ⟨rfl, (Below.refl _ _).alloc (Nat.le_refl _) _⟩
  · go_enter Tryz.func16, Tryz.ntmps16
    go_wp2_with (go_at_call 43; refine (szByteS_any _ _ _ _ _ hn h0 h1).mono ?_; rintro e w' ⟨rfl, rfl⟩; rw [if_neg h])
    go_ret
    exact ⟨rfl, (Below.refl _ _).alloc (Nat.le_refl _) _⟩

set_option maxHeartbeats 1600000 in
theorem szItemS_any (a : Option Addr) (cap : Nat) (ss : List El) (left : Int) (w : World) (hb : Els true w a ss) (hm : ss.length ≤ maxLen) (h0 : 0 ≤ left) (h1 : left ≤ 1048576) :
    Calls Tryz.prog 34 #[.slice a ss.length cap, .int .i64 left] w fun e w' => (∃ z : Int, e = .returned (.int .i64 z) ∧ (z = -1 ∨ (0 ≤ z ∧ z ≤ left ∧ z + ss.length + elets ss = left))) ∧ Below w.heap.size w w' := by
  have HSS : Hid (Els true w a ss) := hb
  unfold maxLen at hm
  clear hb
  have HEL : Hid (elets (ss.take ss.length) = elets ss ∧ True) := ⟨by rw [List.take_length], trivial⟩
  generalize hlen : ss.length = n at *
  have HL : Hid (ss.length = n ∧ True) := ⟨hlen, trivial⟩
  clear hlen
  by_cases hn : (n : Int) ≤ left
  · go_enter Tryz.func34, Tryz.ntmps34
    go_wp2
    go_loopw [1, 5] (fun l i wr => ∃ (k : Nat) (z : Int), k ≤ n ∧ i = .int .i64 k ∧ l = .int .i64 z ∧ 0 ≤ z ∧ z ≤ 1048576 ∧ z ≤ left ∧ (n : Int) + (elets (ss.take k) : Nat) + z = left ∧ Below w.heap.size w wr) (fun _ i _ => n - (intOf i).toNat)
    case atStart => exact ⟨0, left - n, Nat.zero_le _, rfl, rfl, by omega, by omega, by omega, by simp [elets]; omega, Below.refl _ _⟩
    case round =>
      obtain ⟨k, z, hk, rfl, rfl, hz0, hz1, hz2, hsum, hbel⟩ := hrel
      have HSUM : Hid ((n : Int) + (elets (ss.take k) : Nat) + z = left ∧ True) := ⟨hsum, trivial⟩
      clear hsum
      by_cases hlt : k < n
      · obtain ⟨b, off, rfl, hb1, c0, c1, hby, hrg⟩ := (HSS.out.below hbel (Nat.le_refl _)).pen k (by rw [HL.out.1]; exact hlt)
        have HT : Hid (elets (ss.take (k + 1)) = elets (ss.take k) + (ss.getD k de).ls.length ∧ True) := ⟨elets_take_succ ss k (by rw [HL.out.1]; exact hlt), trivial⟩
        generalize ss.getD k de = s at *
        obtain ⟨sn, sa, sc, sl⟩ := s
        simp only at c0 c1 HT
        have hml := hrg.len
        simp only at hml
        clear hby hrg
        have HSZ := szItem_any sn sa sc sl z wr hml hz0 hz1
        go_wp2_with fail
        refine HSZ.mono ?_
        clear HSZ
        rintro e w1 ⟨rfl, hb2⟩
        have HB2 : Hid (Below w.heap.size w w1) := hbel.trans (hb2.mono hbel.size)
        clear hb2 hbel c0 c1
        by_cases hc : (sl.length : Int) ≤ z
        · rw [if_pos hc]
          have HS2 : Hid ((n : Int) + (elets (ss.take (k + 1)) : Nat) + (z - sl.length) = left ∧ True) := by
            have h1 := HSUM.out.1
            have h2 := HT.out.1
            exact ⟨by omega, trivial⟩
          go_wp2
          go_roundw
          case rel => exact ⟨k + 1, z - sl.length, by omega, by go_num, rfl, by omega, by omega, by omega, HS2.out.1, HB2.out⟩
          case measure => simp [intOf]; omega
        · rw [if_neg hc]
          go_wp2
          go_ret
          exact ⟨⟨-1, rfl, .inl rfl⟩, HB2.out⟩
      · have hkn : k = n := by omega
        subst hkn
        have HF : Hid (z + (k : Int) + elets ss = left ∧ True) := by
          have h1 := HSUM.out.1
          rw [HEL.out.1] at h1
          exact ⟨by omega, trivial⟩
        go_wp2
        go_ret
        exact ⟨⟨z, rfl, .inr ⟨hz0, hz2, HF.out.1⟩⟩, hbel⟩
  · go_enter Tryz.func34, Tryz.ntmps34
    go_wp2
    go_ret
    exact ⟨⟨-1, rfl, .inl rfl⟩, Below.refl _ _⟩

/-- What is asked of items that are not too many. -/
structure FewI (es : List El) : Prop where
  n : es.length ≤ 1048576
  l : ∀ s ∈ es, s.ls.length ≤ 1048576
  sum : es.length + elets es ≤ 1048576
theorem FewI.mk' {es : List El} (h : es.length + elets es ≤ 1048576) : FewI es := ⟨by omega, fun s hs => by have := elets_mem hs; omega, h⟩
theorem FewI.ct {es ts : List El} (h : FewI es) (h1 : ts.map El.ct = es.map El.ct) : FewI ts := FewI.mk' (by rw [len_ctE h1, elets_ct _ _ h1]; exact h.sum)

set_option maxHeartbeats 1600000 in
theorem szPack_any (E O : Int) (a : Option Addr) (cap : Nat) (es : List El) (w : World) (hb : Els true w a es) (hm : es.length ≤ maxLen) (left : Int) (h0 : 0 ≤ left) (h1 : left ≤ 1048576) :
    Calls Tryz.prog 9 #[.agg #[.int .i64 E, .int .i64 O, .slice a es.length cap], .int .i64 left] w fun e w' => (∃ z : Int, e = .returned (.int .i64 z) ∧ (z = -1 ∨ (0 ≤ z ∧ z ≤ left ∧ z + es.length + elets es = left))) ∧ Below w.heap.size w w' := by
  have hw : Below w.heap.size w (w.alloc (Obj.cells #[Value.int IntKind.i64 E, Value.int IntKind.i64 O, Value.slice a es.length cap] 24)) := (Below.refl _ _).alloc (Nat.le_refl _) _
  have HS := szItemS_any a cap es left _ (hb.below hw (Nat.le_refl _)) hm h0 h1
  clear hb hm
  go_enter Tryz.func9, Tryz.ntmps9
  go_wp2_with fail
  refine HS.mono ?_
  clear HS
  rintro e w1 ⟨⟨z, rfl, hz⟩, hb1⟩
  have HB1 : Hid (Below w.heap.size w w1) := hw.trans (hb1.mono (by simp))
  clear hw hb1
  rcases hz with rfl | ⟨hz0, hz1, hz2⟩
  · go_wp2
    go_ret
    exact ⟨⟨-1, rfl, .inl rfl⟩, HB1.out⟩
  · have HZ : Hid (z + (es.length : Int) + elets es = left ∧ True) := ⟨hz2, trivial⟩
    clear hz2
    go_wp2
    go_ret
    exact ⟨⟨z, rfl, .inr ⟨hz0, hz1, HZ.out.1⟩⟩, HB1.out⟩
end Go.Proofs.YtdkffeemnenhdaaGreatDoor
