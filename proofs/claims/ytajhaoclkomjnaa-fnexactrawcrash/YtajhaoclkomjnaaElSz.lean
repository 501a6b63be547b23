/-
  What szRaw answers: below 0, or there is not too much.
-/
import Derived.Test.YtajhaoclkomjnaaElTo
import Derived.Test.YtajhaoclkomjnaaSzS
namespace Go.Proofs.Ytajhaoclkomjnaa
open Go.RowKit
set_option linter.unusedVariables false

/-- How many bytes there are in all. -/
def elets : List El → Nat
  | [] => 0
  | s :: ss => s.ls.length + elets ss
theorem elets_app (a b : List El) : elets (a ++ b) = elets a + elets b := by
  induction a with
  | nil => simp [elets]
  | cons s a ih => simp only [List.cons_append, elets, ih]; omega
theorem elets_take_succ (ss : List El) (k : Nat) (h : k < ss.length) : elets (ss.take (k + 1)) = elets (ss.take k) + (ss.getD k de).ls.length := by
  rw [List.take_succ_eq_append_getElem h, elets_app]
  simp [elets, List.getD_eq_getElem?_getD, List.getElem?_eq_getElem h]
theorem elets_take_le (ss : List El) (k : Nat) : elets (ss.take k) ≤ elets ss := by
  have h1 := elets_app (ss.take k) (ss.drop k)
  rw [List.take_append_drop] at h1
  omega
theorem elets_mem {s : El} {ss : List El} (h : s ∈ ss) : s.ls.length ≤ elets ss := by
  induction ss with
  | nil => cases h
  | cons x ss ih =>
    rcases List.mem_cons.1 h with rfl | h
    · simp only [elets]; omega
    · have := ih h; simp only [elets]; omega
theorem elets_ct (ss ts : List El) (h : ss.map El.ct = ts.map El.ct) : elets ss = elets ts := by
  induction ss generalizing ts with
  | nil => cases ts with
    | nil => rfl
    | cons t ts => simp at h
  | cons s ss ih => cases ts with
    | nil => simp at h
    | cons t ts =>
      simp only [List.map_cons, List.cons.injEq] at h
      have h1 : s.ls = t.ls := by have := congrArg Prod.snd h.1; exact this
      simp only [elets, h1, ih ts h.2]

set_option maxHeartbeats 1600000 in
theorem szByteSS_any (a : Option Addr) (cap : Nat) (ss : List El) (left : Int) (w : World) (hb : Els false w a ss) (hm : ss.length ≤ maxLen) (h0 : 0 ≤ left) (h1 : left ≤ 1048576) :
    Calls Try.prog 33 #[.slice a ss.length cap, .int .i64 left] w fun e w' => (∃ z : Int, e = .returned (.int .i64 z) ∧ (z = -1 ∨ (0 ≤ z ∧ z ≤ left ∧ z + ss.length + elets ss = left))) ∧ w' = w := by
  have HSS : Hid (Els false w a ss) := hb
  unfold maxLen at hm
  clear hb
  have HEL : Hid (elets (ss.take ss.length) = elets ss ∧ True) := ⟨by rw [List.take_length], trivial⟩
  generalize hlen : ss.length = n at *
  have HL : Hid (ss.length = n ∧ True) := ⟨hlen, trivial⟩
  clear hlen
  by_cases hn : (n : Int) ≤ left
  · go_enter Try.func33, Try.ntmps33
    go_wp2
    go_loop [1, 5] (fun l i => ∃ (k : Nat) (z : Int), k ≤ n ∧ i = .int .i64 k ∧ l = .int .i64 z ∧ 0 ≤ z ∧ z ≤ 1048576 ∧ z ≤ left ∧ (n : Int) + (elets (ss.take k) : Nat) + z = left) (fun _ i => n - (intOf i).toNat)
    case atStart => exact ⟨0, left - n, Nat.zero_le _, rfl, rfl, by omega, by omega, by omega, by simp [elets]; omega⟩
    case round =>
      obtain ⟨k, z, hk, rfl, rfl, hz0, hz1, hz2, hsum⟩ := hrel
      have HSUM : Hid ((n : Int) + (elets (ss.take k) : Nat) + z = left ∧ True) := ⟨hsum, trivial⟩
      clear hsum
      by_cases hlt : k < n
      · obtain ⟨b, off, rfl, hb1, c0, hby, hrg⟩ := HSS.out.sec k (by rw [HL.out.1]; exact hlt)
        have HT : Hid (elets (ss.take (k + 1)) = elets (ss.take k) + (ss.getD k de).ls.length ∧ True) := ⟨elets_take_succ ss k (by rw [HL.out.1]; exact hlt), trivial⟩
        generalize ss.getD k de = s at *
        obtain ⟨sn, sa, sc, sl⟩ := s
        simp only at c0 HT
        have hml := hrg.len
        simp only at hml
        clear hby hrg
        have HSZ := szByteS_any sa sl.length sc z w hml hz0 hz1
        go_wp2_with fail
        refine HSZ.mono ?_
        clear HSZ
        rintro e w1 ⟨rfl, rfl⟩
        by_cases hc : (sl.length : Int) ≤ z
        · rw [if_pos hc]
          have HS2 : Hid ((n : Int) + (elets (ss.take (k + 1)) : Nat) + (z - sl.length) = left ∧ True) := by
            have h1 := HSUM.out.1
            have h2 := HT.out.1
            exact ⟨by omega, trivial⟩
          go_wp2
          go_round
          case rel => exact ⟨k + 1, z - sl.length, by omega, by go_num, rfl, by omega, by omega, by omega, HS2.out.1⟩
          case measure => simp [intOf]; omega
        · rw [if_neg hc]
          go_wp2
          go_ret
          exact ⟨⟨-1, rfl, .inl rfl⟩, rfl⟩
      · have hkn : k = n := by omega
        subst hkn
        have HF : Hid (z + (k : Int) + elets ss = left ∧ True) := by
          have h1 := HSUM.out.1
          rw [HEL.out.1] at h1
          exact ⟨by omega, trivial⟩
        go_wp2
        go_ret
        exact ⟨⟨z, rfl, .inr ⟨hz0, hz2, HF.out.1⟩⟩, rfl⟩
  · go_enter Try.func33, Try.ntmps33
    go_wp2
    go_ret
    exact ⟨⟨-1, rfl, .inl rfl⟩, rfl⟩

set_option maxHeartbeats 800000 in
theorem szPend_any (n : Int) (a : Option Addr) (cap : Nat) (zs : List Int) (left : Int) (w : World) (hn : zs.length ≤ maxLen) (h0 : 0 ≤ left) (h1 : left ≤ 1048576) :
    Calls Try.prog 58 #[.agg #[.int .i64 n, .slice a zs.length cap], .int .i64 left] w fun e w' => e = .returned (.int .i64 (if (zs.length : Int) ≤ left then left - zs.length else -1)) ∧ Below w.heap.size w w' := by
  by_cases h : (zs.length : Int) ≤ left
  · go_enter Try.func58, Try.ntmps58
    go_wp2_with (go_at_call 57; refine (szByteS_any _ _ _ _ _ hn h0 h1).mono ?_; rintro e w' ⟨rfl, rfl⟩; rw [if_pos h])
    go_ret
    exact ⟨rfl, (Below.refl _ _).alloc (Nat.le_refl _) _⟩
  · go_enter Try.func58, Try.ntmps58
    go_wp2_with (go_at_call 57; refine (szByteS_any _ _ _ _ _ hn h0 h1).mono ?_; rintro e w' ⟨rfl, rfl⟩; rw [if_neg h])
    go_ret
    exact ⟨rfl, (Below.refl _ _).alloc (Nat.le_refl _) _⟩

set_option maxHeartbeats 1600000 in
theorem szPendS_any (a : Option Addr) (cap : Nat) (ss : List El) (left : Int) (w : World) (hb : Els true w a ss) (hm : ss.length ≤ maxLen) (h0 : 0 ≤ left) (h1 : left ≤ 1048576) :
    Calls Try.prog 34 #[.slice a ss.length cap, .int .i64 left] w fun e w' => (∃ z : Int, e = .returned (.int .i64 z) ∧ (z = -1 ∨ (0 ≤ z ∧ z ≤ left ∧ z + ss.length + elets ss = left))) ∧ Below w.heap.size w w' := by
  have HSS : Hid (Els true w a ss) := hb
  unfold maxLen at hm
  clear hb
  have HEL : Hid (elets (ss.take ss.length) = elets ss ∧ True) := ⟨by rw [List.take_length], trivial⟩
  generalize hlen : ss.length = n at *
  have HL : Hid (ss.length = n ∧ True) := ⟨hlen, trivial⟩
  clear hlen
  by_cases hn : (n : Int) ≤ left
  · go_enter Try.func34, Try.ntmps34
    go_wp2
    go_loopw [1, 5] (fun l i wr => ∃ (k : Nat) (z : Int), k ≤ n ∧ i = .int .i64 k ∧ l = .int .i64 z ∧ 0 ≤ z ∧ z ≤ 1048576 ∧ z ≤ left ∧ (n : Int) + (elets (ss.take k) : Nat) + z = left ∧ Below w.heap.size w wr) (fun _ i _ => n - (intOf i).toNat)
    case atStart => exact ⟨0, left - n, Nat.zero_le _, rfl, rfl, by omega, by omega, by omega, by simp [elets]; omega, Below.refl _ _⟩
    case round =>
      obtain ⟨k, z, hk, rfl, rfl, hz0, hz1, hz2, hsum, hbel⟩ := hrel
      have HSUM : Hid ((n : Int) + (elets (ss.take k) : Nat) + z = left ∧ True) := ⟨hsum, trivial⟩
      clear hsum
      by_cases hlt : k < n
      · obtain ⟨b, off, rfl, hb1, c0, c1, hby, hrg⟩ := (HSS.out.below hbel (Nat.le_refl _)).pen k (by rw [HL.out.1]; exact hlt)
        have HT : Hid (elets (ss.take (k + 1)) = elets (ss.take k) + (ss.getD k de).ls.length ∧ True) := ⟨elets_take_succ ss k (by rw [HL.out.1]; exact hlt), trivial⟩
        generalize ss.getD k de = s at *
        obtain ⟨sn, sa, sc, sl⟩ := s
        simp only at c0 c1 HT
        have hml := hrg.len
        simp only at hml
        clear hby hrg
        have HSZ := szPend_any sn sa sc sl z wr hml hz0 hz1
        go_wp2_with fail
        refine HSZ.mono ?_
        clear HSZ
        rintro e w1 ⟨rfl, hb2⟩
        have HB2 : Hid (Below w.heap.size w w1) := hbel.trans (hb2.mono hbel.size)
        clear hb2 hbel c0 c1
        by_cases hc : (sl.length : Int) ≤ z
        · rw [if_pos hc]
          have HS2 : Hid ((n : Int) + (elets (ss.take (k + 1)) : Nat) + (z - sl.length) = left ∧ True) := by
            have h1 := HSUM.out.1
            have h2 := HT.out.1
            exact ⟨by omega, trivial⟩
          go_wp2
          go_roundw
          case rel => exact ⟨k + 1, z - sl.length, by omega, by go_num, rfl, by omega, by omega, by omega, HS2.out.1, HB2.out⟩
          case measure => simp [intOf]; omega
        · rw [if_neg hc]
          go_wp2
          go_ret
          exact ⟨⟨-1, rfl, .inl rfl⟩, HB2.out⟩
      · have hkn : k = n := by omega
        subst hkn
        have HF : Hid (z + (k : Int) + elets ss = left ∧ True) := by
          have h1 := HSUM.out.1
          rw [HEL.out.1] at h1
          exact ⟨by omega, trivial⟩
        go_wp2
        go_ret
        exact ⟨⟨z, rfl, .inr ⟨hz0, hz2, HF.out.1⟩⟩, hbel⟩
  · go_enter Try.func34, Try.ntmps34
    go_wp2
    go_ret
    exact ⟨⟨-1, rfl, .inl rfl⟩, Below.refl _ _⟩

/-- What is asked of a device that is not too big. -/
structure Few (ss ps : List El) : Prop where
  n : ss.length ≤ 1048576
  m : ps.length ≤ 1048576
  l : ∀ s ∈ ss, s.ls.length ≤ 1048576
  p : ∀ s ∈ ps, s.ls.length ≤ 1048576
  sum : ss.length + elets ss + ps.length + elets ps ≤ 1048576
theorem Few.mk' {ss ps : List El} (h : ss.length + elets ss + ps.length + elets ps ≤ 1048576) : Few ss ps :=
  ⟨by omega, by omega, fun s hs => by have := elets_mem hs; omega, fun s hs => by have := elets_mem hs; omega, h⟩
theorem Few.ct {ss ps ts qs : List El} (h : Few ss ps) (h1 : ts.map El.ct = ss.map El.ct) (h2 : qs.map El.ct = ps.map El.ct) : Few ts qs :=
  Few.mk' (by rw [len_ctE h1, len_ctE h2, elets_ct _ _ h1, elets_ct _ _ h2]; exact h.sum)

set_option maxHeartbeats 1600000 in
theorem szRaw_any (sa pa : Option Addr) (sc pc : Nat) (ss ps : List El) (w : World) (hb : RawI w sa pa ss ps) (hm1 : ss.length ≤ maxLen) (hm2 : ps.length ≤ maxLen) :
    Calls Try.prog 9 #[.agg #[.slice sa ss.length sc, .slice pa ps.length pc], .int .i64 1048576] w fun e w' => (∃ z : Int, e = .returned (.int .i64 z) ∧ (z = -1 ∨ (0 ≤ z ∧ Few ss ps))) ∧ Below w.heap.size w w' := by
  have HB : Hid (RawI w sa pa ss ps) := hb
  have HM : Hid (ss.length ≤ maxLen ∧ ps.length ≤ maxLen) := ⟨hm1, hm2⟩
  unfold maxLen at hm1 hm2
  clear hb
  go_enter Try.func9, Try.ntmps9
  go_wp2_with fail
  have hw : Below w.heap.size w (w.alloc (Obj.cells #[Value.slice sa ss.length sc, Value.slice pa ps.length pc] 25)) := (Below.refl _ _).alloc (Nat.le_refl _) _
  refine (szByteSS_any sa sc ss 1048576 _ (HB.out.1.below hw (Nat.le_refl _)) HM.out.1 (by omega) (by omega)).mono ?_
  rintro e w1 ⟨⟨z, rfl, hz⟩, rfl⟩
  rcases hz with rfl | ⟨hz0, hz1, hz2⟩
  · go_wp2
    go_ret
    exact ⟨⟨-1, rfl, .inl rfl⟩, hw⟩
  · have HZ : Hid (z + (ss.length : Int) + elets ss = 1048576 ∧ True) := ⟨hz2, trivial⟩
    clear hz2
    go_wp2_with fail
    refine (szPendS_any pa pc ps z _ (HB.out.2.below hw (Nat.le_refl _)) HM.out.2 hz0 hz1).mono ?_
    rintro e w2 ⟨⟨y, rfl, hy⟩, hb2⟩
    have HB2 : Hid (Below w.heap.size w w2) := hw.trans (hb2.mono (by simp))
    clear hw hb2
    rcases hy with rfl | ⟨hy0, hy1, hy2⟩
    · go_wp2
      go_ret
      exact ⟨⟨-1, rfl, .inl rfl⟩, HB2.out⟩
    · have HF : Hid (Few ss ps) := Few.mk' (by have := HZ.out.1; omega)
      clear hy2 HZ
      go_wp2
      go_ret
      exact ⟨⟨y, rfl, .inr ⟨hy0, HF.out⟩⟩, HB2.out⟩
end Go.Proofs.Ytajhaoclkomjnaa
