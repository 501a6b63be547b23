/-
  What szSeqS answers: below 0, or there are not too many.
-/
import Derived.Test.YtecmnbdnnlifhaaDoorSqP
import Derived.Test.YtecmnbdnnlifhaaDoorSzS
namespace Go.Proofs.YtecmnbdnnlifhaaDoor
open Go.RowKit
set_option linter.unusedVariables false

/-- How many letters there are in all. -/
def lets : List Sq → Nat
  | [] => 0
  | s :: ss => s.ls.length + lets ss
theorem lets_app (a b : List Sq) : lets (a ++ b) = lets a + lets b := by
  induction a with
  | nil => simp [lets]
  | cons s a ih => simp only [List.cons_append, lets, ih]; omega
theorem lets_take_succ (ss : List Sq) (k : Nat) (h : k < ss.length) : lets (ss.take (k + 1)) = lets (ss.take k) + (ss.getD k dq).ls.length := by
  rw [List.take_succ_eq_append_getElem h, lets_app]
  simp [lets, List.getD_eq_getElem?_getD, List.getElem?_eq_getElem h]
theorem lets_mem {s : Sq} {ss : List Sq} (h : s ∈ ss) : s.ls.length ≤ lets ss := by
  induction ss with
  | nil => cases h
  | cons x ss ih =>
    rcases List.mem_cons.1 h with rfl | h
    · simp only [lets]; omega
    · have := ih h; simp only [lets]; omega
theorem lets_ct (ss ts : List Sq) (h : ss.map Sq.ct = ts.map Sq.ct) : lets ss = lets ts := by
  induction ss generalizing ts with
  | nil => cases ts with
    | nil => rfl
    | cons t ts => simp at h
  | cons s ss ih => cases ts with
    | nil => simp at h
    | cons t ts =>
      simp only [List.map_cons, List.cons.injEq] at h
      have h1 : s.ls = t.ls := by have := congrArg Prod.fst h.1; exact this
      simp only [lets, h1, ih ts h.2]

set_option maxHeartbeats 800000 in
theorem szSeq_any (a : Option Addr) (cap : Nat) (zs : List Int) (n d left : Int) (w : World) (hn : zs.length ≤ maxLen) (h0 : 0 ≤ left) (h1 : left ≤ 1048576) :
    Calls Tryd.prog 23 #[.agg #[.slice a zs.length cap, .int .i64 n, .int .i64 d], .int .i64 left] w fun e w' => e = .returned (.int .i64 (if (zs.length : Int) ≤ left then left - zs.length else -1)) ∧ Below w.heap.size w w' := by
  by_cases h : (zs.length : Int) ≤ left
  · go_enter Tryd.func23, Tryd.ntmps23
    go_wp2_with (go_at_call 34; refine (szByteS_any _ _ _ _ _ hn h0 h1).mono ?_; rintro e w' ⟨rfl, rfl⟩; rw [if_pos h])
    go_ret
    exact ⟨rfl, (Below.refl _ _).alloc (Nat.le_refl _) _⟩
  · go_enter Tryd.func23, Tryd.ntmps23
    go_wp2_with (go_at_call 34; refine (szByteS_any _ _ _ _ _ hn h0 h1).mono ?_; rintro e w' ⟨rfl, rfl⟩; rw [if_neg h])
    go_ret
    exact ⟨rfl, (Below.refl _ _).alloc (Nat.le_refl _) _⟩

set_option maxHeartbeats 1600000 in
theorem szSeqS_any (a : Option Addr) (cap : Nat) (ss : List Sq) (w : World) (hb : Sqs w a ss) (hm : ss.length ≤ maxLen) :
    Calls Tryd.prog 5 #[.slice a ss.length cap, .int .i64 1048576] w fun e w' => (∃ z : Int, e = .returned (.int .i64 z) ∧ (0 ≤ z → ss.length + lets ss ≤ 1048576)) ∧ Below w.heap.size w w' := by
  have HSS : Hid (Sqs w a ss) := hb
  unfold maxLen at hm
  clear hb
  generalize hlen : ss.length = n at *
  have HL : Hid (ss.length = n) := hlen
  clear hlen
  by_cases hn : n ≤ 1048576
  · go_enter Tryd.func5, Tryd.ntmps5
    go_wp2
    go_loopw [1, 5] (fun l i wr => ∃ (k : Nat) (z : Int), k ≤ n ∧ i = .int .i64 k ∧ l = .int .i64 z ∧ 0 ≤ z ∧ z ≤ 1048576 ∧ (n : Int) + (lets (ss.take k) : Nat) + z = 1048576 ∧ Below w.heap.size w wr) (fun _ i _ => n - (intOf i).toNat)
    case atStart => exact ⟨0, 1048576 - n, Nat.zero_le _, rfl, rfl, by omega, by omega, by simp [lets]; omega, Below.refl _ _⟩
    case round =>
      obtain ⟨k, z, hk, rfl, rfl, hz0, hz1, hsum, hbel⟩ := hrel
      have HSUM : Hid ((n : Int) + (lets (ss.take k) : Nat) + z = 1048576) := hsum
      clear hsum
      by_cases hlt : k < n
      · obtain ⟨b, off, rfl, hb1, hc1⟩ := (HSS.out.below hbel (Nat.le_refl _)).len_pos k (by rw [HL.out]; exact hlt)
        have hli := hc1 k (by rw [HL.out]; exact hlt)
        have hrg := HSS.out.rng k (by rw [HL.out]; exact hlt)
        have HT : Hid (lets (ss.take (k + 1)) = lets (ss.take k) + (ss.getD k dq).ls.length) := lets_take_succ ss k (by rw [HL.out]; exact hlt)
        have HM : Hid ((ss.getD k dq).ls.length + lets (ss.take k) ≤ lets ss) := by
          have h1 := lets_app (ss.take (k + 1)) (ss.drop (k + 1))
          rw [List.take_append_drop] at h1
          have h2 := HT.out
          unfold Hid
          omega
        clear hc1
        generalize ss.getD k dq = s at *
        obtain ⟨sa, sc, sl, sn, sd⟩ := s
        obtain ⟨c0, c1, c2, hby⟩ := hli
        simp only at c0 c1 c2 hrg HT HM
        have hml := hrg.2.2
        clear hby hrg
        have HSZ := szSeq_any sa sc sl sn sd z wr hml hz0 hz1
        go_wp2_with fail
        refine HSZ.mono ?_
        clear HSZ
        rintro e w1 ⟨rfl, hb2⟩
        have HB2 : Hid (Below w.heap.size w w1) := hbel.trans (hb2.mono hbel.size)
        clear hb2 hbel c0 c1 c2
        by_cases hc : (sl.length : Int) ≤ z
        · rw [if_pos hc]
          have HS2 : Hid ((n : Int) + (lets (ss.take (k + 1)) : Nat) + (z - sl.length) = 1048576) := by
            have h1 := HSUM.out
            have h2 := HT.out
            unfold Hid
            omega
          go_wp2
          go_roundw
          case rel => exact ⟨k + 1, z - sl.length, by omega, by go_num, rfl, by omega, by omega, HS2.out, HB2.out⟩
          case measure => simp [intOf]; omega
        · rw [if_neg hc]
          go_wp2
          go_ret
          exact ⟨⟨-1, rfl, by omega⟩, HB2.out⟩
      · have hkn : k = n := by omega
        subst hkn
        have HF : Hid ((k : Int) + (lets ss : Nat) + z = 1048576) := by
          have := HSUM.out
          rw [List.take_of_length_le (by rw [HL.out]; exact Nat.le_refl _)] at this
          exact this
        go_wp2
        go_ret
        exact ⟨⟨z, rfl, fun _ => by have := HF.out; omega⟩, hbel⟩
  · go_enter Tryd.func5, Tryd.ntmps5
    go_wp2
    go_ret
    exact ⟨⟨-1, rfl, by omega⟩, Below.refl _ _⟩
end Go.Proofs.YtecmnbdnnlifhaaDoor
