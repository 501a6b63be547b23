/-
  The draws: numbers below a bound, once in so often, one of a list; a new cursor.
-/
import Derived.Test.YtgppjlbocppjlaaDraw1
namespace Go.Proofs.Ytgppjlbocppjlaa
open Go.RowKit
set_option linter.unusedVariables false

/-- What a draw finds and leaves. -/
structure Dr (w0 w : World) (B R : Nat) (a : Option Addr) (bs : List Int) (cap : Nat) : Prop where
  byt : Byt w0 a bs
  hB : w0.heap.size = B
  hl : bs.length ≤ maxLen
  bel : Below B w0 w
  cur : Cur w B R a bs.length cap
theorem Dr.step {w0 w w' : World} {B R : Nat} {a : Option Addr} {bs : List Int} {cap : Nat} (h : Dr w0 w B R a bs cap) (hc : Cur w' B R a bs.length cap) (ho : Only (fun k => k = R) w w') : Dr w0 w' B R a bs cap :=
  ⟨h.byt, h.hB, h.hl, h.bel.trans (only_below ho (by have := h.bel.size; have := h.hB; omega) h.cur.lt.1), hc⟩
theorem Dr.byte {w0 w : World} {B R : Nat} {a : Option Addr} {bs : List Int} {cap : Nat} (h : Dr w0 w B R a bs cap) :
    Calls Try.prog 12 #[.pointer (some ⟨R, 0, none⟩)] w fun e w' => (∃ x : Int, 0 ≤ x ∧ x ≤ 255 ∧ e = .returned (.int .i64 x)) ∧ Dr w0 w' B R a bs cap ∧ Only (fun k => k = R) w w' := by
  refine (l1Byte_any R B a bs cap w0 w h.byt h.hB h.hl h.bel h.cur).mono ?_
  rintro e w' ⟨hx, hc, ho⟩
  exact ⟨hx, h.step hc ho, ho⟩
/-- Another part of the heap has turned; the cursor stays. -/
theorem Dr.other {w0 w w' : World} {B R : Nat} {a : Option Addr} {bs : List Int} {cap : Nat} {S : Nat → Prop} (h : Dr w0 w B R a bs cap) (ho : Only S w w') (hs : ¬ S R) (hb : ∀ k, S k → B ≤ k) : Dr w0 w' B R a bs cap :=
  ⟨h.byt, h.hB, h.hl, h.bel.trans (ho.below (by have := h.bel.size; have := h.hB; omega) hb), h.cur.only ho hs⟩

set_option maxHeartbeats 800000 in
theorem Dr.below {w0 w : World} {B R : Nat} {a : Option Addr} {bs : List Int} {cap : Nat} (h : Dr w0 w B R a bs cap) (n : Int) (hn : 0 < n) (hn2 : n ≤ 256) :
    Calls Try.prog 9 #[.pointer (some ⟨R, 0, none⟩), .int .i64 n] w fun e w' => (∃ x : Int, 0 ≤ x ∧ x < n ∧ e = .returned (.int .i64 x)) ∧ Dr w0 w' B R a bs cap ∧ Only (fun k => k = R) w w' := by
  have H : Hid (Dr w0 w B R a bs cap) := h
  clear h
  go_enter Try.func9, Try.ntmps9
  go_wp2_with fail
  refine H.out.byte.mono ?_
  rintro e w1 ⟨⟨x, h1, h2, rfl⟩, hd, ho⟩
  have HD : Hid _ := hd
  have HO : Hid _ := ho
  clear hd ho H
  go_wp2
  go_ret
  refine ⟨⟨_, ?_, ?_, rfl⟩, HD.out, HO.out⟩
  · exact Int.emod_nonneg _ (by omega)
  · exact Int.emod_lt_of_pos _ hn

set_option maxHeartbeats 800000 in
theorem Dr.once {w0 w : World} {B R : Nat} {a : Option Addr} {bs : List Int} {cap : Nat} (h : Dr w0 w B R a bs cap) (n : Int) (hn : 0 < n) (hn2 : n ≤ 256) :
    Calls Try.prog 13 #[.pointer (some ⟨R, 0, none⟩), .int .i64 n] w fun e w' => (∃ b : Bool, e = .returned (.bool b)) ∧ Dr w0 w' B R a bs cap ∧ Only (fun k => k = R) w w' := by
  have H : Hid (Dr w0 w B R a bs cap) := h
  clear h
  go_enter Try.func13, Try.ntmps13
  go_wp2_with fail
  refine (H.out.below n hn hn2).mono ?_
  rintro e w1 ⟨⟨x, h1, h2, rfl⟩, hd, ho⟩
  have HD : Hid _ := hd
  have HO : Hid _ := ho
  clear hd ho H
  go_wp2
  go_ret
  exact ⟨⟨_, rfl⟩, HD.out, HO.out⟩

set_option maxHeartbeats 800000 in
theorem Dr.pick {w0 w : World} {B R : Nat} {a : Option Addr} {bs : List Int} {cap : Nat} (h : Dr w0 w B R a bs cap) (b c : Nat) (l : List Int) (hl : Ins w (some ⟨b, 0, none⟩) l) (hb : b ≠ R) (h0 : 0 < l.length) (h1 : l.length ≤ 200) :
    Calls Try.prog 8 #[.pointer (some ⟨R, 0, none⟩), .slice (some ⟨b, 0, none⟩) l.length c] w fun e w' => (∃ x ∈ l, e = .returned (.int .i64 x)) ∧ Dr w0 w' B R a bs cap ∧ Only (fun k => k = R) w w' := by
  have H : Hid (Dr w0 w B R a bs cap) := h
  have HLL : Hid (Ins w (some ⟨b, 0, none⟩) l) := hl
  clear h hl
  generalize hq : l.length = m at *
  have HQ : Hid (l.length = m) := hq
  clear hq
  go_enter Try.func8, Try.ntmps8
  go_wp2_with fail
  refine (H.out.below (m : Nat) (by omega) (by omega)).mono ?_
  rintro e w1 ⟨⟨x, h2, h3, rfl⟩, hd, ho⟩
  obtain ⟨j, rfl⟩ := Int.eq_ofNat_of_zero_le h2
  obtain ⟨b', o', he, hbl, hc⟩ := HLL.out.len_pos j (by rw [HQ.out]; omega)
  obtain ⟨rfl, rfl⟩ : b = b' ∧ 0 = o' := by simpa using he
  have hs := ho.cell hbl (by simpa using hb) (hc j (by rw [HQ.out]; omega))
  simp only [Nat.zero_add] at hs
  have HMM : Hid (l.getD j 0 ∈ l) := by
    unfold Hid
    rw [List.getD_eq_getElem?_getD, List.getElem?_eq_getElem (by rw [HQ.out]; omega)]
    exact List.getElem_mem _
  have HD : Hid _ := hd
  have HO : Hid _ := ho
  clear hd ho H hc he HLL
  generalize l.getD j 0 = y at *
  go_wp2
  go_ret
  exact ⟨⟨y, HMM.out, rfl⟩, HD.out, HO.out⟩

set_option maxHeartbeats 1600000 in
theorem l1New_any (a : Option Addr) (bs : List Int) (cap : Nat) (w : World) (hb : Byt w a bs) (hl : bs.length ≤ maxLen) :
    Calls Try.prog 6 #[.slice a bs.length cap] w fun e w' => e = .returned (.pointer (some ⟨w.heap.size, 0, none⟩)) ∧ Dr w w' w.heap.size w.heap.size a bs cap := by
  have HLM : Hid (bs.length ≤ maxLen) := hl
  unfold maxLen at hl
  generalize hlen : bs.length = n at *
  have HL : Hid (bs.length = n) := hlen
  clear hlen
  go_enter Try.func6, Try.ntmps6
  go_wp2
  go_loop [3, 4] (fun x i => ∃ (k : Nat) (h : Int), k ≤ n ∧ k ≤ 4000 ∧ i = .int .i64 k ∧ x = .int .i64 h) (fun _ i => 4000 - (intOf i).toNat)
  case atStart => exact ⟨0, _, Nat.zero_le _, by omega, rfl, rfl⟩
  case round =>
    obtain ⟨k, h, hk, hk4, rfl, rfl⟩ := hrel
    by_cases hlt : k < n
    · by_cases h4 : k < 4000
      · obtain ⟨b1, o1, rfl, hb1, hc1⟩ := hb.len_pos k (by rw [HL.out]; exact hlt)
        have hs1 := hc1 k (by rw [HL.out]; exact hlt)
        have hz := getD_rng hb.1 k
        clear hc1
        generalize bs.getD k 0 = z at *
        have hd4 : decide ((k : Int) < 4000) = true := by simp; omega
        have H4 : Hid (k < 4000) := h4
        have HK4 : Hid (k ≤ 4000) := hk4
        clear h4 hk4
        go_wp2
        go_round
        case rel => exact ⟨k + 1, _, by omega, by have := H4.out; omega, by go_num, rfl⟩
        case measure => have := H4.out; simp [intOf]; omega
      · have hd4 : decide ((k : Int) < 4000) = false := by simp; omega
        go_wp2
        go_ret
        exact ⟨rfl, hb, rfl, by rw [HL.out]; exact HLM.out, (Below.refl _ _).alloc (Nat.le_refl _) _, 0, h, by rw [HL.out]; exact heap_alloc_new w _, by omega, by omega, Nat.le_refl _, by simp⟩
    · have hkn : k = n := by omega
      subst hkn
      go_wp2
      go_ret
      exact ⟨rfl, hb, rfl, by rw [HL.out]; exact HLM.out, (Below.refl _ _).alloc (Nat.le_refl _) _, 0, h, by rw [HL.out]; exact heap_alloc_new w _, by omega, by omega, Nat.le_refl _, by simp⟩
end Go.Proofs.Ytgppjlbocppjlaa
