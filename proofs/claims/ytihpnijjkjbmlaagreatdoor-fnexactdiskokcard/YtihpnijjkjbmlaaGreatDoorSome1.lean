/-
  The program's reader gives as many bits as there are, up to 30.
-/
import Derived.Test.YtihpnijjkjbmlaaGreatDoorItP
import Derived.Test.YtihpnijjkjbmlaaGreatDoorOps
import Derived.BigQuiet
namespace Go.Proofs.YtihpnijjkjbmlaaGreatDoor
open Go.RowKit
set_option linter.unusedVariables false

theorem widthOk_any (n : Int) (w : World) : Calls Tryz.prog 129 #[.int .i64 n] w fun e w' => e = .returned (.bool (decide (0 ≤ n ∧ n ≤ 30))) ∧ w' = w := by
  by_cases h0 : 0 ≤ n
  · by_cases h1 : n ≤ 30
    · have hE : decide (0 ≤ n ∧ n ≤ 30) = true := by simp [h0, h1]
      rw [hE]
      clear hE
      go_enter Tryz.func129, Tryz.ntmps129
      go_wp2
      go_ret
      exact ⟨by simp, rfl⟩
    · have hE : decide (0 ≤ n ∧ n ≤ 30) = false := by simp [h1]
      rw [hE]
      clear hE
      go_enter Tryz.func129, Tryz.ntmps129
      go_wp2
      go_ret
      exact ⟨by simp, rfl⟩
  · have hE : decide (0 ≤ n ∧ n ≤ 30) = false := by simp [h0]
    rw [hE]
    clear hE
    go_enter Tryz.func129, Tryz.ntmps129
    go_wp2
    go_ret
    exact ⟨by simp, rfl⟩

/-- What the sentinels hold: each an error that is not nil. -/
def Sent (w : World) (g : Nat) : Prop := ∃ T x, w.cell? ⟨g, 0, none⟩ = some (.iface T x)

theorem Sent.below {w w' : World} {g B : Nat} (h : Sent w g) (hb : Below B w w') (hg : g < B) : Sent w' g := by
  obtain ⟨T, x, hc⟩ := h
  exact ⟨T, x, keep hb hg hc⟩

set_option maxHeartbeats 800000 in
/-- The reader lies at block R: its bits' bytes, their number, its place. -/
theorem number_any (R : Nat) (a : Option Addr) (cap : Nat) (zs : List Int) (N at0 p width : Int) (n v : Nat) (w : World) (hb : Byt w a zs) (hz : zs = enc n v) (hn : n ≤ 4104)
    (c0 : w.cell? ⟨R, 0, none⟩ = some (.slice a zs.length cap))
    (h0 : 0 ≤ p) (h1 : 0 ≤ width) (h2 : width ≤ 30) (h3 : p + width ≤ n) :
    Calls Tryz.prog 130 #[.pointer (some ⟨R, 0, none⟩), .int .i64 p, .int .i64 width] w fun e w' => e = .returned (.int .i64 (v / 2 ^ p.toNat % 2 ^ width.toNat : Nat)) ∧ w' = w := by
  obtain ⟨q, rfl⟩ := Int.eq_ofNat_of_zero_le h0
  obtain ⟨m, rfl⟩ := Int.eq_ofNat_of_zero_le h1
  simp only [Int.toNat_natCast] at *
  have HZ : Hid (zs = enc n v) := hz
  have hlen : zs.length = (n + 7) / 8 := by rw [hz, enc_len]
  have HL : Hid (zs.length = (n + 7) / 8) := hlen
  clear hz hlen
  go_enter Tryz.func130, Tryz.ntmps130
  go_wp2
  go_loop [7, 12] (fun x i => ∃ j : Nat, j ≤ m ∧ i = .int .i64 j ∧ x = .int .i64 (v / 2 ^ q % 2 ^ j : Nat)) (fun _ i => m - (intOf i).toNat)
  case atStart => exact ⟨0, Nat.zero_le _, rfl, by simp [Nat.mod_one]⟩
  case round =>
    obtain ⟨j, hj, rfl, rfl⟩ := hrel
    by_cases hlt : j < m
    · have hx : v / 2 ^ q % 2 ^ j < 2 ^ j := Nat.mod_lt _ (Nat.pow_pos (by omega))
      have HX := get_up v q j
      have HB := enc_bit n v (q + j) (by omega)
      rw [← HZ.out] at HB
      have hbit : v / 2 ^ (q + j) % 2 < 2 := Nat.mod_lt _ (by omega)
      have hll : (q + j) / 8 < zs.length := by have := HL.out; omega
      obtain ⟨b, off, rfl, hbl, hc⟩ := hb.len_pos ((q + j) / 8) hll
      have hs := hc ((q + j) / 8) hll
      have hr := getD_rng hb.1 ((q + j) / 8)
      generalize hX : v / 2 ^ q % 2 ^ j = X at *
      generalize hbt : v / 2 ^ (q + j) % 2 = bt at *
      generalize zs.getD ((q + j) / 8) 0 = z at *
      have HX' : Hid (v / 2 ^ q % 2 ^ (j + 1) = X + bt * 2 ^ j) := HX
      have HB' : Hid (z.toNat / 2 ^ ((q + j) % 8) % 2 = bt) := HB
      clear HX HB hX hbt hc
      go_wp2
      go_round
      case rel => exact ⟨j + 1, by omega, by go_num, by rw [or_step64 X j _ z hr hx (by omega), HB'.out, HX'.out]⟩
      case measure => simp [intOf]; omega
    · have hj0 : j = m := by omega
      subst hj0
      go_wp2
      go_ret
      exact ⟨rfl, rfl⟩

set_option maxHeartbeats 1600000 in
theorem get_no (R : Nat) (a : Option Addr) (cap : Nat) (zs : List Int) (n : Nat) (p width : Int) (w : World) (hn : n ≤ 4104) (pb : p ≤ 9223372036854775807)
    (c0 : w.cell? ⟨R, 0, none⟩ = some (.slice a zs.length cap)) (c1 : w.cell? ⟨R, 1, none⟩ = some (.int .i64 n)) (c2 : w.cell? ⟨R, 2, none⟩ = some (.int .i64 p))
    (s0 : Sent w 7) (s2 : Sent w 8)
    (h : width < 0 ∨ 30 < width ∨ p < 0 ∨ (n : Int) - width < p) :
    Calls Tryz.prog 122 #[.pointer (some ⟨R, 0, none⟩), .int .i64 width] w fun e w' => (∃ T x, e = .returned (.tuple #[.int .i64 0, .iface T x])) ∧ ∃ m, w' = w.drewN m := by
  obtain ⟨T0, x0, g0⟩ := s0
  obtain ⟨T2, x2, g2⟩ := s2
  have key : (width < 0 ∨ 30 < width) ∨ (0 ≤ width ∧ width ≤ 30 ∧ p < 0) ∨ (0 ≤ width ∧ width ≤ 30 ∧ 0 ≤ p ∧ (n : Int) - width < p) := by omega
  clear h
  rcases key with hh | ⟨k1, k2, k3⟩ | ⟨k1, k2, k3, k4⟩
  · have hd : Hid (decide (0 ≤ width ∧ width ≤ 30) = false) := by simp [Hid]; omega
    go_enter Tryz.func122, Tryz.ntmps122
    go_wp2_with fail
    refine (widthOk_any width _).mono ?_
    rintro e w1 ⟨rfl, rfl⟩
    rw [hd.out]
    go_wp2_with fail
    go_quiet (fail)
    go_wp2
    go_ret2
    exact ⟨⟨_, _, rfl⟩, _, rfl⟩
  · have hd : Hid (decide (0 ≤ width ∧ width ≤ 30) = true) := by simp [Hid]; omega
    have hp : decide (p < 0) = true := by simpa using k3
    go_enter Tryz.func122, Tryz.ntmps122
    go_wp2_with fail
    refine (widthOk_any width _).mono ?_
    rintro e w1 ⟨rfl, rfl⟩
    rw [hd.out]
    go_wp2_with fail
    go_quiet (fail)
    go_wp2
    go_quiet (fail)
    go_wp2
    go_ret2
    exact ⟨⟨_, _, rfl⟩, _, World.drewN_drewN ..⟩
  · have hd : Hid (decide (0 ≤ width ∧ width ≤ 30) = true) := by simp [Hid]; omega
    have hp : decide (p < 0) = false := by simpa using k3
    go_enter Tryz.func122, Tryz.ntmps122
    go_wp2_with fail
    refine (widthOk_any width _).mono ?_
    rintro e w1 ⟨rfl, rfl⟩
    rw [hd.out]
    go_wp2_with fail
    go_quiet (fail)
    go_wp2
    go_quiet (fail)
    go_wp2
    go_ret2
    exact ⟨⟨_, _, rfl⟩, _, World.drewN_drewN ..⟩

set_option maxHeartbeats 1600000 in
/-- The bytes may hold more bits than the reader has. -/
theorem get_yesM (R : Nat) (a : Option Addr) (cap : Nat) (zs : List Int) (n M v : Nat) (p width : Int) (w : World) (hn : n ≤ 4104) (hM : M ≤ 4104) (hnM : n ≤ M) (hb : Byt w a zs) (hz : zs = enc M v)
    (c0 : w.cell? ⟨R, 0, none⟩ = some (.slice a zs.length cap)) (c1 : w.cell? ⟨R, 1, none⟩ = some (.int .i64 n)) (c2 : w.cell? ⟨R, 2, none⟩ = some (.int .i64 p)) (f2 : w.frozen? ⟨R, 2, none⟩ = false)
    (k1 : 0 ≤ width) (k2 : width ≤ 30) (k3 : 0 ≤ p) (k4 : p ≤ (n : Int) - width) :
    Calls Tryz.prog 122 #[.pointer (some ⟨R, 0, none⟩), .int .i64 width] w fun e w' =>
      e = .returned (.tuple #[.int .i64 (v / 2 ^ p.toNat % 2 ^ width.toNat : Nat), .nilIface]) ∧ ∃ m, w' = (w.drewN m).setCell ⟨R, 2, none⟩ (.int .i64 (p + width)) := by
  have hd : Hid (decide (0 ≤ width ∧ width ≤ 30) = true) := by simp [Hid]; omega
  have hp : decide (p < 0) = false := by simpa using k3
  have HZ : Hid (zs = enc M v) := hz
  clear hz
  go_enter Tryz.func122, Tryz.ntmps122
  go_wp2_with fail
  refine (widthOk_any width _).mono ?_
  rintro e w1 ⟨rfl, rfl⟩
  rw [hd.out]
  go_wp2_with fail
  go_quiet (fail)
  go_wp2_with fail
  refine (number_any R a cap zs n p p width M v _ (hb.drewN _) HZ.out hM (by simpa using c0) k3 k1 k2 (by omega)).mono ?_
  rintro e w2 ⟨rfl, rfl⟩
  go_wp2
  go_ret2
  exact ⟨rfl, _, rfl⟩

theorem get_yes (R : Nat) (a : Option Addr) (cap : Nat) (zs : List Int) (n v : Nat) (p width : Int) (w : World) (hn : n ≤ 4104) (hb : Byt w a zs) (hz : zs = enc n v)
    (c0 : w.cell? ⟨R, 0, none⟩ = some (.slice a zs.length cap)) (c1 : w.cell? ⟨R, 1, none⟩ = some (.int .i64 n)) (c2 : w.cell? ⟨R, 2, none⟩ = some (.int .i64 p)) (f2 : w.frozen? ⟨R, 2, none⟩ = false)
    (k1 : 0 ≤ width) (k2 : width ≤ 30) (k3 : 0 ≤ p) (k4 : p ≤ (n : Int) - width) :
    Calls Tryz.prog 122 #[.pointer (some ⟨R, 0, none⟩), .int .i64 width] w fun e w' =>
      e = .returned (.tuple #[.int .i64 (v / 2 ^ p.toNat % 2 ^ width.toNat : Nat), .nilIface]) ∧ ∃ m, w' = (w.drewN m).setCell ⟨R, 2, none⟩ (.int .i64 (p + width)) :=
  get_yesM R a cap zs n n v p width w hn hn (Nat.le_refl _) hb hz c0 c1 c2 f2 k1 k2 k3 k4

def RD (w : World) (B R : Nat) (a : Option Addr) (L cap n p : Nat) : Prop := w.heap[R]? = some (.cells #[.slice a L cap, .int .i64 n, .int .i64 p] 175 (0, 0)) ∧ B ≤ R ∧ B ≤ w.heap.size

theorem cellRR {w : World} {R j : Nat} {cur : Array Value} {T : TypeId} {v : Value} (hR : w.heap[R]? = some (.cells cur T (0, 0))) (hv : cur[j]? = some v) : w.cell? ⟨R, j, none⟩ = some v := by
  rw [cell_of_row w R j cur T (0, 0) hR]; exact hv
theorem RD.frz {w : World} {B R : Nat} {a : Option Addr} {L cap n p : Nat} (h : RD w B R a L cap n p) (j : Nat) : w.frozen? ⟨R, j, none⟩ = false := frozen_of_row w R j _ _ h.1

theorem RD.yes {w : World} {B R : Nat} {a : Option Addr} {zs : List Int} {cap n p : Nat} (h : RD w B R a zs.length cap n p) (v : Nat) (width : Int) (hn : n ≤ 4104) (hb : Byt w a zs) (hz : zs = enc n v) (k1 : 0 ≤ width) (k2 : width ≤ 30) (k4 : (p : Int) ≤ (n : Int) - width) :
    Calls Tryz.prog 122 #[.pointer (some ⟨R, 0, none⟩), .int .i64 width] w fun e w' =>
      e = .returned (.tuple #[.int .i64 (v / 2 ^ p % 2 ^ width.toNat : Nat), .nilIface]) ∧ RD w' B R a zs.length cap n (p + width.toNat) ∧ Only (fun k => k = R) w w' ∧ Below B w w' := by
  refine (get_yes R a cap zs n v p width w hn hb hz (cellRR (j := 0) h.1 rfl) (cellRR (j := 1) h.1 rfl) (cellRR (j := 2) h.1 rfl) (h.frz 2) k1 k2 (by omega) k4).mono ?_
  rintro e w' ⟨rfl, m, rfl⟩
  have hR : (w.drewN m).heap[R]? = some (.cells #[.slice a zs.length cap, .int .i64 n, .int .i64 p] 175 (0, 0)) := h.1
  have hO : Only (fun k => k = R) w ((w.drewN m).setCell ⟨R, 2, none⟩ (.int .i64 ((p : Int) + width))) := by
    have h0 : Only (fun k => k = R) w (w.drewN m) := Only.ofBelow (S := fun k => k = R) (B := w.heap.size) ⟨rfl, rfl, rfl, Nat.le_refl _, fun _ _ => rfl⟩ (Nat.le_refl _)
    exact Only.setCell h0 (p := ⟨R, 2, none⟩) (.inl rfl) _
  refine ⟨by simp, ⟨?_, h.2.1, Nat.le_trans h.2.2 hO.size⟩, hO, hO.below h.2.2 (fun k hk => by rw [hk]; exact h.2.1)⟩
  rw [heap_setCell_same _ R 2 _ _ _ hR]
  have e : ((p : Int) + width) = ((p + width.toNat : Nat) : Int) := by omega
  rw [e]
  simp

theorem RD.no {w : World} {B R : Nat} {a : Option Addr} {zs : List Int} {cap n p : Nat} (h : RD w B R a zs.length cap n p) (width : Int) (hn : n ≤ 4104) (hp : p ≤ 4104) (s0 : Sent w 7) (s2 : Sent w 8) (k4 : width < 0 ∨ 30 < width ∨ (n : Int) - width < p) :
    Calls Tryz.prog 122 #[.pointer (some ⟨R, 0, none⟩), .int .i64 width] w fun e w' => (∃ T x, e = .returned (.tuple #[.int .i64 0, .iface T x])) ∧ ∃ m, w' = w.drewN m :=
  get_no R a cap zs n p width w hn (by omega) (cellRR (j := 0) h.1 rfl) (cellRR (j := 1) h.1 rfl) (cellRR (j := 2) h.1 rfl) s0 s2 (by omega)
theorem RD.only {w w' : World} {B R : Nat} {a : Option Addr} {L cap n p : Nat} {S : Nat → Prop} (h : RD w B R a L cap n p) (ho : Only S w w') (hs : ¬ S R) : RD w' B R a L cap n p :=
  ⟨(ho.block R (Array.getElem?_eq_some_iff.1 h.1).1 hs).trans h.1, h.2.1, Nat.le_trans h.2.2 ho.size⟩
set_option maxHeartbeats 800000 in
theorem RD.left {w : World} {B R : Nat} {a : Option Addr} {L cap n p : Nat} (h : RD w B R a L cap n p) (hn : n ≤ 4104) (hp : p ≤ 4104) :
    Calls Tryz.prog 126 #[.pointer (some ⟨R, 0, none⟩)] w fun e w' => e = .returned (.int .i64 ((n : Int) - p)) ∧ ∃ m, w' = w.drewN m := by
  have c0 := cellRR (j := 0) h.1 rfl
  have c1 := cellRR (j := 1) h.1 rfl
  have c2 := cellRR (j := 2) h.1 rfl
  clear h
  go_enter Tryz.func126, Tryz.ntmps126
  go_wp2
  go_quiet (fail)
  go_wp2
  go_ret
  exact ⟨rfl, _, rfl⟩
set_option maxHeartbeats 800000 in
theorem left_any (R : Nat) (n p : Nat) (w : World) (hn : n ≤ 4104) (hp : p ≤ 4104)
    (c1 : w.cell? ⟨R, 1, none⟩ = some (.int .i64 n)) (c2 : w.cell? ⟨R, 2, none⟩ = some (.int .i64 p)) :
    Calls Tryz.prog 126 #[.pointer (some ⟨R, 0, none⟩)] w fun e w' => e = .returned (.int .i64 ((n : Int) - p)) ∧ ∃ m, w' = w.drewN m := by
  go_enter Tryz.func126, Tryz.ntmps126
  go_wp2_with fail
  go_quiet (fail)
  go_wp2
  go_ret
  exact ⟨rfl, _, rfl⟩

set_option maxHeartbeats 1600000 in
theorem some_no (R : Nat) (n p : Nat) (X : Value) (w : World) (hn : n ≤ 4104) (hp : p = n)
    (c1 : w.cell? ⟨R, 1, none⟩ = some (.int .i64 n)) (c2 : w.cell? ⟨R, 2, none⟩ = some (.int .i64 p)) (g0 : w.cell? ⟨8, 0, none⟩ = some X) :
    Calls Tryz.prog 150 #[.pointer (some ⟨R, 0, none⟩)] w fun e w' =>
      e = .returned (.tuple #[.int .i64 0, .int .i64 0, X]) ∧ ∃ m, w' = w.drewN m := by
  subst hp
  have HL := left_any R p p w hn hn c1 c2
  rw [Int.sub_self] at HL
  go_enter Tryz.func150, Tryz.ntmps150
  go_wp2_with fail
  refine HL.mono ?_
  rintro e w1 ⟨rfl, m1, rfl⟩
  go_wp2
  go_quiet (fail)
  go_wp2
  exact bodyPost_ret (v := .tuple #[.int .i64 0, .int .i64 0, X]) (by simp [results, Tryz.results150, go_sem]) rfl ⟨rfl, _, World.drewN_drewN ..⟩

set_option maxHeartbeats 1600000 in
theorem some_yes (R : Nat) (a : Option Addr) (cap : Nat) (zs : List Int) (n M v p : Nat) (w : World) (hn : n ≤ 4104) (hM : M ≤ 4104) (hnM : n ≤ M) (hb : Byt w a zs) (hz : zs = enc M v) (hp : p < n)
    (c0 : w.cell? ⟨R, 0, none⟩ = some (.slice a zs.length cap)) (c1 : w.cell? ⟨R, 1, none⟩ = some (.int .i64 n)) (c2 : w.cell? ⟨R, 2, none⟩ = some (.int .i64 p)) (f2 : w.frozen? ⟨R, 2, none⟩ = false) :
    Calls Tryz.prog 150 #[.pointer (some ⟨R, 0, none⟩)] w fun e w' =>
      e = .returned (.tuple #[.int .i64 (v / 2 ^ p % 2 ^ (min (n - p) 30) : Nat), .int .i64 (min (n - p) 30 : Nat), .nilIface]) ∧ ∃ m, w' = (w.drewN m).setCell ⟨R, 2, none⟩ (.int .i64 ((p + min (n - p) 30 : Nat) : Int)) := by
  have HZ : Hid (zs = enc M v) := hz
  clear hz
  have HL := left_any R n p w hn (by omega) c1 c2
  obtain ⟨s, hs⟩ : ∃ s, s = min (n - p) 30 := ⟨_, rfl⟩
  rw [← hs]
  have key : (s = 30 ∧ 30 < (n : Int) - (p : Int)) ∨ ((n : Int) - (p : Int) = (s : Int) ∧ (s : Int) ≤ 30 ∧ 0 < (s : Int)) := by omega
  clear hs
  rcases key with ⟨rfl, hk⟩ | ⟨hk, hk1, hk2⟩
  · go_enter Tryz.func150, Tryz.ntmps150
    go_wp2_with fail
    refine HL.mono ?_
    rintro e w1 ⟨rfl, m1, rfl⟩
    clear HL
    go_wp2_with fail
    all_goals try (exfalso; omega)
    refine (get_yesM R a cap zs n M v (p : Int) 30 _ hn hM hnM (hb.drewN _) HZ.out (by simpa using c0) (by simpa using c1) (by simpa using c2) (by simpa using f2) (by omega) (by omega) (by omega) (by omega)).mono ?_
    rintro e w2 ⟨rfl, m2, rfl⟩
    go_wp2
    exact bodyPost_ret (v := .tuple #[.int .i64 (v / 2 ^ p % 2 ^ 30 : Nat), .int .i64 30, .nilIface]) (by simp [results, Tryz.results150, go_sem]) rfl ⟨rfl, m1 + m2, by simp⟩
  · rw [hk] at HL
    go_enter Tryz.func150, Tryz.ntmps150
    go_wp2_with fail
    refine HL.mono ?_
    rintro e w1 ⟨rfl, m1, rfl⟩
    clear HL
    go_wp2_with fail
    all_goals try (exfalso; omega)
    refine (get_yesM R a cap zs n M v (p : Int) (s : Int) _ hn hM hnM (hb.drewN _) HZ.out (by simpa using c0) (by simpa using c1) (by simpa using c2) (by simpa using f2) (by omega) (by omega) (by omega) (by omega)).mono ?_
    rintro e w2 ⟨rfl, m2, rfl⟩
    go_wp2
    exact bodyPost_ret (v := .tuple #[.int .i64 (v / 2 ^ p % 2 ^ s : Nat), .int .i64 s, .nilIface]) (by simp [results, Tryz.results150, go_sem]) rfl ⟨rfl, m1 + m2, by simp⟩
end Go.Proofs.YtihpnijjkjbmlaaGreatDoor
