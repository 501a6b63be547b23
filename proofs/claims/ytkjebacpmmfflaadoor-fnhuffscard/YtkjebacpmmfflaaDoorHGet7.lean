/-
  The program's newHuffReader: how many codes there are of each length.
-/
import Derived.Test.YtkjebacpmmfflaaDoorPut3
import Derived.Test.YtkjebacpmmfflaaDoorOps
import Derived.Test.YtkjebacpmmfflaaDoorIBase
import Derived.Test.YtkjebacpmmfflaaDoorHGet6
import Derived.BigRegion
namespace Go.Proofs.YtkjebacpmmfflaaDoor
open Go.RowKit
set_option linter.unusedVariables false

set_option maxHeartbeats 800000 in
/-- The reader lies at block R: its bits' bytes, their number, its place. -/
theorem number_any (R : Nat) (a : Option Addr) (cap : Nat) (zs : List Int) (N at0 p width : Int) (n v : Nat) (w : World) (hb : Byt w a zs) (hz : zs = enc n v) (hn : n ≤ 4104)
    (c0 : w.cell? ⟨R, 0, none⟩ = some (.slice a zs.length cap))
    (h0 : 0 ≤ p) (h1 : 0 ≤ width) (h2 : width ≤ 30) (h3 : p + width ≤ n) :
    Calls Tryd.prog 71 #[.pointer (some ⟨R, 0, none⟩), .int .i64 p, .int .i64 width] w fun e w' => e = .returned (.int .i64 (v / 2 ^ p.toNat % 2 ^ width.toNat : Nat)) ∧ w' = w := by
  obtain ⟨q, rfl⟩ := Int.eq_ofNat_of_zero_le h0
  obtain ⟨m, rfl⟩ := Int.eq_ofNat_of_zero_le h1
  simp only [Int.toNat_natCast] at *
  have HZ : Hid (zs = enc n v) := hz
  have hlen : zs.length = (n + 7) / 8 := by rw [hz, enc_len]
  have HL : Hid (zs.length = (n + 7) / 8) := hlen
  clear hz hlen
  go_enter Tryd.func71, Tryd.ntmps71
  go_wp2
  go_loop [7, 12] (fun x i => ∃ j : Nat, j ≤ m ∧ i = .int .i64 j ∧ x = .int .i64 (v / 2 ^ q % 2 ^ j : Nat)) (fun _ i => m - (intOf i).toNat)
  case atStart => exact ⟨0, Nat.zero_le _, rfl, by simp [Nat.mod_one]⟩
  case round =>
    obtain ⟨j, hj, rfl, rfl⟩ := hrel
    by_cases hlt : j < m
    · have hx : v / 2 ^ q % 2 ^ j < 2 ^ j := Nat.mod_lt _ (Nat.pow_pos (by omega))
      have HX := get_up v q j
      have HB := enc_bit n v (q + j) (by omega)
      rw [← HZ.out] at HB
      have hbit : v / 2 ^ (q + j) % 2 < 2 := Nat.mod_lt _ (by omega)
      have hll : (q + j) / 8 < zs.length := by have := HL.out; omega
      obtain ⟨b, off, rfl, hbl, hc⟩ := hb.len_pos ((q + j) / 8) hll
      have hs := hc ((q + j) / 8) hll
      have hr := getD_rng hb.1 ((q + j) / 8)
      generalize hX : v / 2 ^ q % 2 ^ j = X at *
      generalize hbt : v / 2 ^ (q + j) % 2 = bt at *
      generalize zs.getD ((q + j) / 8) 0 = z at *
      have HX' : Hid (v / 2 ^ q % 2 ^ (j + 1) = X + bt * 2 ^ j) := HX
      have HB' : Hid (z.toNat / 2 ^ ((q + j) % 8) % 2 = bt) := HB
      clear HX HB hX hbt hc
      go_wp2
      go_round
      case rel => exact ⟨j + 1, by omega, by go_num, by rw [or_step64 X j _ z hr hx (by omega), HB'.out, HX'.out]⟩
      case measure => simp [intOf]; omega
    · have hj0 : j = m := by omega
      subst hj0
      go_wp2
      go_ret
      exact ⟨rfl, rfl⟩

set_option maxHeartbeats 1600000 in
theorem get_no (R : Nat) (a : Option Addr) (cap : Nat) (zs : List Int) (n : Nat) (p width : Int) (w : World) (hn : n ≤ 4104) (pb : p ≤ 9223372036854775807)
    (c0 : w.cell? ⟨R, 0, none⟩ = some (.slice a zs.length cap)) (c1 : w.cell? ⟨R, 1, none⟩ = some (.int .i64 n)) (c2 : w.cell? ⟨R, 2, none⟩ = some (.int .i64 p))
    (s0 : Sent w 7) (s2 : Sent w 8)
    (h : width < 0 ∨ 30 < width ∨ p < 0 ∨ (n : Int) - width < p) :
    Calls Tryd.prog 53 #[.pointer (some ⟨R, 0, none⟩), .int .i64 width] w fun e w' => (∃ T x, e = .returned (.tuple #[.int .i64 0, .iface T x])) ∧ ∃ m, w' = w.drewN m := by
  obtain ⟨T0, x0, g0⟩ := s0
  obtain ⟨T2, x2, g2⟩ := s2
  have key : (width < 0 ∨ 30 < width) ∨ (0 ≤ width ∧ width ≤ 30 ∧ p < 0) ∨ (0 ≤ width ∧ width ≤ 30 ∧ 0 ≤ p ∧ (n : Int) - width < p) := by omega
  clear h
  rcases key with hh | ⟨k1, k2, k3⟩ | ⟨k1, k2, k3, k4⟩
  · have hd : Hid (decide (0 ≤ width ∧ width ≤ 30) = false) := by simp [Hid]; omega
    go_enter Tryd.func53, Tryd.ntmps53
    go_wp2_with fail
    refine (widthOk_any width _).mono ?_
    rintro e w1 ⟨rfl, rfl⟩
    rw [hd.out]
    go_wp2_with fail
    go_quiet (fail)
    go_wp2
    go_ret2
    exact ⟨⟨_, _, rfl⟩, _, rfl⟩
  · have hd : Hid (decide (0 ≤ width ∧ width ≤ 30) = true) := by simp [Hid]; omega
    have hp : decide (p < 0) = true := by simpa using k3
    go_enter Tryd.func53, Tryd.ntmps53
    go_wp2_with fail
    refine (widthOk_any width _).mono ?_
    rintro e w1 ⟨rfl, rfl⟩
    rw [hd.out]
    go_wp2_with fail
    go_quiet (fail)
    go_wp2
    go_quiet (fail)
    go_wp2
    go_ret2
    exact ⟨⟨_, _, rfl⟩, _, World.drewN_drewN ..⟩
  · have hd : Hid (decide (0 ≤ width ∧ width ≤ 30) = true) := by simp [Hid]; omega
    have hp : decide (p < 0) = false := by simpa using k3
    go_enter Tryd.func53, Tryd.ntmps53
    go_wp2_with fail
    refine (widthOk_any width _).mono ?_
    rintro e w1 ⟨rfl, rfl⟩
    rw [hd.out]
    go_wp2_with fail
    go_quiet (fail)
    go_wp2
    go_quiet (fail)
    go_wp2
    go_ret2
    exact ⟨⟨_, _, rfl⟩, _, World.drewN_drewN ..⟩

set_option maxHeartbeats 1600000 in
/-- The bytes may hold more bits than the reader has. -/
theorem get_yesM (R : Nat) (a : Option Addr) (cap : Nat) (zs : List Int) (n M v : Nat) (p width : Int) (w : World) (hn : n ≤ 4104) (hM : M ≤ 4104) (hnM : n ≤ M) (hb : Byt w a zs) (hz : zs = enc M v)
    (c0 : w.cell? ⟨R, 0, none⟩ = some (.slice a zs.length cap)) (c1 : w.cell? ⟨R, 1, none⟩ = some (.int .i64 n)) (c2 : w.cell? ⟨R, 2, none⟩ = some (.int .i64 p)) (f2 : w.frozen? ⟨R, 2, none⟩ = false)
    (k1 : 0 ≤ width) (k2 : width ≤ 30) (k3 : 0 ≤ p) (k4 : p ≤ (n : Int) - width) :
    Calls Tryd.prog 53 #[.pointer (some ⟨R, 0, none⟩), .int .i64 width] w fun e w' =>
      e = .returned (.tuple #[.int .i64 (v / 2 ^ p.toNat % 2 ^ width.toNat : Nat), .nilIface]) ∧ ∃ m, w' = (w.drewN m).setCell ⟨R, 2, none⟩ (.int .i64 (p + width)) := by
  have hd : Hid (decide (0 ≤ width ∧ width ≤ 30) = true) := by simp [Hid]; omega
  have hp : decide (p < 0) = false := by simpa using k3
  have HZ : Hid (zs = enc M v) := hz
  clear hz
  go_enter Tryd.func53, Tryd.ntmps53
  go_wp2_with fail
  refine (widthOk_any width _).mono ?_
  rintro e w1 ⟨rfl, rfl⟩
  rw [hd.out]
  go_wp2_with fail
  go_quiet (fail)
  go_wp2_with fail
  refine (number_any R a cap zs n p p width M v _ (hb.drewN _) HZ.out hM (by simpa using c0) k3 k1 k2 (by omega)).mono ?_
  rintro e w2 ⟨rfl, rfl⟩
  go_wp2
  go_ret2
  exact ⟨rfl, _, rfl⟩

theorem get_yes (R : Nat) (a : Option Addr) (cap : Nat) (zs : List Int) (n v : Nat) (p width : Int) (w : World) (hn : n ≤ 4104) (hb : Byt w a zs) (hz : zs = enc n v)
    (c0 : w.cell? ⟨R, 0, none⟩ = some (.slice a zs.length cap)) (c1 : w.cell? ⟨R, 1, none⟩ = some (.int .i64 n)) (c2 : w.cell? ⟨R, 2, none⟩ = some (.int .i64 p)) (f2 : w.frozen? ⟨R, 2, none⟩ = false)
    (k1 : 0 ≤ width) (k2 : width ≤ 30) (k3 : 0 ≤ p) (k4 : p ≤ (n : Int) - width) :
    Calls Tryd.prog 53 #[.pointer (some ⟨R, 0, none⟩), .int .i64 width] w fun e w' =>
      e = .returned (.tuple #[.int .i64 (v / 2 ^ p.toNat % 2 ^ width.toNat : Nat), .nilIface]) ∧ ∃ m, w' = (w.drewN m).setCell ⟨R, 2, none⟩ (.int .i64 (p + width)) :=
  get_yesM R a cap zs n n v p width w hn hn (Nat.le_refl _) hb hz c0 c1 c2 f2 k1 k2 k3 k4

def RD (w : World) (B R : Nat) (a : Option Addr) (L cap n p : Nat) : Prop := w.heap[R]? = some (.cells #[.slice a L cap, .int .i64 n, .int .i64 p] 80 (0, 0)) ∧ B ≤ R ∧ B ≤ w.heap.size

theorem cellRR {w : World} {R j : Nat} {cur : Array Value} {T : TypeId} {v : Value} (hR : w.heap[R]? = some (.cells cur T (0, 0))) (hv : cur[j]? = some v) : w.cell? ⟨R, j, none⟩ = some v := by
  rw [cell_of_row w R j cur T (0, 0) hR]; exact hv
theorem RD.frz {w : World} {B R : Nat} {a : Option Addr} {L cap n p : Nat} (h : RD w B R a L cap n p) (j : Nat) : w.frozen? ⟨R, j, none⟩ = false := frozen_of_row w R j _ _ h.1

theorem RD.yes {w : World} {B R : Nat} {a : Option Addr} {zs : List Int} {cap n p : Nat} (h : RD w B R a zs.length cap n p) (v : Nat) (width : Int) (hn : n ≤ 4104) (hb : Byt w a zs) (hz : zs = enc n v) (k1 : 0 ≤ width) (k2 : width ≤ 30) (k4 : (p : Int) ≤ (n : Int) - width) :
    Calls Tryd.prog 53 #[.pointer (some ⟨R, 0, none⟩), .int .i64 width] w fun e w' =>
      e = .returned (.tuple #[.int .i64 (v / 2 ^ p % 2 ^ width.toNat : Nat), .nilIface]) ∧ RD w' B R a zs.length cap n (p + width.toNat) ∧ Only (fun k => k = R) w w' ∧ Below B w w' := by
  refine (get_yes R a cap zs n v p width w hn hb hz (cellRR (j := 0) h.1 rfl) (cellRR (j := 1) h.1 rfl) (cellRR (j := 2) h.1 rfl) (h.frz 2) k1 k2 (by omega) k4).mono ?_
  rintro e w' ⟨rfl, m, rfl⟩
  have hR : (w.drewN m).heap[R]? = some (.cells #[.slice a zs.length cap, .int .i64 n, .int .i64 p] 80 (0, 0)) := h.1
  have hO : Only (fun k => k = R) w ((w.drewN m).setCell ⟨R, 2, none⟩ (.int .i64 ((p : Int) + width))) := by
    have h0 : Only (fun k => k = R) w (w.drewN m) := Only.ofBelow (S := fun k => k = R) (B := w.heap.size) ⟨rfl, rfl, rfl, Nat.le_refl _, fun _ _ => rfl⟩ (Nat.le_refl _)
    exact Only.setCell h0 (p := ⟨R, 2, none⟩) (.inl rfl) _
  refine ⟨by simp, ⟨?_, h.2.1, Nat.le_trans h.2.2 hO.size⟩, hO, hO.below h.2.2 (fun k hk => by rw [hk]; exact h.2.1)⟩
  rw [heap_setCell_same _ R 2 _ _ _ hR]
  have e : ((p : Int) + width) = ((p + width.toNat : Nat) : Int) := by omega
  rw [e]
  simp

theorem RD.no {w : World} {B R : Nat} {a : Option Addr} {zs : List Int} {cap n p : Nat} (h : RD w B R a zs.length cap n p) (width : Int) (hn : n ≤ 4104) (hp : p ≤ 4104) (s0 : Sent w 7) (s2 : Sent w 8) (k4 : width < 0 ∨ 30 < width ∨ (n : Int) - width < p) :
    Calls Tryd.prog 53 #[.pointer (some ⟨R, 0, none⟩), .int .i64 width] w fun e w' => (∃ T x, e = .returned (.tuple #[.int .i64 0, .iface T x])) ∧ ∃ m, w' = w.drewN m :=
  get_no R a cap zs n p width w hn (by omega) (cellRR (j := 0) h.1 rfl) (cellRR (j := 1) h.1 rfl) (cellRR (j := 2) h.1 rfl) s0 s2 (by omega)
theorem RD.only {w w' : World} {B R : Nat} {a : Option Addr} {L cap n p : Nat} {S : Nat → Prop} (h : RD w B R a L cap n p) (ho : Only S w w') (hs : ¬ S R) : RD w' B R a L cap n p :=
  ⟨(ho.block R (Array.getElem?_eq_some_iff.1 h.1).1 hs).trans h.1, h.2.1, Nat.le_trans h.2.2 ho.size⟩
def hst (zs : List Int) (ms : List Int) (s : Int) : List Int := ms.set (zN zs s) (ms.getD (zN zs s) 0 + 1)
/-- How many there are of each length. -/
def hm (zs l : List Int) : List Int := l.foldl (hst zs) (List.replicate 13 0)
theorem hm_snoc (zs l : List Int) (s : Int) : hm zs (l ++ [s]) = hst zs (hm zs l) s := by simp [hm, List.foldl_append]
theorem hm_len (zs l : List Int) : (hm zs l).length = 13 := by
  have : ∀ (l ms : List Int), (l.foldl (hst zs) ms).length = ms.length := by
    intro l
    induction l with
    | nil => intro ms; rfl
    | cons s l ih => intro ms; rw [List.foldl_cons, ih]; simp [hst]
  unfold hm
  rw [this]
  simp
theorem hm_get (zs l : List Int) (j : Nat) (hj : j < 13) : (hm zs l).getD j 0 = ((l.countP (fun s => decide (zN zs s = j)) : Nat) : Int) := by
  have : ∀ (l ms : List Int), ms.length = 13 → (l.foldl (hst zs) ms).getD j 0 = ms.getD j 0 + ((l.countP (fun s => decide (zN zs s = j)) : Nat) : Int) := by
    intro l
    induction l with
    | nil => intro ms _; simp
    | cons s l ih =>
      intro ms hm
      rw [List.foldl_cons, ih _ (by simp [hst, hm]), List.countP_cons]
      simp only [hst]
      by_cases h : zN zs s = j
      · rw [h]
        rw [show (ms.set j (ms.getD j 0 + 1)).getD j 0 = ms.getD j 0 + 1 from by rw [List.getD_eq_getElem?_getD, List.getElem?_set_self (by omega)]; rfl]
        simp
        omega
      · rw [show (ms.set (zN zs s) (ms.getD (zN zs s) 0 + 1)).getD j 0 = ms.getD j 0 from by simp only [List.getD_eq_getElem?_getD, List.getElem?_set_ne h]]
        simp [h]
  unfold hm
  rw [this l _ (by simp)]
  have e : (List.replicate 13 (0 : Int)).getD j 0 = 0 := by
    rw [List.getD_eq_getElem?_getD, List.getElem?_replicate]; split <;> rfl
  rw [e]
  simp
theorem hm_at (zs : List Int) (j : Nat) (h1 : 1 ≤ j) (h2 : j ≤ 12) : (hm zs (sbL zs 12)).getD j 0 = (((atL zs j zs.length).length : Nat) : Int) := by
  rw [hm_get zs _ j (by omega)]
  obtain ⟨r, e1, m1⟩ := sbL_split zs j 12 h2
  have e3 : sbL zs j = sbL zs (j - 1) ++ atL zs j zs.length := by
    obtain ⟨l, rfl⟩ : ∃ l, j = l + 1 := ⟨j - 1, by omega⟩
    rfl
  rw [e1, e3, List.countP_append, List.countP_append]
  have c1 : (sbL zs (j - 1)).countP (fun s => decide (zN zs s = j)) = 0 := List.countP_eq_zero.2 (fun a ha => by have := zN_sb zs (j - 1) a ha; simp; omega)
  have c2 : (atL zs j zs.length).countP (fun s => decide (zN zs s = j)) = (atL zs j zs.length).length := List.countP_eq_length.2 (fun a ha => by have := zN_at zs j zs.length a ha; simpa using this)
  have c3 : r.countP (fun s => decide (zN zs s = j)) = 0 := List.countP_eq_zero.2 (fun a ha => by
    obtain ⟨s, rfl, hs⟩ := m1 a ha
    have hh : zN zs ((s : Nat) : Int) ≠ j := by
      unfold zN
      rw [Int.toNat_natCast]
      omega
    simpa using hh)
  rw [c1, c2, c3]
  simp

/-- A reader of codes at H: over the reader of bits at R, how many of each length, the symbols in order. -/
structure HR (w : World) (H R : Nat) (ms : List Int) (ao : Option Addr) (ol co : Nat) : Prop where
  h : w.heap[H]? = some (.cells (Value.pointer (some ⟨R, 0, none⟩) :: (ms.map (Value.int .i64) ++ [.slice ao ol co])).toArray 125 (0, 0))
  l : ms.length = 13
theorem HR.c0 {w : World} {H R : Nat} {ms : List Int} {ao : Option Addr} {ol co : Nat} (h : HR w H R ms ao ol co) : w.cell? ⟨H, 0, none⟩ = some (.pointer (some ⟨R, 0, none⟩)) := cellRR h.h (by simp)
theorem HR.cm {w : World} {H R : Nat} {ms : List Int} {ao : Option Addr} {ol co : Nat} (h : HR w H R ms ao ol co) (i : Nat) (hi : i < 13) : w.cell? ⟨H, 1 + i, none⟩ = some (.int .i64 (ms.getD i 0)) := by
  have hl := h.l
  refine cellRR h.h ?_
  rw [Nat.add_comm 1 i]
  simp only [List.getElem?_toArray, List.getElem?_cons_succ]
  rw [List.getElem?_append_left (by simp; omega)]
  simp [List.getElem?_eq_getElem (show i < ms.length by omega)]
theorem HR.co {w : World} {H R : Nat} {ms : List Int} {ao : Option Addr} {ol co : Nat} (h : HR w H R ms ao ol co) : w.cell? ⟨H, 14, none⟩ = some (.slice ao ol co) := by
  have hl := h.l
  refine cellRR h.h ?_
  simp only [List.getElem?_toArray, List.getElem?_cons_succ]
  rw [List.getElem?_append_right (by simp; omega)]
  simp [hl]
theorem HR.frz {w : World} {H R : Nat} {ms : List Int} {ao : Option Addr} {ol co : Nat} (h : HR w H R ms ao ol co) (j : Nat) : w.frozen? ⟨H, j, none⟩ = false := frozen_of_row w H j _ _ h.h
theorem HR.lt {w : World} {H R : Nat} {ms : List Int} {ao : Option Addr} {ol co : Nat} (h : HR w H R ms ao ol co) : H < w.heap.size := (Array.getElem?_eq_some_iff.1 h.h).1
theorem HR.only {w w' : World} {H R : Nat} {ms : List Int} {ao : Option Addr} {ol co : Nat} {S : Nat → Prop} (h : HR w H R ms ao ol co) (ho : Only S w w') (hs : ¬ S H) : HR w' H R ms ao ol co := ⟨(ho.block H h.lt hs).trans h.h, h.l⟩
theorem HR.store {w : World} {H R : Nat} {ms : List Int} {ao : Option Addr} {ol co : Nat} (h : HR w H R ms ao ol co) (i : Nat) (z : Int) (hi : i < 13) : HR (w.setCell ⟨H, 1 + i, none⟩ (.int .i64 z)) H R (ms.set i z) ao ol co := by
  have hl := h.l
  refine ⟨?_, by simpa using hl⟩
  rw [heap_setCell_same _ H (1 + i) _ _ _ h.h]
  congr 2
  rw [Nat.add_comm 1 i]
  apply Array.ext'
  simp only [Array.toList_setIfInBounds, List.set_cons_succ]
  rw [List.set_append_left _ _ (by simp; omega), List.map_set]

set_option maxRecDepth 20000 in
set_option maxHeartbeats 4000000 in
theorem newHuffReader_any (a : Option Addr) (ca : Nat) (ls : List Int) (R : Nat) (w : World) (ha : Ins w a ls) (hl : ls.length ≤ 80) :
    Calls Tryd.prog 45 #[.slice a ls.length ca, .pointer (some ⟨R, 0, none⟩)] w fun e w' => ∃ H ao co, e = .returned (.pointer (some ⟨H, 0, none⟩)) ∧ HR w' H R (hm ls (sbL ls 12)) ao (sbL ls 12).length co ∧ MinI w' w.heap.size H ao co (sbL ls 12) ∧ w.heap.size ≤ H ∧ Below w.heap.size w w' := by
  have HSY := syms_any a ca ls w ha hl
  have hodl : (sbL ls 12).length ≤ 2000 := by have := sbL_len ls 12; omega
  have HMEM : Hid _ := sbL_mem ls 12
  have HST : Hid (∀ t, t < (sbL ls 12).length → hm ls ((sbL ls 12).take (t + 1)) = hst ls (hm ls ((sbL ls 12).take t)) ((sbL ls 12).getD t 0)) := fun t ht => by rw [take_snoc _ t ht, hm_snoc]
  have HCE : Hid (hm ls ((sbL ls 12).take (sbL ls 12).length) = hm ls (sbL ls 12)) := by unfold Hid; rw [List.take_length]
  have HBD : Hid (∀ t j, j < 13 → 0 ≤ (hm ls ((sbL ls 12).take t)).getD j 0 ∧ (hm ls ((sbL ls 12).take t)).getD j 0 ≤ 2000) := fun t j hj => by
    rw [hm_get ls _ j hj]
    have h1 := List.countP_le_length (p := fun s => decide (zN ls s = j)) (l := (sbL ls 12).take t)
    have h2 := List.length_take_le t (sbL ls 12)
    have h3 : ((sbL ls 12).take t).length ≤ (sbL ls 12).length := by rw [List.length_take]; omega
    omega
  generalize sbL ls 12 = od at *
  generalize hlen : ls.length = n at *
  have HL : Hid (ls.length = n) := hlen
  clear hlen
  generalize hN : od.length = N at *
  have HN : Hid (od.length = N) := hN
  clear hN
  go_enter Tryd.func45, Tryd.ntmps45
  go_wp2_with fail
  refine HSY.mono ?_
  clear HSY
  rintro e w1 ⟨ao, co, rfl, hmo, hb1⟩
  have hR0 : HR (w1.alloc (Obj.cells #[Value.pointer (some ⟨R, 0, none⟩), Value.int IntKind.i64 0, Value.int IntKind.i64 0, Value.int IntKind.i64 0, Value.int IntKind.i64 0, Value.int IntKind.i64 0, Value.int IntKind.i64 0, Value.int IntKind.i64 0, Value.int IntKind.i64 0, Value.int IntKind.i64 0, Value.int IntKind.i64 0, Value.int IntKind.i64 0, Value.int IntKind.i64 0, Value.int IntKind.i64 0, Value.slice ao N co] 125)) w1.heap.size R (hm ls (od.take 0)) ao N co := ⟨heap_alloc_new w1 _, by rw [hm_len]⟩
  have hA0 : Below w1.heap.size w1 (w1.alloc (Obj.cells #[Value.pointer (some ⟨R, 0, none⟩), Value.int IntKind.i64 0, Value.int IntKind.i64 0, Value.int IntKind.i64 0, Value.int IntKind.i64 0, Value.int IntKind.i64 0, Value.int IntKind.i64 0, Value.int IntKind.i64 0, Value.int IntKind.i64 0, Value.int IntKind.i64 0, Value.int IntKind.i64 0, Value.int IntKind.i64 0, Value.int IntKind.i64 0, Value.int IntKind.i64 0, Value.slice ao N co] 125)) := (Below.refl _ _).alloc (Nat.le_refl _) _
  go_wp2
  generalize w1.alloc (Obj.cells #[Value.pointer (some ⟨R, 0, none⟩), Value.int IntKind.i64 0, Value.int IntKind.i64 0, Value.int IntKind.i64 0, Value.int IntKind.i64 0, Value.int IntKind.i64 0, Value.int IntKind.i64 0, Value.int IntKind.i64 0, Value.int IntKind.i64 0, Value.int IntKind.i64 0, Value.int IntKind.i64 0, Value.int IntKind.i64 0, Value.int IntKind.i64 0, Value.int IntKind.i64 0, Value.slice ao N co] 125) = W at *
  have HHR : Hid (HR W w1.heap.size R (hm ls (od.take 0)) ao N co) := hR0
  have HMO : Hid (MinI W w.heap.size w1.heap.size ao co od) := hmo.below hA0
  have HBW : Hid (Below w.heap.size w W) := hb1.trans (hA0.mono hb1.size)
  have hHs : w.heap.size ≤ w1.heap.size := hb1.size
  clear hR0 hA0 hmo hb1
  generalize w1.heap.size = H at *
  go_loopw [18] (fun i wr => ∃ t : Nat, t ≤ N ∧ i = .int .i64 t ∧ HR wr H R (hm ls (od.take t)) ao N co ∧ MinI wr w.heap.size H ao co od ∧ Below w.heap.size w wr) (fun i _ => N - (intOf i).toNat)
  case atStart => exact ⟨0, Nat.zero_le _, rfl, HHR.out, HMO.out, HBW.out⟩
  case round =>
    clear HHR HMO HBW
    obtain ⟨t, ht, rfl, hhr, hmo, hbel⟩ := hrel
    have HHR : Hid (HR wr H R (hm ls (od.take t)) ao N co) := hhr
    have HM : Hid (MinI wr w.heap.size H ao co od) := hmo
    have HBL : Hid (Below w.heap.size w wr) := hbel
    have hHlt := hhr.lt
    clear hhr hmo hbel
    by_cases hlt : t < N
    · obtain ⟨b1, o1, rfl, hb1, hc1⟩ := HM.out.byt.len_pos t (by rw [HN.out]; exact hlt)
      have hs1 := hc1 t (by rw [HN.out]; exact hlt)
      obtain ⟨sn, hse, hsn, hz1, hz2⟩ := HMEM.out _ (getD_mem (k := t) (by rw [HN.out]; exact hlt))
      have HS := HST.out t hlt
      rw [hse] at hs1 HS
      obtain ⟨b2, o2, rfl, hb2, hc2⟩ := (ha.below HBL.out (Nat.le_refl _)).len_pos sn (by rw [HL.out]; exact hsn)
      have hs2 := hc2 sn (by rw [HL.out]; exact hsn)
      clear hc1 hc2 hse
      simp only [hst, zN, Int.toNat_natCast] at HS
      generalize hzz : ls.getD sn 0 = z at *
      obtain ⟨y, rfl⟩ : ∃ j : Nat, z = j := ⟨z.toNat, by omega⟩
      simp only [Int.toNat_natCast] at HS
      have hy : y < 13 := by omega
      have hcm := HHR.out.cm y hy
      have hfz := HHR.out.frz (1 + y)
      have hbd := HBD.out t y hy
      have HR2 := HHR.out.store y ((hm ls (od.take t)).getD y 0 + 1) hy
      rw [← HS] at HR2
      generalize (hm ls (od.take t)).getD y 0 = c at *
      have HO2 : Hid (Only (fun b => b = H) wr (wr.setCell ⟨H, 1 + y, none⟩ (.int .i64 (c + 1)))) := Only.setCell (Only.refl (fun b => b = H) wr) (p := ⟨H, 1 + y, none⟩) (.inl rfl) _
      have HHR2 : Hid (HR (wr.setCell ⟨H, 1 + y, none⟩ (.int .i64 (c + 1))) H R (hm ls (od.take (t + 1))) (some ⟨b1, o1, none⟩) N co) := HR2
      have HM2 : Hid (MinI (wr.setCell ⟨H, 1 + y, none⟩ (.int .i64 (c + 1))) w.heap.size H (some ⟨b1, o1, none⟩) co od) := HM.out.only HO2.out (fun k _ h2 => by omega)
      have HB2 : Hid (Below w.heap.size w (wr.setCell ⟨H, 1 + y, none⟩ (.int .i64 (c + 1)))) := HBL.out.setCell (p := ⟨H, 1 + y, none⟩) hHs _
      clear HR2 HS HM HBL HHR HO2
      go_wp2
      go_region
      go_wp2
      go_roundw
      case rel => exact ⟨t + 1, by omega, by go_num, ⟨HHR2.out.h, HHR2.out.l⟩, HM2.out, HB2.out.drew⟩
      case measure => simp [intOf]; omega
    · have hkn : t = N := by omega
      subst hkn
      rw [HCE.out] at HHR
      go_wp2
      go_ret
      exact ⟨H, ao, co, rfl, HHR.out, HM.out, hHs, HBL.out⟩
end Go.Proofs.YtkjebacpmmfflaaDoor
