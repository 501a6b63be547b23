/-
  Who is at each sector: a map of rows of numbers.
-/
import Derived.Test.YtihpnijjkjbmlaaGreatDoorMpM
import Derived.Test.YtihpnijjkjbmlaaGreatDoorIApp0
import Derived.Maps.GroupsBeside
import Derived.OpenShut
import Derived.ChangeSlices
namespace Go.Proofs.YtihpnijjkjbmlaaGreatDoor
open Go.RowKit
set_option linter.unusedVariables false
set_option linter.unusedSimpArgs false

theorem sectorOk_any (x : Int) (w : World) :
    Calls Tryz.prog 100 #[.int .i64 x] w fun e w' => e = .returned (.bool (decide (2 ≤ x ∧ x ≤ 23))) ∧ w' = w := by
  have key : (2 ≤ x ∧ x < 24) ∨ x < 2 ∨ (2 ≤ x ∧ 24 ≤ x) := by omega
  rcases key with ⟨h1, h2⟩ | h1 | ⟨h1, h2⟩
  · rw [decide_eq_true (show 2 ≤ x ∧ x ≤ 23 by omega)]
    go_enter Tryz.func100, Tryz.ntmps100
    go_wp2
    go_ret
    exact ⟨by simp [h1, h2], rfl⟩
  · rw [decide_eq_false (show ¬ (2 ≤ x ∧ x ≤ 23) by omega)]
    go_enter Tryz.func100, Tryz.ntmps100
    go_wp2
    go_ret
    exact ⟨rfl, rfl⟩
  · rw [decide_eq_false (show ¬ (2 ≤ x ∧ x ≤ 23) by omega)]
    have h3 : ¬ x < 24 := by omega
    go_enter Tryz.func100, Tryz.ntmps100
    go_wp2
    go_ret
    exact ⟨by simp [h3], rfl⟩

set_option maxHeartbeats 800000 in
theorem isNowhere_any (x y : Int) (w : World) :
    Calls Tryz.prog 88 #[.agg #[.int .i64 x, .int .i64 y]] w fun e w' => e = .returned (.bool (nwh (x, y))) ∧ Below w.heap.size w w' := by
  have key : (x = 0 ∧ y = 0) ∨ (x = 0 ∧ ¬ y = 0) ∨ ¬ x = 0 := by omega
  rcases key with ⟨rfl, rfl⟩ | ⟨rfl, h⟩ | h
  · go_enter Tryz.func88, Tryz.ntmps88
    go_wp2
    go_ret
    exact ⟨rfl, (Below.refl _ _).alloc (Nat.le_refl _) _⟩
  · rw [show nwh (0, y) = false from by unfold nwh; simp [h]]
    go_enter Tryz.func88, Tryz.ntmps88
    go_wp2
    go_ret
    exact ⟨rfl, (Below.refl _ _).alloc (Nat.le_refl _) _⟩
  · rw [show nwh (x, y) = false from by unfold nwh; simp [h]]
    go_enter Tryz.func88, Tryz.ntmps88
    go_wp2
    go_ret
    exact ⟨rfl, (Below.refl _ _).alloc (Nat.le_refl _) _⟩

set_option maxHeartbeats 800000 in
theorem right_any (x y : Int) (w : World) :
    Calls Tryz.prog 89 #[.agg #[.int .i64 x, .int .i64 y]] w fun e w' => e = .returned (.bool (rgt (x, y))) ∧ Below w.heap.size w w' := by
  have hw : Below w.heap.size w (w.alloc (Obj.cells #[Value.int IntKind.i64 x, Value.int IntKind.i64 y] 81)) := (Below.refl _ _).alloc (Nat.le_refl _) _
  have key : (2 ≤ x ∧ x ≤ 23) ∨ ¬ (2 ≤ x ∧ x ≤ 23) := by omega
  rcases key with h | h
  · have kk : (0 ≤ y ∧ y < 16) ∨ ¬ (0 ≤ y) ∨ (0 ≤ y ∧ ¬ y < 16) := by omega
    rcases kk with ⟨h1, h2⟩ | h1 | ⟨h1, h2⟩
    · rw [show rgt (x, y) = true from decide_eq_true ⟨h.1, h.2, h1, by simp only; omega⟩]
      go_enter Tryz.func89, Tryz.ntmps89
      go_wp2_with fail
      refine (sectorOk_any x _).mono ?_
      rintro e w1 ⟨rfl, rfl⟩
      rw [decide_eq_true h]
      go_wp2
      go_ret
      exact ⟨by simp [h1, h2], hw⟩
    · rw [show rgt (x, y) = false from decide_eq_false (fun hh => h1 hh.2.2.1)]
      go_enter Tryz.func89, Tryz.ntmps89
      go_wp2_with fail
      refine (sectorOk_any x _).mono ?_
      rintro e w1 ⟨rfl, rfl⟩
      rw [decide_eq_true h]
      go_wp2
      go_ret
      exact ⟨by simp [h1], hw⟩
    · rw [show rgt (x, y) = false from decide_eq_false (fun hh => h2 (by have := hh.2.2.2; simp only at this; omega))]
      go_enter Tryz.func89, Tryz.ntmps89
      go_wp2_with fail
      refine (sectorOk_any x _).mono ?_
      rintro e w1 ⟨rfl, rfl⟩
      rw [decide_eq_true h]
      go_wp2
      go_ret
      exact ⟨by simp [h1, h2], hw⟩
  · rw [show rgt (x, y) = false from decide_eq_false (fun hh => h ⟨hh.1, hh.2.1⟩)]
    go_enter Tryz.func89, Tryz.ntmps89
    go_wp2_with fail
    refine (sectorOk_any x _).mono ?_
    rintro e w1 ⟨rfl, rfl⟩
    rw [decide_eq_false h]
    go_wp2
    go_ret
    exact ⟨rfl, hw⟩

theorem hasP_any (a : Option Addr) (n c : Nat) (x : Int) (w : World) (hn : n ≤ 1048576) :
    Calls Tryz.prog 99 #[.slice a n c, .int .i64 x] w fun e w' => e = .returned (.bool (decide (0 ≤ x ∧ x < n))) ∧ w' = w := by
  have key : (0 ≤ x ∧ x < n) ∨ ¬ 0 ≤ x ∨ (0 ≤ x ∧ ¬ x < n) := by omega
  rcases key with ⟨h1, h2⟩ | h1 | ⟨h1, h2⟩
  · rw [decide_eq_true ⟨h1, h2⟩]
    go_enter Tryz.func99, Tryz.ntmps99
    go_wp2
    go_ret
    exact ⟨by simp [h1, h2], rfl⟩
  · rw [decide_eq_false (fun hh => h1 hh.1)]
    go_enter Tryz.func99, Tryz.ntmps99
    go_wp2
    go_ret
    exact ⟨by simp [h1], rfl⟩
  · rw [decide_eq_false (fun hh => h2 hh.2)]
    go_enter Tryz.func99, Tryz.ntmps99
    go_wp2
    go_ret
    exact ⟨by simp [h1, h2], rfl⟩

/-- The place of an address; nowhere for who is none. -/
def plcO (ps : List (Int × Int)) (x : Int) : Int × Int := if 0 ≤ x ∧ x < ps.length then ps.getD x.toNat dp else dp

set_option maxHeartbeats 800000 in
theorem placeOf_any (a : Option Addr) (c : Nat) (ps : List (Int × Int)) (x : Int) (w : World) (hb : Pls w a ps) (hn : ps.length ≤ 1048576) :
    Calls Tryz.prog 87 #[.slice a ps.length c, .int .i64 x] w fun e w' => e = .returned (.agg #[.int .i64 (plcO ps x).1, .int .i64 (plcO ps x).2]) ∧ Below w.heap.size w w' := by
  have hw : Below w.heap.size w (w.alloc (Obj.cells #[Value.int IntKind.i64 0, Value.int IntKind.i64 0] 81)) := (Below.refl _ _).alloc (Nat.le_refl _) _
  by_cases h : 0 ≤ x ∧ x < ps.length
  · obtain ⟨k, rfl⟩ := Int.eq_ofNat_of_zero_le h.1
    have hk : k < ps.length := by omega
    have he : plcO ps (k : Nat) = ps.getD k dp := by unfold plcO; rw [if_pos h, Int.toNat_natCast]
    rw [he]
    obtain ⟨b, off, rfl, hb1, hc1⟩ := (hb.alloc (Obj.cells #[Value.int IntKind.i64 0, Value.int IntKind.i64 0] 81)).len_pos k hk
    obtain ⟨c0, c1⟩ := hc1 k hk
    have hbw : b < w.heap.size := by
      obtain ⟨b', off', e, hb', _⟩ := hb.2 (by omega)
      simp at e
      omega
    clear hc1 he hb
    generalize ps.getD k dp = p at *
    generalize ps.length = n at *
    obtain ⟨x, y⟩ := p
    simp only at c0 c1 ⊢
    go_enter Tryz.func87, Tryz.ntmps87
    go_wp2_with fail
    refine (hasP_any _ n c k _ hn).mono ?_
    rintro e w1 ⟨rfl, rfl⟩
    rw [decide_eq_true h]
    go_wp2
    refine bodyPost_ret (v := .agg #[.int .i64 x, .int .i64 y]) (by simp [results, Tryz.results87, go_sem]) rfl ⟨rfl, ?_⟩
    repeat (refine Below.setCell ?_ (by first | (simp; done) | (simp; omega)) _)
    first | exact hw | exact (Below.refl _ _).alloc (Nat.le_refl _) _
  · have he : plcO ps x = dp := by unfold plcO; rw [if_neg h]
    rw [he]
    clear he hb
    go_enter Tryz.func87, Tryz.ntmps87
    go_wp2_with fail
    refine (hasP_any a ps.length c x _ hn).mono ?_
    rintro e w1 ⟨rfl, rfl⟩
    rw [decide_eq_false h]
    go_wp2
    refine bodyPost_ret (v := .agg #[.int .i64 0, .int .i64 0]) (by simp [results, Tryz.results87, go_sem]) rfl ⟨rfl, ?_⟩
    repeat (refine Below.setCell ?_ (by first | (simp; done) | (simp; omega)) _)
    first | exact hw | exact (Below.refl _ _).alloc (Nat.le_refl _) _
theorem plcO_in (ps : List (Int × Int)) (k : Nat) (h : k < ps.length) : plcO ps k = ps.getD k dp := by unfold plcO; rw [if_pos (by omega), Int.toNat_natCast]
theorem plcO_out (ps : List (Int × Int)) (x : Int) (h : ¬ (0 ≤ x ∧ x < ps.length)) : plcO ps x = dp := by unfold plcO; rw [if_neg h]
theorem plcO_rng {ps : List (Int × Int)} (h : ∀ p ∈ ps, rP p) (x : Int) : rP (plcO ps x) := by
  unfold plcO
  split
  · rename_i hx
    exact h _ (getD_memP (by omega))
  · exact rP_dp
end Go.Proofs.YtihpnijjkjbmlaaGreatDoor
namespace Go.Proofs.YtihpnijjkjbmlaaGreatDoor
open Go.RowKit Go.Maps Go.ChangeShapes Go.ChangeAt
set_option linter.unusedVariables false

theorem Tryz.lawKI : Keyed Tryz.prog 3 := int_keyed Tryz.underlying3
theorem Tryz.zeroSI (w : World) : (zeroValue 29).run Tryz.prog w = .ok (.slice none 0 0) w := by kernel_rfl

/-- What stands at a key reads as these numbers. -/
def Itm (d : DataW Unit) (zs : List Int) : Prop := (d = .nil ∧ zs = []) ∨ d = .slice (lits .i64 zs) []
theorem lits_inj {zs ys : List Int} (h : (lits .i64 zs : List (DataW Unit)) = lits .i64 ys) : zs = ys := by
  unfold lits at h
  exact (List.map_inj_right (fun a b hab => by simpa using hab)).1 h
theorem Itm.eq {d : DataW Unit} {zs ys : List Int} (h : Itm d zs) (h2 : Itm d ys) : zs = ys := by
  rcases h with ⟨h, rfl⟩ | h <;> rcases h2 with ⟨h2, rfl⟩ | h2
  · rfl
  · rw [h] at h2; cases h2
  · rw [h] at h2; cases h2
  · rw [h] at h2
    injection h2 with h2
    exact lits_inj h2
theorem Itm.of {w : World} {base : Nat} {e : TypeId} {v : Value} {zs : List Int} {d : DataW Unit} (h : w.ownsInts base e .i64 v zs) (hd : d = rowDatum .i64 v zs) : Itm d zs := by
  rcases h.datum (H := Unit) with ⟨h1, h2⟩ | h1
  · exact .inl ⟨hd.trans h1, h2⟩
  · exact .inr (hd.trans h1)

/-- The block M is a map by sectors, of rows of numbers: at the key s stand the numbers f s. -/
def Liv (w : World) (M n : Nat) (f : Int → List Int) : Prop :=
  ∃ D : DataW Unit, w.ownsGroups Tryz.prog 3 (M + 1) 3 .i64 M n D ∧ IsMap D ∧ ∀ s, Itm (D.atKey (.int .i64 s) .nil) (f s)
theorem Liv.made (w : World) : Liv (w.alloc (.map #[] 0)) w.heap.size 0 (fun _ => []) :=
  ⟨.map [], World.ownsGroups_made w _ _ _ _, isMap_empty, fun s => .inl ⟨rfl, rfl⟩⟩
theorem grown_below {w w' : World} (hb : Below w.heap.size w w') : w.grownBy w' none := ⟨hb.os, hb.tape, hb.output, hb.size, fun k hk _ => hb.block k hk⟩
theorem Liv.below {w w' : World} {M n : Nat} {f : Int → List Int} (h : Liv w M n f) (hb : Below w.heap.size w w') : Liv w' M n f := by
  obtain ⟨D, h1, h2, h3⟩ := h
  exact ⟨D, h1.kept (grown_below hb) (by simp) (fun _ _ _ x _ => by cases x.val.ownBlock <;> simp), h2, h3⟩
theorem Liv.lt {w : World} {M n : Nat} {f : Int → List Int} (h : Liv w M n f) : M < w.heap.size := by
  obtain ⟨D, ⟨es, clock, hb, _⟩, _⟩ := h
  exact (Array.getElem?_eq_some_iff.1 hb).1
/-- A look-up. -/
theorem Liv.look {w : World} {M n : Nat} {f : Int → List Int} (h : Liv w M n f) (hn : n ≤ 1000) (s : Int) (hs : (Lit.int .i64 s).wf = true) :
    ∃ v, (Instr.lookup 129 (.map (some M)) (.int .i64 s) false).run Tryz.prog w = .ok v w ∧ OVI w (M + 1) v (f s) ∧ (f s).length ≤ n := by
  obtain ⟨D, h1, h2, h3⟩ := h
  obtain ⟨v, zs, hrun, hat, hoi, hzl, _⟩ := h1.at Tryz.lawKI Tryz.underlying129 (Tryz.zeroSI _) (by unfold maxLen; omega) (keyOf_int_mk Tryz.underlying3 hs)
  obtain rfl : zs = f s := (Itm.of hoi hat).eq (h3 s)
  exact ⟨v, hrun, ⟨hoi.1, fun z hz => bounds_i64 (hoi.2 z hz)⟩, hzl⟩

/-- The addresses below k that are at the sector s. -/
def liv (ps : List (Int × Int)) : Nat → Int → List Int
  | 0, _ => []
  | k + 1, s => if !nwh (ps.getD k dp) && (ps.getD k dp).1 == s then liv ps k s ++ [(k : Int)] else liv ps k s
theorem liv_mem (ps : List (Int × Int)) (k : Nat) (s z : Int) : z ∈ liv ps k s ↔ ∃ i : Nat, i < k ∧ z = i ∧ nwh (ps.getD i dp) = false ∧ (ps.getD i dp).1 = s := by
  induction k with
  | zero => simp [liv]
  | succ k ih =>
    simp only [liv]
    constructor
    · intro h
      split at h
      · rename_i hc
        simp only [Bool.and_eq_true, Bool.not_eq_true', beq_iff_eq] at hc
        rcases List.mem_append.1 h with h | h
        · obtain ⟨i, hi, r⟩ := ih.1 h
          exact ⟨i, by omega, r⟩
        · simp at h
          exact ⟨k, by omega, h, hc.1, hc.2⟩
      · obtain ⟨i, hi, r⟩ := ih.1 h
        exact ⟨i, by omega, r⟩
    · rintro ⟨i, hi, rfl, h1, h2⟩
      rcases Nat.lt_or_ge i k with h | h
      · have := ih.2 ⟨i, h, rfl, h1, h2⟩
        split
        · exact List.mem_append_left _ this
        · exact this
      · obtain rfl : i = k := by omega
        rw [if_pos (by rw [h1, h2]; simp)]
        simp
theorem liv_len (ps : List (Int × Int)) (k : Nat) (s : Int) : (liv ps k s).length ≤ k := by
  induction k with
  | zero => simp [liv]
  | succ k ih =>
    simp only [liv]
    split
    · simp; omega
    · omega
theorem liv_nw (ps : List (Int × Int)) (k : Nat) (h : nwh (ps.getD k dp) = true) : liv ps (k + 1) = liv ps k := by
  funext s
  simp only [liv, h]
  simp
theorem liv_at (ps : List (Int × Int)) (k : Nat) (h : nwh (ps.getD k dp) = false) (s : Int) : liv ps (k + 1) s = if s = (ps.getD k dp).1 then liv ps k s ++ [(k : Int)] else liv ps k s := by
  simp only [liv, h]
  by_cases hs : s = (ps.getD k dp).1
  · rw [if_pos hs, if_pos (by rw [hs]; simp)]
  · rw [if_neg hs, if_neg]
    simp
    exact fun e => hs e.symm
end Go.Proofs.YtihpnijjkjbmlaaGreatDoor
