/-
  Less of the heap of parcels. (Typed by wip/mkpcl.py.)
-/
import Derived.Test.YtkjebacpmmfflaaDoorPcA
import Derived.Deep.RegionHeld3
namespace Go.Proofs.YtkjebacpmmfflaaDoor
open Go.RowKit
set_option linter.unusedVariables false
set_option linter.unusedSimpArgs false

def dpc : Pc := .coin 0 0
/-- The slice at a has the parcels ps. -/
def Pcs (w : World) (a : Option Addr) (ps : List Pc) : Prop :=
  0 < ps.length → ∃ b off, a = some ⟨b, off, none⟩ ∧ b < w.heap.size ∧ ∀ i, i < ps.length → w.cell? ⟨b, off + i, none⟩ = some (ps.getD i dpc).vl
theorem Pcs.below {w w' : World} {a : Option Addr} {ps : List Pc} (h : Pcs w a ps) (hb : Below w.heap.size w w') : Pcs w' a ps := fun h0 => by
  obtain ⟨b, o, e, hl, hc⟩ := h h0
  exact ⟨b, o, e, Nat.lt_of_lt_of_le hl hb.size, fun i hi => keep hb hl (hc i hi)⟩

def orZ (x y : Int) : Int := if x = 0 then y else x
set_option maxHeartbeats 2000000 in
theorem or_any (g : Nat) (x y : Int) (w : World) (hx : w.cell? ⟨g, 0, none⟩ = some (.int .i64 x)) (hy : w.cell? ⟨g, 1, none⟩ = some (.int .i64 y)) :
    Calls Tryd.prog 104 #[.slice (some ⟨g, 0, none⟩) 2 2] w fun e w' => e = .returned (.int .i64 (orZ x y)) ∧ w' = w := by
  unfold orZ
  by_cases h0 : x = 0
  · rw [if_pos h0]
    have d0 : (x != 0) = false := by simp [h0]
    by_cases h1 : y = 0
    · have d1 : (y != 0) = false := by simp [h1]
      go_enter Tryd.func104, Tryd.ntmps104
      go_wp2
      refine wp_loop_rounds 3 ?_
      rw [rounds_succ]
      go_wp2
      rw [rounds_succ]
      go_wp2
      rw [rounds_succ]
      go_wp2
      go_ret
      exact ⟨by rw [h1]; rfl, rfl⟩
    · have d1 : (y != 0) = true := by simp [h1]
      go_enter Tryd.func104, Tryd.ntmps104
      go_wp2
      refine wp_loop_rounds 2 ?_
      rw [rounds_succ]
      go_wp2
      rw [rounds_succ]
      go_wp2
      go_ret
      exact ⟨rfl, rfl⟩
  · rw [if_neg h0]
    have d0 : (x != 0) = true := by simp [h0]
    go_enter Tryd.func104, Tryd.ntmps104
    go_wp2
    refine wp_loop_rounds 1 ?_
    rw [rounds_succ]
    go_wp2
    go_ret
    exact ⟨rfl, rfl⟩

theorem key_lt (p q : Pc) (hp : p.fine) (hq : q.fine) : decide (orZ (cmp3 p.wt q.wt) (cmp3 p.plc q.plc) < 0) = decide (p.key < q.key) := by
  obtain ⟨h1, h2⟩ := hp
  obtain ⟨h3, h4⟩ := hq
  unfold Pc.key orZ cmp3
  congr 1
  apply propext
  repeat' split
  all_goals omega
set_option maxRecDepth 20000 in
set_option maxHeartbeats 8000000 in
theorem less_two (b o i j n c : Nat) (p q : Pc) (w : World) (hbl : b < w.heap.size) (hp : w.cell? ⟨b, o + i, none⟩ = some p.vl) (hq : w.cell? ⟨b, o + j, none⟩ = some q.vl) (hpf : p.fine) (hqf : q.fine) (hi : i < n) (hj : j < n) :
    Calls Tryd.prog 101 #[.slice (some ⟨b, o, none⟩) n c, .int .i64 i, .int .i64 j] w fun e w' => e = .returned (.bool (decide (p.key < q.key))) ∧ Below w.heap.size w w' := by
  rw [← key_lt p q hpf hqf]
  have HPF : Hid (p.fine ∧ q.fine) := ⟨hpf, hqf⟩
  have hi2 : (i : Int) < (n : Int) := by omega
  have hj2 : (j : Int) < (n : Int) := by omega
  clear hpf hqf
  have mcw := Tryd.meth_coin_weight
  have mcp := Tryd.meth_coin_place
  have mpw := Tryd.meth_coinPack_weight
  have mpp := Tryd.meth_coinPack_place
  have HB : Hid (Below w.heap.size w w.drew) := ⟨rfl, rfl, rfl, Nat.le_refl _, fun _ _ => rfl⟩
  rcases p with ⟨s, k⟩ | ⟨pa, pb, pn⟩
  · rcases q with ⟨t, m⟩ | ⟨qa, qb, qn⟩
    · simp only [Pc.vl, Pc.bd] at hp hq
      simp only [Pc.wt, Pc.plc]
      clear HPF
      go_enter Tryd.func101, Tryd.ntmps101
      go_wp2_with fail
      go_region_held3 (fun W => W.cell? ⟨b, o + i, none⟩ = some (.iface 93 (.agg #[.int .i64 s, .int .i64 k])) ∧ W.cell? ⟨b, o + j, none⟩ = some (.iface 93 (.agg #[.int .i64 t, .int .i64 m])))
        (first | exact ⟨keep HB.out hbl hp, keep HB.out hbl hq⟩)
        (first
          | (go_at_call 100; refine (coinWeight_any _ _ _).mono ?_; rintro e w8 ⟨rfl, hb8'⟩; have HB : Hid (Below w.heap.size w w8) := HB.out.trans (hb8'.mono HB.out.size); clear hb8')
          | (go_at_call 103; refine (compare_any _ _ _).mono ?_; rintro e w8 ⟨rfl, hb8'⟩; have HB : Hid (Below w.heap.size w w8) := HB.out.trans (hb8'.mono HB.out.size); clear hb8'))
      all_goals
        go_wp2_with fail
        have HB : Hid (Below w.heap.size w w8.drew) := HB.out.drew
        go_region_held3 (fun W => W.cell? ⟨b, o + i, none⟩ = some (.iface 93 (.agg #[.int .i64 s, .int .i64 k])) ∧ W.cell? ⟨b, o + j, none⟩ = some (.iface 93 (.agg #[.int .i64 t, .int .i64 m])))
          (first | exact ⟨keep HB.out hbl hp, keep HB.out hbl hq⟩ | exact ⟨keep (HB.out.alloc HB.out.size _) hbl hp, keep (HB.out.alloc HB.out.size _) hbl hq⟩)
          (first
            | (go_at_call 99; refine (coinPlace_any _ _ _).mono ?_; rintro e w8 ⟨rfl, hb8'⟩; have HB : Hid (Below w.heap.size w w8) := HB.out.trans (hb8'.mono HB.out.size); clear hb8')
            | (go_at_call 103; refine (compare_any _ _ _).mono ?_; rintro e w8 ⟨rfl, hb8'⟩; have HB : Hid (Below w.heap.size w w8) := HB.out.trans (hb8'.mono HB.out.size); clear hb8')
            | (go_at_call 104; refine (or_any _ (cmp3 k m) (cmp3 s t) _ (by simp) (by simp)).mono ?_; rintro e w9 ⟨rfl, rfl⟩))
        all_goals
          go_wp2
          go_ret
          exact ⟨by first | rfl | simp, HB.out.alloc HB.out.size _⟩
    · simp only [Pc.vl] at hp hq
      rw [show (Pc.coin s k).bd = .agg #[.int .i64 s, .int .i64 k] from rfl] at hp
      have hqn : qn ≤ 1000 := by have := HPF.out.2.2; simp only [Pc.plc] at this; omega
      obtain ⟨Yw, hYw⟩ : ∃ x, x = (Pc.pack qa qb qn).wt := ⟨_, rfl⟩
      obtain ⟨Yp, hYp⟩ : ∃ x, x = (Pc.pack qa qb qn).plc := ⟨_, rfl⟩
      have HWY : Hid (∀ W, Calls Tryd.prog 109 #[(Pc.pack qa qb qn).bd] W fun e w' => e = .returned (.int .i64 (Yw : Nat)) ∧ Below W.heap.size W w') := by rw [hYw]; exact fun W => packWeight_any _ _ _ W
      have HPY : Hid (∀ W, Calls Tryd.prog 108 #[(Pc.pack qa qb qn).bd] W fun e w' => e = .returned (.int .i64 (Yp : Nat)) ∧ Below W.heap.size W w') := by rw [hYp]; exact fun W => packPlace_any _ _ _ W (by assumption)
      rw [← hYw, ← hYp]
      clear hYw hYp
      generalize (Pc.pack qa qb qn).bd = Yv at *
      simp only [Pc.wt, Pc.plc]
      clear HPF
      go_enter Tryd.func101, Tryd.ntmps101
      go_wp2_with fail
      go_region_held3 (fun W => W.cell? ⟨b, o + i, none⟩ = some (.iface 93 (.agg #[.int .i64 s, .int .i64 k])) ∧ W.cell? ⟨b, o + j, none⟩ = some (.iface 101 Yv))
        (first | exact ⟨keep HB.out hbl hp, keep HB.out hbl hq⟩)
        (first
          | (go_at_call 100; refine (coinWeight_any _ _ _).mono ?_; rintro e w8 ⟨rfl, hb8'⟩; have HB : Hid (Below w.heap.size w w8) := HB.out.trans (hb8'.mono HB.out.size); clear hb8')
          | (go_at_call 109; refine (HWY.out _).mono ?_; rintro e w8 ⟨rfl, hb8'⟩; have HB : Hid (Below w.heap.size w w8) := HB.out.trans (hb8'.mono HB.out.size); clear hb8')
          | (go_at_call 103; refine (compare_any _ _ _).mono ?_; rintro e w8 ⟨rfl, hb8'⟩; have HB : Hid (Below w.heap.size w w8) := HB.out.trans (hb8'.mono HB.out.size); clear hb8'))
      all_goals
        go_wp2_with fail
        have HB : Hid (Below w.heap.size w w8.drew) := HB.out.drew
        go_region_held3 (fun W => W.cell? ⟨b, o + i, none⟩ = some (.iface 93 (.agg #[.int .i64 s, .int .i64 k])) ∧ W.cell? ⟨b, o + j, none⟩ = some (.iface 101 Yv))
          (first | exact ⟨keep HB.out hbl hp, keep HB.out hbl hq⟩ | exact ⟨keep (HB.out.alloc HB.out.size _) hbl hp, keep (HB.out.alloc HB.out.size _) hbl hq⟩)
          (first
            | (go_at_call 99; refine (coinPlace_any _ _ _).mono ?_; rintro e w8 ⟨rfl, hb8'⟩; have HB : Hid (Below w.heap.size w w8) := HB.out.trans (hb8'.mono HB.out.size); clear hb8')
            | (go_at_call 108; refine (HPY.out _).mono ?_; rintro e w8 ⟨rfl, hb8'⟩; have HB : Hid (Below w.heap.size w w8) := HB.out.trans (hb8'.mono HB.out.size); clear hb8')
            | (go_at_call 103; refine (compare_any _ _ _).mono ?_; rintro e w8 ⟨rfl, hb8'⟩; have HB : Hid (Below w.heap.size w w8) := HB.out.trans (hb8'.mono HB.out.size); clear hb8')
            | (go_at_call 104; refine (or_any _ (cmp3 k Yw) (cmp3 s Yp) _ (by simp) (by simp)).mono ?_; rintro e w9 ⟨rfl, rfl⟩))
        all_goals
          go_wp2
          go_ret
          exact ⟨by first | rfl | simp, HB.out.alloc HB.out.size _⟩
  · rcases q with ⟨t, m⟩ | ⟨qa, qb, qn⟩
    · simp only [Pc.vl] at hp hq
      rw [show (Pc.coin t m).bd = .agg #[.int .i64 t, .int .i64 m] from rfl] at hq
      have hpn : pn ≤ 1000 := by have := HPF.out.1.2; simp only [Pc.plc] at this; omega
      obtain ⟨Xw, hXw⟩ : ∃ x, x = (Pc.pack pa pb pn).wt := ⟨_, rfl⟩
      obtain ⟨Xp, hXp⟩ : ∃ x, x = (Pc.pack pa pb pn).plc := ⟨_, rfl⟩
      have HWX : Hid (∀ W, Calls Tryd.prog 109 #[(Pc.pack pa pb pn).bd] W fun e w' => e = .returned (.int .i64 (Xw : Nat)) ∧ Below W.heap.size W w') := by rw [hXw]; exact fun W => packWeight_any _ _ _ W
      have HPX : Hid (∀ W, Calls Tryd.prog 108 #[(Pc.pack pa pb pn).bd] W fun e w' => e = .returned (.int .i64 (Xp : Nat)) ∧ Below W.heap.size W w') := by rw [hXp]; exact fun W => packPlace_any _ _ _ W (by assumption)
      rw [← hXw, ← hXp]
      clear hXw hXp
      generalize (Pc.pack pa pb pn).bd = Xv at *
      simp only [Pc.wt, Pc.plc]
      clear HPF
      go_enter Tryd.func101, Tryd.ntmps101
      go_wp2_with fail
      go_region_held3 (fun W => W.cell? ⟨b, o + i, none⟩ = some (.iface 101 Xv) ∧ W.cell? ⟨b, o + j, none⟩ = some (.iface 93 (.agg #[.int .i64 t, .int .i64 m])))
        (first | exact ⟨keep HB.out hbl hp, keep HB.out hbl hq⟩)
        (first
          | (go_at_call 100; refine (coinWeight_any _ _ _).mono ?_; rintro e w8 ⟨rfl, hb8'⟩; have HB : Hid (Below w.heap.size w w8) := HB.out.trans (hb8'.mono HB.out.size); clear hb8')
          | (go_at_call 109; refine (HWX.out _).mono ?_; rintro e w8 ⟨rfl, hb8'⟩; have HB : Hid (Below w.heap.size w w8) := HB.out.trans (hb8'.mono HB.out.size); clear hb8')
          | (go_at_call 103; refine (compare_any _ _ _).mono ?_; rintro e w8 ⟨rfl, hb8'⟩; have HB : Hid (Below w.heap.size w w8) := HB.out.trans (hb8'.mono HB.out.size); clear hb8'))
      all_goals
        go_wp2_with fail
        have HB : Hid (Below w.heap.size w w8.drew) := HB.out.drew
        go_region_held3 (fun W => W.cell? ⟨b, o + i, none⟩ = some (.iface 101 Xv) ∧ W.cell? ⟨b, o + j, none⟩ = some (.iface 93 (.agg #[.int .i64 t, .int .i64 m])))
          (first | exact ⟨keep HB.out hbl hp, keep HB.out hbl hq⟩ | exact ⟨keep (HB.out.alloc HB.out.size _) hbl hp, keep (HB.out.alloc HB.out.size _) hbl hq⟩)
          (first
            | (go_at_call 99; refine (coinPlace_any _ _ _).mono ?_; rintro e w8 ⟨rfl, hb8'⟩; have HB : Hid (Below w.heap.size w w8) := HB.out.trans (hb8'.mono HB.out.size); clear hb8')
            | (go_at_call 108; refine (HPX.out _).mono ?_; rintro e w8 ⟨rfl, hb8'⟩; have HB : Hid (Below w.heap.size w w8) := HB.out.trans (hb8'.mono HB.out.size); clear hb8')
            | (go_at_call 103; refine (compare_any _ _ _).mono ?_; rintro e w8 ⟨rfl, hb8'⟩; have HB : Hid (Below w.heap.size w w8) := HB.out.trans (hb8'.mono HB.out.size); clear hb8')
            | (go_at_call 104; refine (or_any _ (cmp3 Xw m) (cmp3 Xp t) _ (by simp) (by simp)).mono ?_; rintro e w9 ⟨rfl, rfl⟩))
        all_goals
          go_wp2
          go_ret
          exact ⟨by first | rfl | simp, HB.out.alloc HB.out.size _⟩
    · simp only [Pc.vl] at hp hq
      have hpn : pn ≤ 1000 := by have := HPF.out.1.2; simp only [Pc.plc] at this; omega
      have hqn : qn ≤ 1000 := by have := HPF.out.2.2; simp only [Pc.plc] at this; omega
      obtain ⟨Xw, hXw⟩ : ∃ x, x = (Pc.pack pa pb pn).wt := ⟨_, rfl⟩
      obtain ⟨Xp, hXp⟩ : ∃ x, x = (Pc.pack pa pb pn).plc := ⟨_, rfl⟩
      have HWX : Hid (∀ W, Calls Tryd.prog 109 #[(Pc.pack pa pb pn).bd] W fun e w' => e = .returned (.int .i64 (Xw : Nat)) ∧ Below W.heap.size W w') := by rw [hXw]; exact fun W => packWeight_any _ _ _ W
      have HPX : Hid (∀ W, Calls Tryd.prog 108 #[(Pc.pack pa pb pn).bd] W fun e w' => e = .returned (.int .i64 (Xp : Nat)) ∧ Below W.heap.size W w') := by rw [hXp]; exact fun W => packPlace_any _ _ _ W (by assumption)
      rw [← hXw, ← hXp]
      clear hXw hXp
      generalize (Pc.pack pa pb pn).bd = Xv at *
      obtain ⟨Yw, hYw⟩ : ∃ x, x = (Pc.pack qa qb qn).wt := ⟨_, rfl⟩
      obtain ⟨Yp, hYp⟩ : ∃ x, x = (Pc.pack qa qb qn).plc := ⟨_, rfl⟩
      have HWY : Hid (∀ W, Calls Tryd.prog 109 #[(Pc.pack qa qb qn).bd] W fun e w' => e = .returned (.int .i64 (Yw : Nat)) ∧ Below W.heap.size W w') := by rw [hYw]; exact fun W => packWeight_any _ _ _ W
      have HPY : Hid (∀ W, Calls Tryd.prog 108 #[(Pc.pack qa qb qn).bd] W fun e w' => e = .returned (.int .i64 (Yp : Nat)) ∧ Below W.heap.size W w') := by rw [hYp]; exact fun W => packPlace_any _ _ _ W (by assumption)
      rw [← hYw, ← hYp]
      clear hYw hYp
      generalize (Pc.pack qa qb qn).bd = Yv at *
      clear HPF
      go_enter Tryd.func101, Tryd.ntmps101
      go_wp2_with fail
      go_region_held3 (fun W => W.cell? ⟨b, o + i, none⟩ = some (.iface 101 Xv) ∧ W.cell? ⟨b, o + j, none⟩ = some (.iface 101 Yv))
        (first | exact ⟨keep HB.out hbl hp, keep HB.out hbl hq⟩)
        (first
          | (go_at_call 109; refine (HWX.out _).mono ?_; rintro e w8 ⟨rfl, hb8'⟩; have HB : Hid (Below w.heap.size w w8) := HB.out.trans (hb8'.mono HB.out.size); clear hb8')
          | (go_at_call 109; refine (HWY.out _).mono ?_; rintro e w8 ⟨rfl, hb8'⟩; have HB : Hid (Below w.heap.size w w8) := HB.out.trans (hb8'.mono HB.out.size); clear hb8')
          | (go_at_call 103; refine (compare_any _ _ _).mono ?_; rintro e w8 ⟨rfl, hb8'⟩; have HB : Hid (Below w.heap.size w w8) := HB.out.trans (hb8'.mono HB.out.size); clear hb8'))
      all_goals
        go_wp2_with fail
        have HB : Hid (Below w.heap.size w w8.drew) := HB.out.drew
        go_region_held3 (fun W => W.cell? ⟨b, o + i, none⟩ = some (.iface 101 Xv) ∧ W.cell? ⟨b, o + j, none⟩ = some (.iface 101 Yv))
          (first | exact ⟨keep HB.out hbl hp, keep HB.out hbl hq⟩ | exact ⟨keep (HB.out.alloc HB.out.size _) hbl hp, keep (HB.out.alloc HB.out.size _) hbl hq⟩)
          (first
            | (go_at_call 108; refine (HPX.out _).mono ?_; rintro e w8 ⟨rfl, hb8'⟩; have HB : Hid (Below w.heap.size w w8) := HB.out.trans (hb8'.mono HB.out.size); clear hb8')
            | (go_at_call 108; refine (HPY.out _).mono ?_; rintro e w8 ⟨rfl, hb8'⟩; have HB : Hid (Below w.heap.size w w8) := HB.out.trans (hb8'.mono HB.out.size); clear hb8')
            | (go_at_call 103; refine (compare_any _ _ _).mono ?_; rintro e w8 ⟨rfl, hb8'⟩; have HB : Hid (Below w.heap.size w w8) := HB.out.trans (hb8'.mono HB.out.size); clear hb8')
            | (go_at_call 104; refine (or_any _ (cmp3 Xw Yw) (cmp3 Xp Yp) _ (by simp) (by simp)).mono ?_; rintro e w9 ⟨rfl, rfl⟩))
        all_goals
          go_wp2
          go_ret
          exact ⟨by first | rfl | simp, HB.out.alloc HB.out.size _⟩
end Go.Proofs.YtkjebacpmmfflaaDoor
