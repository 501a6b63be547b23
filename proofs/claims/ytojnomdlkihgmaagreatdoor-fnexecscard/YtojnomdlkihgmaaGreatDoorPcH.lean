/-
  The heap of parcels: Len, Swap, Pop.
-/
import Derived.Test.YtojnomdlkihgmaaGreatDoorITxtI
import Derived.Deep.RegionHeld3
import Derived.BigRegion
namespace Go.Proofs.YtojnomdlkihgmaaGreatDoor
open Go.RowKit
set_option linter.unusedVariables false

/-- What CountsOk tells. -/
def cntB (zs : List Int) : Bool := decide (1 ≤ zs.length ∧ zs.length ≤ 80 ∧ ∀ z ∈ zs, 0 ≤ z ∧ z ≤ 1000000)

theorem cntB_bad {zs : List Int} {k : Nat} (hk : k < zs.length) (h : ¬ (0 ≤ zs.getD k 0 ∧ zs.getD k 0 ≤ 1000000)) : cntB zs = false := by
  simp only [cntB, decide_eq_false_iff_not]
  exact fun h' => h (h'.2.2 _ (getD_mem hk))
theorem cntB_all {zs : List Int} (h1 : 1 ≤ zs.length) (h2 : zs.length ≤ 80) (h : ∀ z ∈ zs.take zs.length, 0 ≤ z ∧ z ≤ 1000000) : cntB zs = true := by
  rw [List.take_length] at h
  simp only [cntB, decide_eq_true_eq]
  exact ⟨h1, h2, h⟩
theorem cntB_len {zs : List Int} (h : ¬ (1 ≤ zs.length ∧ zs.length ≤ 80)) : cntB zs = false := by
  simp only [cntB, decide_eq_false_iff_not]
  exact fun h' => h ⟨h'.1, h'.2.1⟩

set_option maxHeartbeats 800000 in
theorem implCnt_any (a : Option Addr) (cap : Nat) (zs : List Int) (w : World) (hb : Ins w a zs) (hn : zs.length ≤ 281474976710656) :
    Calls Tryz.prog 79 #[.slice a zs.length cap] w fun e w' => e = .returned (.bool (cntB zs)) ∧ w' = w := by
  by_cases h1 : 1 ≤ zs.length
  · by_cases h2 : zs.length ≤ 80
    · generalize hlen : zs.length = n at *
      have HL : Hid (zs.length = n) := hlen
      clear hlen
      go_enter Tryz.func79, Tryz.ntmps79
      go_wp2
      go_loop [15] (fun i => ∃ k : Nat, k ≤ n ∧ i = .int .i64 k ∧ ∀ z ∈ zs.take k, 0 ≤ z ∧ z ≤ 1000000) (fun i => n - (intOf i).toNat)
      case atStart => exact ⟨0, Nat.zero_le _, rfl, by simp⟩
      case round =>
        obtain ⟨k, hk, rfl, htk⟩ := hrel
        have HT : Hid (∀ z ∈ zs.take k, 0 ≤ z ∧ z ≤ 1000000) := htk
        clear htk
        by_cases hlt : k < n
        · obtain ⟨b1, o1, rfl, hb1, hc1⟩ := hb.len_pos k (by rw [HL.out]; exact hlt)
          have hs1 := hc1 k (by rw [HL.out]; exact hlt)
          have g1 := getD_rngI hb.1 k
          clear hc1 hb
          generalize hx : zs.getD k 0 = x at *
          have HX : Hid (zs.getD k 0 = x) := hx
          clear hx
          by_cases h3 : 0 ≤ x
          · by_cases h4 : x ≤ 1000000
            · have HT' : Hid (∀ z ∈ zs.take (k + 1), 0 ≤ z ∧ z ≤ 1000000) := all_take_succ HT.out (by rw [HL.out]; exact hlt) (by rw [HX.out]; exact ⟨h3, h4⟩)
              go_wp2
              go_round
              case rel => exact ⟨k + 1, by omega, by go_num, HT'.out⟩
              case measure => simp [intOf]; omega
            · have HN : Hid (cntB zs = false) := cntB_bad (by rw [HL.out]; exact hlt) (by rw [HX.out]; omega)
              go_wp2
              go_ret
              exact ⟨by simp [HN.out], rfl⟩
          · have HN : Hid (cntB zs = false) := cntB_bad (by rw [HL.out]; exact hlt) (by rw [HX.out]; omega)
            go_wp2
            go_ret
            exact ⟨by simp [HN.out], rfl⟩
        · have hkn : k = n := by omega
          subst hkn
          have HE : Hid (cntB zs = true) := cntB_all (by rw [HL.out]; exact h1) (by rw [HL.out]; exact h2) (by rw [HL.out]; exact HT.out)
          go_wp2
          go_ret
          exact ⟨by simp [HE.out], rfl⟩
    · rw [cntB_len (by omega)]
      go_enter Tryz.func79, Tryz.ntmps79
      go_wp2
      go_ret
      exact ⟨rfl, rfl⟩
  · rw [cntB_len (by omega)]
    go_enter Tryz.func79, Tryz.ntmps79
    go_wp2
    go_ret
    exact ⟨rfl, rfl⟩
set_option linter.unusedSimpArgs false
inductive Pc where
  | coin (s c : Nat)
  | pack (a b : Pc) (n : Nat)
def Pc.wt : Pc → Nat
  | .coin s c => c
  | .pack a b n => a.wt + b.wt
def Pc.plc : Pc → Nat
  | .coin s c => s
  | .pack a b n => 80 + n
def Pc.bd : Pc → Value
  | .coin s c => .agg #[.int .i64 s, .int .i64 c]
  | .pack a b n => .agg #[match a with | .coin _ _ => .iface 171 a.bd | .pack _ _ _ => .iface 178 a.bd, match b with | .coin _ _ => .iface 171 b.bd | .pack _ _ _ => .iface 178 b.bd, .int .i64 ((a.wt + b.wt : Nat) : Int), .int .i64 n]
def Pc.vl : Pc → Value
  | .coin s c => .iface 171 (Pc.coin s c).bd
  | .pack a b n => .iface 178 (Pc.pack a b n).bd
theorem Pc.bd_pack (a b : Pc) (n : Nat) : (Pc.pack a b n).bd = .agg #[a.vl, b.vl, .int .i64 ((a.wt + b.wt : Nat) : Int), .int .i64 n] := by
  cases a <;> cases b <;> rfl
/-- Its numbers are within an int. -/
def Pc.fine (p : Pc) : Prop := p.wt ≤ 1000000000000 ∧ p.plc ≤ 1000
theorem Pc.one (p : Pc) : p.vl.oneCell' = true := by cases p <;> rfl
theorem Pc.form (p : Pc) : ∃ t x, p.vl = .iface t x := by cases p <;> exact ⟨_, _, rfl⟩
def Pc.key (p : Pc) : Nat := p.wt * 1024 + p.plc

theorem Tryz.meth_coin_weight (v : Value) (w : World) : Sem.run Tryz.prog (method 351 171 v "loop.example/g00528/impl.weight") w = .ok (139, v) w := by kernel_rfl
theorem Tryz.meth_coin_place (v : Value) (w : World) : Sem.run Tryz.prog (method 351 171 v "loop.example/g00528/impl.place") w = .ok (138, v) w := by kernel_rfl
theorem Tryz.meth_coin_countInto (v : Value) (w : World) : Sem.run Tryz.prog (method 351 171 v "loop.example/g00528/impl.countInto") w = .ok (137, v) w := by kernel_rfl
theorem Tryz.meth_coinPack_weight (v : Value) (w : World) : Sem.run Tryz.prog (method 351 178 v "loop.example/g00528/impl.weight") w = .ok (148, v) w := by kernel_rfl
theorem Tryz.meth_coinPack_place (v : Value) (w : World) : Sem.run Tryz.prog (method 351 178 v "loop.example/g00528/impl.place") w = .ok (147, v) w := by kernel_rfl
theorem Tryz.meth_coinPack_countInto (v : Value) (w : World) : Sem.run Tryz.prog (method 351 178 v "loop.example/g00528/impl.countInto") w = .ok (146, v) w := by kernel_rfl

set_option maxHeartbeats 1000000 in
theorem coinWeight_any (s c : Nat) (w : World) : Calls Tryz.prog 139 #[.agg #[.int .i64 s, .int .i64 c]] w fun e w' => e = .returned (.int .i64 c) ∧ Below w.heap.size w w' := by
  go_enter Tryz.func139, Tryz.ntmps139
  go_wp2
  go_ret
  exact ⟨rfl, (Below.refl _ _).alloc (Nat.le_refl _) _⟩
set_option maxHeartbeats 1000000 in
theorem coinPlace_any (s c : Nat) (w : World) : Calls Tryz.prog 138 #[.agg #[.int .i64 s, .int .i64 c]] w fun e w' => e = .returned (.int .i64 s) ∧ Below w.heap.size w w' := by
  go_enter Tryz.func138, Tryz.ntmps138
  go_wp2
  go_ret
  exact ⟨rfl, (Below.refl _ _).alloc (Nat.le_refl _) _⟩
set_option maxHeartbeats 1000000 in
theorem packWeight_any (a b : Pc) (n : Nat) (w : World) : Calls Tryz.prog 148 #[(Pc.pack a b n).bd] w fun e w' => e = .returned (.int .i64 ((Pc.pack a b n).wt : Nat)) ∧ Below w.heap.size w w' := by
  rw [Pc.bd_pack]
  show Calls _ _ _ _ fun e w' => e = .returned (.int .i64 ((a.wt + b.wt : Nat) : Int)) ∧ _
  generalize a.wt + b.wt = m
  generalize a.vl = va
  generalize b.vl = vb
  go_enter Tryz.func148, Tryz.ntmps148
  go_wp2
  go_ret
  exact ⟨rfl, (Below.refl _ _).alloc (Nat.le_refl _) _⟩
set_option maxHeartbeats 1000000 in
theorem packPlace_any (a b : Pc) (n : Nat) (w : World) (hn : n ≤ 1000) : Calls Tryz.prog 147 #[(Pc.pack a b n).bd] w fun e w' => e = .returned (.int .i64 ((80 + n : Nat) : Int)) ∧ Below w.heap.size w w' := by
  rw [Pc.bd_pack]
  generalize a.wt + b.wt = m
  generalize a.vl = va
  generalize b.vl = vb
  have h1 : ((80 + n : Nat) : Int) = 80 + (n : Int) := by omega
  rw [h1]
  go_enter Tryz.func147, Tryz.ntmps147
  go_wp2
  go_ret
  exact ⟨by go_num, (Below.refl _ _).alloc (Nat.le_refl _) _⟩

set_option maxHeartbeats 1000000 in
theorem nan_any (x : Int) (w : World) : Calls Tryz.prog 144 #[.int .i64 x] w fun e w' => e = .returned (.bool false) ∧ w' = w := by
  have hx : (x != x) = false := by simp
  go_enter Tryz.func144, Tryz.ntmps144
  go_wp2
  go_ret
  exact ⟨by simp, rfl⟩
def cmp3 (x y : Nat) : Int := if x < y then -1 else if y < x then 1 else 0
set_option maxHeartbeats 1000000 in
theorem compare_any (x y : Nat) (w : World) : Calls Tryz.prog 142 #[.int .i64 x, .int .i64 y] w fun e w' => e = .returned (.int .i64 (cmp3 x y)) ∧ Below w.heap.size w w' := by
  have HX := nan_any x w
  have HY := nan_any y w
  unfold cmp3
  by_cases h1 : x < y
  · rw [if_pos h1]
    have h2 : (x : Int) < (y : Int) := by omega
    go_enter Tryz.func142, Tryz.ntmps142
    go_wp2_with fail
    refine HX.mono ?_
    rintro e w1 ⟨rfl, rfl⟩
    go_wp2_with fail
    refine HY.mono ?_
    rintro e w1 ⟨rfl, rfl⟩
    go_wp2
    go_ret
    exact ⟨rfl, Below.refl _ _⟩
  · rw [if_neg h1]
    have h2 : ¬ (x : Int) < (y : Int) := by omega
    by_cases h3 : y < x
    · rw [if_pos h3]
      have h4 : (y : Int) < (x : Int) := by omega
      go_enter Tryz.func142, Tryz.ntmps142
      go_wp2_with fail
      refine HX.mono ?_
      rintro e w1 ⟨rfl, rfl⟩
      go_wp2_with fail
      refine HY.mono ?_
      rintro e w1 ⟨rfl, rfl⟩
      go_wp2
      go_ret
      exact ⟨rfl, Below.refl _ _⟩
    · rw [if_neg h3]
      have h4 : ¬ (y : Int) < (x : Int) := by omega
      go_enter Tryz.func142, Tryz.ntmps142
      go_wp2_with fail
      refine HX.mono ?_
      rintro e w1 ⟨rfl, rfl⟩
      go_wp2_with fail
      refine HY.mono ?_
      rintro e w1 ⟨rfl, rfl⟩
      go_wp2
      go_ret
      exact ⟨rfl, Below.refl _ _⟩
def dpc : Pc := .coin 0 0
/-- The slice at a has the parcels ps. -/
def Pcs (w : World) (a : Option Addr) (ps : List Pc) : Prop :=
  0 < ps.length → ∃ b off, a = some ⟨b, off, none⟩ ∧ b < w.heap.size ∧ ∀ i, i < ps.length → w.cell? ⟨b, off + i, none⟩ = some (ps.getD i dpc).vl
theorem Pcs.below {w w' : World} {a : Option Addr} {ps : List Pc} (h : Pcs w a ps) (hb : Below w.heap.size w w') : Pcs w' a ps := fun h0 => by
  obtain ⟨b, o, e, hl, hc⟩ := h h0
  exact ⟨b, o, e, Nat.lt_of_lt_of_le hl hb.size, fun i hi => keep hb hl (hc i hi)⟩

def orZ (x y : Int) : Int := if x = 0 then y else x
set_option maxHeartbeats 2000000 in
theorem or_any (g : Nat) (x y : Int) (w : World) (hx : w.cell? ⟨g, 0, none⟩ = some (.int .i64 x)) (hy : w.cell? ⟨g, 1, none⟩ = some (.int .i64 y)) :
    Calls Tryz.prog 143 #[.slice (some ⟨g, 0, none⟩) 2 2] w fun e w' => e = .returned (.int .i64 (orZ x y)) ∧ w' = w := by
  unfold orZ
  by_cases h0 : x = 0
  · rw [if_pos h0]
    have d0 : (x != 0) = false := by simp [h0]
    by_cases h1 : y = 0
    · have d1 : (y != 0) = false := by simp [h1]
      go_enter Tryz.func143, Tryz.ntmps143
      go_wp2
      refine wp_loop_rounds 3 ?_
      rw [rounds_succ]
      go_wp2
      rw [rounds_succ]
      go_wp2
      rw [rounds_succ]
      go_wp2
      go_ret
      exact ⟨by rw [h1]; rfl, rfl⟩
    · have d1 : (y != 0) = true := by simp [h1]
      go_enter Tryz.func143, Tryz.ntmps143
      go_wp2
      refine wp_loop_rounds 2 ?_
      rw [rounds_succ]
      go_wp2
      rw [rounds_succ]
      go_wp2
      go_ret
      exact ⟨rfl, rfl⟩
  · rw [if_neg h0]
    have d0 : (x != 0) = true := by simp [h0]
    go_enter Tryz.func143, Tryz.ntmps143
    go_wp2
    refine wp_loop_rounds 1 ?_
    rw [rounds_succ]
    go_wp2
    go_ret
    exact ⟨rfl, rfl⟩

theorem key_lt (p q : Pc) (hp : p.fine) (hq : q.fine) : decide (orZ (cmp3 p.wt q.wt) (cmp3 p.plc q.plc) < 0) = decide (p.key < q.key) := by
  obtain ⟨h1, h2⟩ := hp
  obtain ⟨h3, h4⟩ := hq
  unfold Pc.key orZ cmp3
  congr 1
  apply propext
  repeat' split
  all_goals omega
set_option maxRecDepth 20000 in
set_option maxHeartbeats 8000000 in
theorem less_two (b o i j n c : Nat) (p q : Pc) (w : World) (hbl : b < w.heap.size) (hp : w.cell? ⟨b, o + i, none⟩ = some p.vl) (hq : w.cell? ⟨b, o + j, none⟩ = some q.vl) (hpf : p.fine) (hqf : q.fine) (hi : i < n) (hj : j < n) :
    Calls Tryz.prog 140 #[.slice (some ⟨b, o, none⟩) n c, .int .i64 i, .int .i64 j] w fun e w' => e = .returned (.bool (decide (p.key < q.key))) ∧ Below w.heap.size w w' := by
  rw [← key_lt p q hpf hqf]
  have HPF : Hid (p.fine ∧ q.fine) := ⟨hpf, hqf⟩
  have hi2 : (i : Int) < (n : Int) := by omega
  have hj2 : (j : Int) < (n : Int) := by omega
  clear hpf hqf
  have mcw := Tryz.meth_coin_weight
  have mcp := Tryz.meth_coin_place
  have mpw := Tryz.meth_coinPack_weight
  have mpp := Tryz.meth_coinPack_place
  have HB : Hid (Below w.heap.size w w.drew) := ⟨rfl, rfl, rfl, Nat.le_refl _, fun _ _ => rfl⟩
  rcases p with ⟨s, k⟩ | ⟨pa, pb, pn⟩
  · rcases q with ⟨t, m⟩ | ⟨qa, qb, qn⟩
    · simp only [Pc.vl, Pc.bd] at hp hq
      simp only [Pc.wt, Pc.plc]
      clear HPF
      go_enter Tryz.func140, Tryz.ntmps140
      go_wp2_with fail
      go_region_held3 (fun W => W.cell? ⟨b, o + i, none⟩ = some (.iface 171 (.agg #[.int .i64 s, .int .i64 k])) ∧ W.cell? ⟨b, o + j, none⟩ = some (.iface 171 (.agg #[.int .i64 t, .int .i64 m])))
        (first | exact ⟨keep HB.out hbl hp, keep HB.out hbl hq⟩)
        (first
          | (go_at_call 139; refine (coinWeight_any _ _ _).mono ?_; rintro e w8 ⟨rfl, hb8'⟩; have HB : Hid (Below w.heap.size w w8) := HB.out.trans (hb8'.mono HB.out.size); clear hb8')
          | (go_at_call 142; refine (compare_any _ _ _).mono ?_; rintro e w8 ⟨rfl, hb8'⟩; have HB : Hid (Below w.heap.size w w8) := HB.out.trans (hb8'.mono HB.out.size); clear hb8'))
      all_goals
        go_wp2_with fail
        have HB : Hid (Below w.heap.size w w8.drew) := HB.out.drew
        go_region_held3 (fun W => W.cell? ⟨b, o + i, none⟩ = some (.iface 171 (.agg #[.int .i64 s, .int .i64 k])) ∧ W.cell? ⟨b, o + j, none⟩ = some (.iface 171 (.agg #[.int .i64 t, .int .i64 m])))
          (first | exact ⟨keep HB.out hbl hp, keep HB.out hbl hq⟩ | exact ⟨keep (HB.out.alloc HB.out.size _) hbl hp, keep (HB.out.alloc HB.out.size _) hbl hq⟩)
          (first
            | (go_at_call 138; refine (coinPlace_any _ _ _).mono ?_; rintro e w8 ⟨rfl, hb8'⟩; have HB : Hid (Below w.heap.size w w8) := HB.out.trans (hb8'.mono HB.out.size); clear hb8')
            | (go_at_call 142; refine (compare_any _ _ _).mono ?_; rintro e w8 ⟨rfl, hb8'⟩; have HB : Hid (Below w.heap.size w w8) := HB.out.trans (hb8'.mono HB.out.size); clear hb8')
            | (go_at_call 143; refine (or_any _ (cmp3 k m) (cmp3 s t) _ (by simp) (by simp)).mono ?_; rintro e w9 ⟨rfl, rfl⟩))
        all_goals
          go_wp2
          go_ret
          exact ⟨by first | rfl | simp, HB.out.alloc HB.out.size _⟩
    · simp only [Pc.vl] at hp hq
      rw [show (Pc.coin s k).bd = .agg #[.int .i64 s, .int .i64 k] from rfl] at hp
      have hqn : qn ≤ 1000 := by have := HPF.out.2.2; simp only [Pc.plc] at this; omega
      obtain ⟨Yw, hYw⟩ : ∃ x, x = (Pc.pack qa qb qn).wt := ⟨_, rfl⟩
      obtain ⟨Yp, hYp⟩ : ∃ x, x = (Pc.pack qa qb qn).plc := ⟨_, rfl⟩
      have HWY : Hid (∀ W, Calls Tryz.prog 148 #[(Pc.pack qa qb qn).bd] W fun e w' => e = .returned (.int .i64 (Yw : Nat)) ∧ Below W.heap.size W w') := by rw [hYw]; exact fun W => packWeight_any _ _ _ W
      have HPY : Hid (∀ W, Calls Tryz.prog 147 #[(Pc.pack qa qb qn).bd] W fun e w' => e = .returned (.int .i64 (Yp : Nat)) ∧ Below W.heap.size W w') := by rw [hYp]; exact fun W => packPlace_any _ _ _ W (by assumption)
      rw [← hYw, ← hYp]
      clear hYw hYp
      generalize (Pc.pack qa qb qn).bd = Yv at *
      simp only [Pc.wt, Pc.plc]
      clear HPF
      go_enter Tryz.func140, Tryz.ntmps140
      go_wp2_with fail
      go_region_held3 (fun W => W.cell? ⟨b, o + i, none⟩ = some (.iface 171 (.agg #[.int .i64 s, .int .i64 k])) ∧ W.cell? ⟨b, o + j, none⟩ = some (.iface 178 Yv))
        (first | exact ⟨keep HB.out hbl hp, keep HB.out hbl hq⟩)
        (first
          | (go_at_call 139; refine (coinWeight_any _ _ _).mono ?_; rintro e w8 ⟨rfl, hb8'⟩; have HB : Hid (Below w.heap.size w w8) := HB.out.trans (hb8'.mono HB.out.size); clear hb8')
          | (go_at_call 148; refine (HWY.out _).mono ?_; rintro e w8 ⟨rfl, hb8'⟩; have HB : Hid (Below w.heap.size w w8) := HB.out.trans (hb8'.mono HB.out.size); clear hb8')
          | (go_at_call 142; refine (compare_any _ _ _).mono ?_; rintro e w8 ⟨rfl, hb8'⟩; have HB : Hid (Below w.heap.size w w8) := HB.out.trans (hb8'.mono HB.out.size); clear hb8'))
      all_goals
        go_wp2_with fail
        have HB : Hid (Below w.heap.size w w8.drew) := HB.out.drew
        go_region_held3 (fun W => W.cell? ⟨b, o + i, none⟩ = some (.iface 171 (.agg #[.int .i64 s, .int .i64 k])) ∧ W.cell? ⟨b, o + j, none⟩ = some (.iface 178 Yv))
          (first | exact ⟨keep HB.out hbl hp, keep HB.out hbl hq⟩ | exact ⟨keep (HB.out.alloc HB.out.size _) hbl hp, keep (HB.out.alloc HB.out.size _) hbl hq⟩)
          (first
            | (go_at_call 138; refine (coinPlace_any _ _ _).mono ?_; rintro e w8 ⟨rfl, hb8'⟩; have HB : Hid (Below w.heap.size w w8) := HB.out.trans (hb8'.mono HB.out.size); clear hb8')
            | (go_at_call 147; refine (HPY.out _).mono ?_; rintro e w8 ⟨rfl, hb8'⟩; have HB : Hid (Below w.heap.size w w8) := HB.out.trans (hb8'.mono HB.out.size); clear hb8')
            | (go_at_call 142; refine (compare_any _ _ _).mono ?_; rintro e w8 ⟨rfl, hb8'⟩; have HB : Hid (Below w.heap.size w w8) := HB.out.trans (hb8'.mono HB.out.size); clear hb8')
            | (go_at_call 143; refine (or_any _ (cmp3 k Yw) (cmp3 s Yp) _ (by simp) (by simp)).mono ?_; rintro e w9 ⟨rfl, rfl⟩))
        all_goals
          go_wp2
          go_ret
          exact ⟨by first | rfl | simp, HB.out.alloc HB.out.size _⟩
  · rcases q with ⟨t, m⟩ | ⟨qa, qb, qn⟩
    · simp only [Pc.vl] at hp hq
      rw [show (Pc.coin t m).bd = .agg #[.int .i64 t, .int .i64 m] from rfl] at hq
      have hpn : pn ≤ 1000 := by have := HPF.out.1.2; simp only [Pc.plc] at this; omega
      obtain ⟨Xw, hXw⟩ : ∃ x, x = (Pc.pack pa pb pn).wt := ⟨_, rfl⟩
      obtain ⟨Xp, hXp⟩ : ∃ x, x = (Pc.pack pa pb pn).plc := ⟨_, rfl⟩
      have HWX : Hid (∀ W, Calls Tryz.prog 148 #[(Pc.pack pa pb pn).bd] W fun e w' => e = .returned (.int .i64 (Xw : Nat)) ∧ Below W.heap.size W w') := by rw [hXw]; exact fun W => packWeight_any _ _ _ W
      have HPX : Hid (∀ W, Calls Tryz.prog 147 #[(Pc.pack pa pb pn).bd] W fun e w' => e = .returned (.int .i64 (Xp : Nat)) ∧ Below W.heap.size W w') := by rw [hXp]; exact fun W => packPlace_any _ _ _ W (by assumption)
      rw [← hXw, ← hXp]
      clear hXw hXp
      generalize (Pc.pack pa pb pn).bd = Xv at *
      simp only [Pc.wt, Pc.plc]
      clear HPF
      go_enter Tryz.func140, Tryz.ntmps140
      go_wp2_with fail
      go_region_held3 (fun W => W.cell? ⟨b, o + i, none⟩ = some (.iface 178 Xv) ∧ W.cell? ⟨b, o + j, none⟩ = some (.iface 171 (.agg #[.int .i64 t, .int .i64 m])))
        (first | exact ⟨keep HB.out hbl hp, keep HB.out hbl hq⟩)
        (first
          | (go_at_call 139; refine (coinWeight_any _ _ _).mono ?_; rintro e w8 ⟨rfl, hb8'⟩; have HB : Hid (Below w.heap.size w w8) := HB.out.trans (hb8'.mono HB.out.size); clear hb8')
          | (go_at_call 148; refine (HWX.out _).mono ?_; rintro e w8 ⟨rfl, hb8'⟩; have HB : Hid (Below w.heap.size w w8) := HB.out.trans (hb8'.mono HB.out.size); clear hb8')
          | (go_at_call 142; refine (compare_any _ _ _).mono ?_; rintro e w8 ⟨rfl, hb8'⟩; have HB : Hid (Below w.heap.size w w8) := HB.out.trans (hb8'.mono HB.out.size); clear hb8'))
      all_goals
        go_wp2_with fail
        have HB : Hid (Below w.heap.size w w8.drew) := HB.out.drew
        go_region_held3 (fun W => W.cell? ⟨b, o + i, none⟩ = some (.iface 178 Xv) ∧ W.cell? ⟨b, o + j, none⟩ = some (.iface 171 (.agg #[.int .i64 t, .int .i64 m])))
          (first | exact ⟨keep HB.out hbl hp, keep HB.out hbl hq⟩ | exact ⟨keep (HB.out.alloc HB.out.size _) hbl hp, keep (HB.out.alloc HB.out.size _) hbl hq⟩)
          (first
            | (go_at_call 138; refine (coinPlace_any _ _ _).mono ?_; rintro e w8 ⟨rfl, hb8'⟩; have HB : Hid (Below w.heap.size w w8) := HB.out.trans (hb8'.mono HB.out.size); clear hb8')
            | (go_at_call 147; refine (HPX.out _).mono ?_; rintro e w8 ⟨rfl, hb8'⟩; have HB : Hid (Below w.heap.size w w8) := HB.out.trans (hb8'.mono HB.out.size); clear hb8')
            | (go_at_call 142; refine (compare_any _ _ _).mono ?_; rintro e w8 ⟨rfl, hb8'⟩; have HB : Hid (Below w.heap.size w w8) := HB.out.trans (hb8'.mono HB.out.size); clear hb8')
            | (go_at_call 143; refine (or_any _ (cmp3 Xw m) (cmp3 Xp t) _ (by simp) (by simp)).mono ?_; rintro e w9 ⟨rfl, rfl⟩))
        all_goals
          go_wp2
          go_ret
          exact ⟨by first | rfl | simp, HB.out.alloc HB.out.size _⟩
    · simp only [Pc.vl] at hp hq
      have hpn : pn ≤ 1000 := by have := HPF.out.1.2; simp only [Pc.plc] at this; omega
      have hqn : qn ≤ 1000 := by have := HPF.out.2.2; simp only [Pc.plc] at this; omega
      obtain ⟨Xw, hXw⟩ : ∃ x, x = (Pc.pack pa pb pn).wt := ⟨_, rfl⟩
      obtain ⟨Xp, hXp⟩ : ∃ x, x = (Pc.pack pa pb pn).plc := ⟨_, rfl⟩
      have HWX : Hid (∀ W, Calls Tryz.prog 148 #[(Pc.pack pa pb pn).bd] W fun e w' => e = .returned (.int .i64 (Xw : Nat)) ∧ Below W.heap.size W w') := by rw [hXw]; exact fun W => packWeight_any _ _ _ W
      have HPX : Hid (∀ W, Calls Tryz.prog 147 #[(Pc.pack pa pb pn).bd] W fun e w' => e = .returned (.int .i64 (Xp : Nat)) ∧ Below W.heap.size W w') := by rw [hXp]; exact fun W => packPlace_any _ _ _ W (by assumption)
      rw [← hXw, ← hXp]
      clear hXw hXp
      generalize (Pc.pack pa pb pn).bd = Xv at *
      obtain ⟨Yw, hYw⟩ : ∃ x, x = (Pc.pack qa qb qn).wt := ⟨_, rfl⟩
      obtain ⟨Yp, hYp⟩ : ∃ x, x = (Pc.pack qa qb qn).plc := ⟨_, rfl⟩
      have HWY : Hid (∀ W, Calls Tryz.prog 148 #[(Pc.pack qa qb qn).bd] W fun e w' => e = .returned (.int .i64 (Yw : Nat)) ∧ Below W.heap.size W w') := by rw [hYw]; exact fun W => packWeight_any _ _ _ W
      have HPY : Hid (∀ W, Calls Tryz.prog 147 #[(Pc.pack qa qb qn).bd] W fun e w' => e = .returned (.int .i64 (Yp : Nat)) ∧ Below W.heap.size W w') := by rw [hYp]; exact fun W => packPlace_any _ _ _ W (by assumption)
      rw [← hYw, ← hYp]
      clear hYw hYp
      generalize (Pc.pack qa qb qn).bd = Yv at *
      clear HPF
      go_enter Tryz.func140, Tryz.ntmps140
      go_wp2_with fail
      go_region_held3 (fun W => W.cell? ⟨b, o + i, none⟩ = some (.iface 178 Xv) ∧ W.cell? ⟨b, o + j, none⟩ = some (.iface 178 Yv))
        (first | exact ⟨keep HB.out hbl hp, keep HB.out hbl hq⟩)
        (first
          | (go_at_call 148; refine (HWX.out _).mono ?_; rintro e w8 ⟨rfl, hb8'⟩; have HB : Hid (Below w.heap.size w w8) := HB.out.trans (hb8'.mono HB.out.size); clear hb8')
          | (go_at_call 148; refine (HWY.out _).mono ?_; rintro e w8 ⟨rfl, hb8'⟩; have HB : Hid (Below w.heap.size w w8) := HB.out.trans (hb8'.mono HB.out.size); clear hb8')
          | (go_at_call 142; refine (compare_any _ _ _).mono ?_; rintro e w8 ⟨rfl, hb8'⟩; have HB : Hid (Below w.heap.size w w8) := HB.out.trans (hb8'.mono HB.out.size); clear hb8'))
      all_goals
        go_wp2_with fail
        have HB : Hid (Below w.heap.size w w8.drew) := HB.out.drew
        go_region_held3 (fun W => W.cell? ⟨b, o + i, none⟩ = some (.iface 178 Xv) ∧ W.cell? ⟨b, o + j, none⟩ = some (.iface 178 Yv))
          (first | exact ⟨keep HB.out hbl hp, keep HB.out hbl hq⟩ | exact ⟨keep (HB.out.alloc HB.out.size _) hbl hp, keep (HB.out.alloc HB.out.size _) hbl hq⟩)
          (first
            | (go_at_call 147; refine (HPX.out _).mono ?_; rintro e w8 ⟨rfl, hb8'⟩; have HB : Hid (Below w.heap.size w w8) := HB.out.trans (hb8'.mono HB.out.size); clear hb8')
            | (go_at_call 147; refine (HPY.out _).mono ?_; rintro e w8 ⟨rfl, hb8'⟩; have HB : Hid (Below w.heap.size w w8) := HB.out.trans (hb8'.mono HB.out.size); clear hb8')
            | (go_at_call 142; refine (compare_any _ _ _).mono ?_; rintro e w8 ⟨rfl, hb8'⟩; have HB : Hid (Below w.heap.size w w8) := HB.out.trans (hb8'.mono HB.out.size); clear hb8')
            | (go_at_call 143; refine (or_any _ (cmp3 Xw Yw) (cmp3 Xp Yp) _ (by simp) (by simp)).mono ?_; rintro e w9 ⟨rfl, rfl⟩))
        all_goals
          go_wp2
          go_ret
          exact ⟨by first | rfl | simp, HB.out.alloc HB.out.size _⟩
/-- The row at g bears the parcels ps, the call's own from B on. -/
def OwV (w : World) (B g cap : Nat) (ps : List Pc) : Prop := w.ownsRow B 142 1 (.slice (some ⟨g, 0, none⟩) ps.length cap) ps.length (ps.map Pc.vl)
theorem OwV.lt {w : World} {B g cap : Nat} {ps : List Pc} (h : OwV w B g cap ps) : B ≤ g ∧ g < w.heap.size := World.ownsRow.lt h g rfl
theorem OwV.cell {w : World} {B g cap : Nat} {ps : List Pc} (h : OwV w B g cap ps) (i : Nat) (hi : i < ps.length) : w.cell? ⟨g, i, none⟩ = some (ps.getD i dpc).vl := by
  have := World.ownsRow.cellAt h i (by omega)
  rw [this]
  simp [List.getElem?_eq_getElem hi]
theorem OwV.caps {w : World} {B g cap : Nat} {ps : List Pc} (h : OwV w B g cap ps) : ps.length ≤ cap ∧ cap ≤ maxLen := by
  rcases h.2 with ⟨h1, _⟩ | ⟨g', cap', cur, h1, _, _, h2, h3, _⟩
  · cases h1
  · simp only [Value.slice.injEq] at h1
    omega
theorem OwV.only {S : Nat → Prop} {w w' : World} {B g cap : Nat} {ps : List Pc} (h : OwV w B g cap ps) (ho : Only S w w') (hs : ¬ S g) : OwV w' B g cap ps := by
  refine ⟨h.1, ?_⟩
  have hlt := h.lt.2
  rcases h.2 with ⟨h', _⟩ | ⟨g', cap', cur, h', hg, hh, r⟩
  · simp at h'
  · have e : g' = g := by simp at h'; exact h'.1.symm
    subst e
    exact .inr ⟨g', cap', cur, h', hg, (ho.block g' hlt hs).trans hh, r⟩
theorem OwV.store {w : World} {B g cap : Nat} {ps : List Pc} (h : OwV w B g cap ps) (i : Nat) (p : Pc) : OwV (w.setCell ⟨g, i, none⟩ p.vl) B g cap (ps.set i p) := by
  have := (World.ownsRow.stored h i p.vl).1
  unfold OwV
  simpa [List.map_set] using this
theorem OwV.frozen {w : World} {B g cap : Nat} {ps : List Pc} (h : OwV w B g cap ps) (i : Nat) : w.frozen? ⟨g, i, none⟩ = false := World.ownsRow.frozenAt h i
theorem OwV.tag {w : World} {B g cap : Nat} {ps : List Pc} (h : OwV w B g cap ps) : ∃ cur, w.heap[g]? = some (.cells cur 142 (0, 0)) := by
  rcases h.2 with ⟨h1, _⟩ | ⟨g', cap', cur, h1, _, hh, _⟩
  · cases h1
  · obtain rfl : g = g' := by simp at h1; exact h1.1
    exact ⟨cur, hh⟩
/-- One element less. -/
theorem OwV.drop {w : World} {B g cap : Nat} {ps : List Pc} (h : OwV w B g cap ps) (n : Nat) (hn : n ≤ ps.length) : OwV w B g cap (ps.take n) := by
  rcases h.2 with ⟨h1, _⟩ | ⟨g', cap', cur, h1, h2, h3, h4, h5, h6, h7⟩
  · cases h1
  · obtain ⟨rfl, -, rfl⟩ : g = g' ∧ ps.length = ps.length ∧ cap = cap' := by simpa using h1
    refine ⟨by simp, .inr ⟨g, cap, cur, rfl, h2, h3, ?_, h5, h6, ?_⟩⟩
    · rw [List.length_take]; omega
    · rw [List.length_take, Nat.min_eq_left hn, List.map_take, ← h7, List.take_take]
      congr 1
      omega
def swp (ps : List Pc) (i j : Nat) : List Pc := (ps.set i (ps.getD j dpc)).set j (ps.getD i dpc)
theorem swp_len (ps : List Pc) (i j : Nat) : (swp ps i j).length = ps.length := by simp [swp]

set_option maxHeartbeats 1000000 in
theorem heapLen_any (a : Option Addr) (n c : Nat) (w : World) : Calls Tryz.prog 104 #[.slice a n c] w fun e w' => e = .returned (.int .i64 n) ∧ w' = w := by
  go_enter Tryz.func104, Tryz.ntmps104
  go_wp2
  go_ret
  exact ⟨rfl, rfl⟩

set_option maxRecDepth 20000 in
set_option maxHeartbeats 4000000 in
theorem swap_any (B g cap : Nat) (ps : List Pc) (i j : Nat) (w : World) (h : OwV w B g cap ps) (hi : i < ps.length) (hj : j < ps.length) :
    Calls Tryz.prog 141 #[.slice (some ⟨g, 0, none⟩) ps.length cap, .int .i64 i, .int .i64 j] w fun e w' => e = .returned (.tuple #[]) ∧ OwV w' B g cap (swp ps i j) ∧ Only (fun k => k = g) w w' := by
  have ci := h.cell i hi
  have cj := h.cell j hj
  have fi := h.frozen i
  have fj := h.frozen j
  have hi2 : (i : Int) < (ps.length : Int) := by omega
  have hj2 : (j : Int) < (ps.length : Int) := by omega
  have HD : Hid (OwV ((w.setCell ⟨g, i, none⟩ (ps.getD j dpc).vl).setCell ⟨g, j, none⟩ (ps.getD i dpc).vl) B g cap (swp ps i j) ∧ Only (fun k => k = g) w ((w.setCell ⟨g, i, none⟩ (ps.getD j dpc).vl).setCell ⟨g, j, none⟩ (ps.getD i dpc).vl)) := by
    refine ⟨?_, ((Only.refl (fun k => k = g) w).setCell (p := ⟨g, i, none⟩) (.inl rfl) _).setCell (p := ⟨g, j, none⟩) (.inl rfl) _⟩
    have h2 := (h.store i (ps.getD j dpc))
    have h3 := h2.store j (ps.getD i dpc)
    exact h3
  have h2 := h.store i (ps.getD j dpc)
  have ck := h2.cell j (by simpa using hj)
  have fk := h2.frozen j
  obtain ⟨tk, xk, hvk⟩ := ((ps.set i (ps.getD j dpc)).getD j dpc).form
  rw [hvk] at ck
  clear hvk h2
  obtain ⟨ti, xi, hvi⟩ := (ps.getD i dpc).form
  obtain ⟨tj, xj, hvj⟩ := (ps.getD j dpc).form
  rw [hvi] at ci HD
  rw [hvj] at cj ck fk HD
  clear hvi hvj
  clear h
  generalize ps.length = n at *
  go_enter Tryz.func141, Tryz.ntmps141
  go_wp2_with fail
  go_region
  all_goals
    go_wp2
    go_end0
    exact ⟨rfl, HD.out.1, HD.out.2.drew⟩
end Go.Proofs.YtojnomdlkihgmaaGreatDoor
