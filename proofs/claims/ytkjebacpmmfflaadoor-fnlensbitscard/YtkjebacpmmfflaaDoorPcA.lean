/-
  Parcels: a coin, or a pack of two others; their values, and what they weigh.
-/
import Derived.Test.YtkjebacpmmfflaaDoorILensC
import Derived.Test.YtkjebacpmmfflaaDoorIBase
namespace Go.Proofs.YtkjebacpmmfflaaDoor
open Go.RowKit
set_option linter.unusedVariables false

set_option maxHeartbeats 800000 in
theorem l2some_any (a : Option Addr) (cap : Nat) (cs : List Int) (w : World) (hb : Ins w a cs) (hn : cs.length ≤ 80) :
    Calls Tryd.prog 36 #[.slice a cs.length cap] w fun e w' => e = .returned (.int .i64 (sumF one cs)) ∧ w' = w := by
  generalize hlen : cs.length = n at *
  have HL : Hid (cs.length = n) := hlen
  clear hlen
  go_enter Tryd.func36, Tryd.ntmps36
  go_wp2
  go_loop [3, 4] (fun x i => ∃ k : Nat, k ≤ n ∧ i = .int .i64 k ∧ x = .int .i64 (sumF one (cs.take k))) (fun _ i => n - (intOf i).toNat)
  case atStart => exact ⟨0, Nat.zero_le _, rfl, by simp [sumF]⟩
  case round =>
    obtain ⟨k, hk, rfl, rfl⟩ := hrel
    by_cases hlt : k < n
    · obtain ⟨b1, o1, rfl, hb1, hc1⟩ := hb.len_pos k (by rw [HL.out]; exact hlt)
      have hs1 := hc1 k (by rw [HL.out]; exact hlt)
      have g1 := getD_rngI hb.1 k
      have hF := sumF_bnd one 1 one_bnd (cs.take k)
      have hF2 : (cs.take k).length ≤ 80 := by rw [List.length_take, HL.out]; omega
      have HS : Hid (sumF one (cs.take (k + 1)) = sumF one (cs.take k) + one (cs.getD k 0)) := sumF_succ one cs k (by rw [HL.out]; exact hlt)
      clear hc1 hb
      generalize cs.getD k 0 = x at *
      generalize hFF : sumF one (cs.take k) = F at *
      have hFb : 0 ≤ F ∧ F ≤ 80 := by omega
      clear hF hF2 hFF
      by_cases h5 : 0 < x
      · have HP : Hid (one x = 1) := by simp [Hid, one, h5]
        go_wp2
        go_round
        case rel => exact ⟨k + 1, by omega, by go_num, by rw [HS.out, HP.out]⟩
        case measure => simp [intOf]; omega
      · have HP : Hid (one x = 0) := by simp [Hid, one, h5]
        go_wp2
        go_round
        case rel => exact ⟨k + 1, by omega, by go_num, by rw [HS.out, HP.out]; simp⟩
        case measure => simp [intOf]; omega
    · have hkn : k = n := by omega
      subst hkn
      have e : cs.take k = cs := List.take_of_length_le (by rw [HL.out]; exact Nat.le_refl _)
      rw [e]
      go_wp2
      go_ret
      exact ⟨rfl, rfl⟩

/-- What CountsOk tells. -/
def cntB (zs : List Int) : Bool := decide (1 ≤ zs.length ∧ zs.length ≤ 80 ∧ ∀ z ∈ zs, 0 ≤ z ∧ z ≤ 1000000)

theorem cntB_bad {zs : List Int} {k : Nat} (hk : k < zs.length) (h : ¬ (0 ≤ zs.getD k 0 ∧ zs.getD k 0 ≤ 1000000)) : cntB zs = false := by
  simp only [cntB, decide_eq_false_iff_not]
  exact fun h' => h (h'.2.2 _ (getD_mem hk))
theorem cntB_all {zs : List Int} (h1 : 1 ≤ zs.length) (h2 : zs.length ≤ 80) (h : ∀ z ∈ zs.take zs.length, 0 ≤ z ∧ z ≤ 1000000) : cntB zs = true := by
  rw [List.take_length] at h
  simp only [cntB, decide_eq_true_eq]
  exact ⟨h1, h2, h⟩
theorem cntB_len {zs : List Int} (h : ¬ (1 ≤ zs.length ∧ zs.length ≤ 80)) : cntB zs = false := by
  simp only [cntB, decide_eq_false_iff_not]
  exact fun h' => h ⟨h'.1, h'.2.1⟩

set_option maxHeartbeats 800000 in
theorem implCnt_any (a : Option Addr) (cap : Nat) (zs : List Int) (w : World) (hb : Ins w a zs) (hn : zs.length ≤ 281474976710656) :
    Calls Tryd.prog 29 #[.slice a zs.length cap] w fun e w' => e = .returned (.bool (cntB zs)) ∧ w' = w := by
  by_cases h1 : 1 ≤ zs.length
  · by_cases h2 : zs.length ≤ 80
    · generalize hlen : zs.length = n at *
      have HL : Hid (zs.length = n) := hlen
      clear hlen
      go_enter Tryd.func29, Tryd.ntmps29
      go_wp2
      go_loop [15] (fun i => ∃ k : Nat, k ≤ n ∧ i = .int .i64 k ∧ ∀ z ∈ zs.take k, 0 ≤ z ∧ z ≤ 1000000) (fun i => n - (intOf i).toNat)
      case atStart => exact ⟨0, Nat.zero_le _, rfl, by simp⟩
      case round =>
        obtain ⟨k, hk, rfl, htk⟩ := hrel
        have HT : Hid (∀ z ∈ zs.take k, 0 ≤ z ∧ z ≤ 1000000) := htk
        clear htk
        by_cases hlt : k < n
        · obtain ⟨b1, o1, rfl, hb1, hc1⟩ := hb.len_pos k (by rw [HL.out]; exact hlt)
          have hs1 := hc1 k (by rw [HL.out]; exact hlt)
          have g1 := getD_rngI hb.1 k
          clear hc1 hb
          generalize hx : zs.getD k 0 = x at *
          have HX : Hid (zs.getD k 0 = x) := hx
          clear hx
          by_cases h3 : 0 ≤ x
          · by_cases h4 : x ≤ 1000000
            · have HT' : Hid (∀ z ∈ zs.take (k + 1), 0 ≤ z ∧ z ≤ 1000000) := all_take_succ HT.out (by rw [HL.out]; exact hlt) (by rw [HX.out]; exact ⟨h3, h4⟩)
              go_wp2
              go_round
              case rel => exact ⟨k + 1, by omega, by go_num, HT'.out⟩
              case measure => simp [intOf]; omega
            · have HN : Hid (cntB zs = false) := cntB_bad (by rw [HL.out]; exact hlt) (by rw [HX.out]; omega)
              go_wp2
              go_ret
              exact ⟨by simp [HN.out], rfl⟩
          · have HN : Hid (cntB zs = false) := cntB_bad (by rw [HL.out]; exact hlt) (by rw [HX.out]; omega)
            go_wp2
            go_ret
            exact ⟨by simp [HN.out], rfl⟩
        · have hkn : k = n := by omega
          subst hkn
          have HE : Hid (cntB zs = true) := cntB_all (by rw [HL.out]; exact h1) (by rw [HL.out]; exact h2) (by rw [HL.out]; exact HT.out)
          go_wp2
          go_ret
          exact ⟨by simp [HE.out], rfl⟩
    · rw [cntB_len (by omega)]
      go_enter Tryd.func29, Tryd.ntmps29
      go_wp2
      go_ret
      exact ⟨rfl, rfl⟩
  · rw [cntB_len (by omega)]
    go_enter Tryd.func29, Tryd.ntmps29
    go_wp2
    go_ret
    exact ⟨rfl, rfl⟩
/-- One symbol more is counted. -/
def bump (cs : List Int) (z : Int) : List Int := cs.set z.toNat (cs.getD z.toNat 0 + 1)
theorem bump_len (cs : List Int) (z : Int) : (bump cs z).length = cs.length := by simp [bump]
theorem bump_rng {cs : List Int} {z : Int} {m : Int} (h : ∀ c ∈ cs, 0 ≤ c ∧ c ≤ m) (hm : 0 ≤ m) : ∀ c ∈ bump cs z, 0 ≤ c ∧ c ≤ m + 1 := by
  intro c hc
  have hg : 0 ≤ cs.getD z.toNat 0 ∧ cs.getD z.toNat 0 ≤ m := by
    rw [List.getD_eq_getElem?_getD]
    by_cases hi : z.toNat < cs.length
    · rw [List.getElem?_eq_getElem hi]; exact h _ (List.getElem_mem hi)
    · rw [List.getElem?_eq_none (by omega)]; simp; omega
  rcases List.mem_or_eq_of_mem_set hc with hc | rfl
  · have := h c hc; omega
  · omega
set_option linter.unusedSimpArgs false
inductive Pc where
  | coin (s c : Nat)
  | pack (a b : Pc) (n : Nat)
def Pc.wt : Pc → Nat
  | .coin s c => c
  | .pack a b n => a.wt + b.wt
def Pc.plc : Pc → Nat
  | .coin s c => s
  | .pack a b n => 80 + n
def Pc.bd : Pc → Value
  | .coin s c => .agg #[.int .i64 s, .int .i64 c]
  | .pack a b n => .agg #[match a with | .coin _ _ => .iface 93 a.bd | .pack _ _ _ => .iface 101 a.bd, match b with | .coin _ _ => .iface 93 b.bd | .pack _ _ _ => .iface 101 b.bd, .int .i64 ((a.wt + b.wt : Nat) : Int), .int .i64 n]
def Pc.vl : Pc → Value
  | .coin s c => .iface 93 (Pc.coin s c).bd
  | .pack a b n => .iface 101 (Pc.pack a b n).bd
theorem Pc.bd_pack (a b : Pc) (n : Nat) : (Pc.pack a b n).bd = .agg #[a.vl, b.vl, .int .i64 ((a.wt + b.wt : Nat) : Int), .int .i64 n] := by
  cases a <;> cases b <;> rfl
/-- Its numbers are within an int. -/
def Pc.fine (p : Pc) : Prop := p.wt ≤ 1000000000000 ∧ p.plc ≤ 1000
theorem Pc.one (p : Pc) : p.vl.oneCell' = true := by cases p <;> rfl
theorem Pc.form (p : Pc) : ∃ t x, p.vl = .iface t x := by cases p <;> exact ⟨_, _, rfl⟩
def Pc.key (p : Pc) : Nat := p.wt * 1024 + p.plc

theorem Tryd.meth_coin_weight (v : Value) (w : World) : Sem.run Tryd.prog (method 288 93 v "loop.example/g00528/impl.weight") w = .ok (100, v) w := by kernel_rfl
theorem Tryd.meth_coin_place (v : Value) (w : World) : Sem.run Tryd.prog (method 288 93 v "loop.example/g00528/impl.place") w = .ok (99, v) w := by kernel_rfl
theorem Tryd.meth_coin_countInto (v : Value) (w : World) : Sem.run Tryd.prog (method 288 93 v "loop.example/g00528/impl.countInto") w = .ok (98, v) w := by kernel_rfl
theorem Tryd.meth_coinPack_weight (v : Value) (w : World) : Sem.run Tryd.prog (method 288 101 v "loop.example/g00528/impl.weight") w = .ok (109, v) w := by kernel_rfl
theorem Tryd.meth_coinPack_place (v : Value) (w : World) : Sem.run Tryd.prog (method 288 101 v "loop.example/g00528/impl.place") w = .ok (108, v) w := by kernel_rfl
theorem Tryd.meth_coinPack_countInto (v : Value) (w : World) : Sem.run Tryd.prog (method 288 101 v "loop.example/g00528/impl.countInto") w = .ok (107, v) w := by kernel_rfl

set_option maxHeartbeats 1000000 in
theorem coinWeight_any (s c : Nat) (w : World) : Calls Tryd.prog 100 #[.agg #[.int .i64 s, .int .i64 c]] w fun e w' => e = .returned (.int .i64 c) ∧ Below w.heap.size w w' := by
  go_enter Tryd.func100, Tryd.ntmps100
  go_wp2
  go_ret
  exact ⟨rfl, (Below.refl _ _).alloc (Nat.le_refl _) _⟩
set_option maxHeartbeats 1000000 in
theorem coinPlace_any (s c : Nat) (w : World) : Calls Tryd.prog 99 #[.agg #[.int .i64 s, .int .i64 c]] w fun e w' => e = .returned (.int .i64 s) ∧ Below w.heap.size w w' := by
  go_enter Tryd.func99, Tryd.ntmps99
  go_wp2
  go_ret
  exact ⟨rfl, (Below.refl _ _).alloc (Nat.le_refl _) _⟩
set_option maxHeartbeats 1000000 in
theorem packWeight_any (a b : Pc) (n : Nat) (w : World) : Calls Tryd.prog 109 #[(Pc.pack a b n).bd] w fun e w' => e = .returned (.int .i64 ((Pc.pack a b n).wt : Nat)) ∧ Below w.heap.size w w' := by
  rw [Pc.bd_pack]
  show Calls _ _ _ _ fun e w' => e = .returned (.int .i64 ((a.wt + b.wt : Nat) : Int)) ∧ _
  generalize a.wt + b.wt = m
  generalize a.vl = va
  generalize b.vl = vb
  go_enter Tryd.func109, Tryd.ntmps109
  go_wp2
  go_ret
  exact ⟨rfl, (Below.refl _ _).alloc (Nat.le_refl _) _⟩
set_option maxHeartbeats 1000000 in
theorem packPlace_any (a b : Pc) (n : Nat) (w : World) (hn : n ≤ 1000) : Calls Tryd.prog 108 #[(Pc.pack a b n).bd] w fun e w' => e = .returned (.int .i64 ((80 + n : Nat) : Int)) ∧ Below w.heap.size w w' := by
  rw [Pc.bd_pack]
  generalize a.wt + b.wt = m
  generalize a.vl = va
  generalize b.vl = vb
  have h1 : ((80 + n : Nat) : Int) = 80 + (n : Int) := by omega
  rw [h1]
  go_enter Tryd.func108, Tryd.ntmps108
  go_wp2
  go_ret
  exact ⟨by go_num, (Below.refl _ _).alloc (Nat.le_refl _) _⟩

set_option maxHeartbeats 1000000 in
theorem nan_any (x : Int) (w : World) : Calls Tryd.prog 105 #[.int .i64 x] w fun e w' => e = .returned (.bool false) ∧ w' = w := by
  have hx : (x != x) = false := by simp
  go_enter Tryd.func105, Tryd.ntmps105
  go_wp2
  go_ret
  exact ⟨by simp, rfl⟩
def cmp3 (x y : Nat) : Int := if x < y then -1 else if y < x then 1 else 0
set_option maxHeartbeats 1000000 in
theorem compare_any (x y : Nat) (w : World) : Calls Tryd.prog 103 #[.int .i64 x, .int .i64 y] w fun e w' => e = .returned (.int .i64 (cmp3 x y)) ∧ Below w.heap.size w w' := by
  have HX := nan_any x w
  have HY := nan_any y w
  unfold cmp3
  by_cases h1 : x < y
  · rw [if_pos h1]
    have h2 : (x : Int) < (y : Int) := by omega
    go_enter Tryd.func103, Tryd.ntmps103
    go_wp2_with fail
    refine HX.mono ?_
    rintro e w1 ⟨rfl, rfl⟩
    go_wp2_with fail
    refine HY.mono ?_
    rintro e w1 ⟨rfl, rfl⟩
    go_wp2
    go_ret
    exact ⟨rfl, Below.refl _ _⟩
  · rw [if_neg h1]
    have h2 : ¬ (x : Int) < (y : Int) := by omega
    by_cases h3 : y < x
    · rw [if_pos h3]
      have h4 : (y : Int) < (x : Int) := by omega
      go_enter Tryd.func103, Tryd.ntmps103
      go_wp2_with fail
      refine HX.mono ?_
      rintro e w1 ⟨rfl, rfl⟩
      go_wp2_with fail
      refine HY.mono ?_
      rintro e w1 ⟨rfl, rfl⟩
      go_wp2
      go_ret
      exact ⟨rfl, Below.refl _ _⟩
    · rw [if_neg h3]
      have h4 : ¬ (y : Int) < (x : Int) := by omega
      go_enter Tryd.func103, Tryd.ntmps103
      go_wp2_with fail
      refine HX.mono ?_
      rintro e w1 ⟨rfl, rfl⟩
      go_wp2_with fail
      refine HY.mono ?_
      rintro e w1 ⟨rfl, rfl⟩
      go_wp2
      go_ret
      exact ⟨rfl, Below.refl _ _⟩
end Go.Proofs.YtkjebacpmmfflaaDoor
