/-
  FseGet, both sides.
-/
import Derived.Test.YthdpboodalbjiaaDoorTb3
import Derived.Test.YthdpboodalbjiaaDoorTb2
import Derived.Test.YthdpboodalbjiaaDoorInR
import Derived.Test.YthdpboodalbjiaaDoorGetL
import Derived.Test.YthdpboodalbjiaaDoorIApp
import Derived.Deep.AppendLies
import Derived.Deep.RegionHeld3
import Derived.Test.YthdpboodalbjiaaDoorTb4
import Derived.Test.YthdpboodalbjiaaDoorBackR
import Derived.Test.YthdpboodalbjiaaDoorRdr
import Derived.Test.YthdpboodalbjiaaDoorTb5
import Derived.Test.YthdpboodalbjiaaDoorOkS
import Derived.Test.YthdpboodalbjiaaDoorOkI
namespace Go.Proofs.YthdpboodalbjiaaDoor
open Go.RowKit
set_option linter.unusedVariables false

/-- What x a place's cell has. -/
def cX (SP zs : List Int) (p : Nat) : Nat := ((nx SP zs p).getD (SP.getD p 0).toNat 0).toNat
theorem tb_step (SP zs : List Int) (n p j : Nat) (hp : p < n) (hj : j < 3) : (tb SP zs (n + 1)).getD (p * 3 + j) 0 = (tb SP zs n).getD (p * 3 + j) 0 := by
  rw [tb, List.getD_eq_getElem?_getD, List.getElem?_append_left (by rw [tb_len]; omega), ← List.getD_eq_getElem?_getD]
theorem tb_new (SP zs : List Int) (n j : Nat) : (tb SP zs (n + 1)).getD (n * 3 + j) 0 = [SP.getD n 0, (wd (cX SP zs n) : Nat), (cX SP zs n * 2 ^ wd (cX SP zs n) : Nat) - 64].getD j 0 := by
  rw [tb, List.getD_eq_getElem?_getD, List.getElem?_append_right (by rw [tb_len]; omega), tb_len, Nat.add_sub_cancel_left, ← List.getD_eq_getElem?_getD]
  rfl
theorem tb_get (SP zs : List Int) (p j : Nat) (hj : j < 3) : ∀ n, p < n → (tb SP zs n).getD (p * 3 + j) 0 = [SP.getD p 0, (wd (cX SP zs p) : Nat), (cX SP zs p * 2 ^ wd (cX SP zs p) : Nat) - 64].getD j 0 := by
  intro n
  induction n with
  | zero => intro h; omega
  | succ n ih =>
    intro h
    by_cases he : p < n
    · rw [tb_step SP zs n p j he hj, ih he]
    · obtain rfl : p = n := by omega
      exact tb_new SP zs p j

/-- A table of 64 cells: each has a symbol, a width and a base, and leads to places alone. -/
structure Gd (T : List Int) (L : Nat) : Prop where
  len : T.length = 192
  cell : ∀ p, p < 64 → ∃ s b z : Nat, T.getD (p * 3) 0 = s ∧ T.getD (p * 3 + 1) 0 = b ∧ T.getD (p * 3 + 2) 0 = z ∧ s < L ∧ b ≤ 6 ∧ z + 2 ^ b ≤ 64

theorem wd_top {x : Nat} (h1 : 1 ≤ x) (h2 : x ≤ 127) : (x + 1) * 2 ^ wd x ≤ 128 := by
  unfold wd
  have hu := Nat.lt_log2_self (n := x)
  have h6 : Nat.log2 x < 7 := (Nat.log2_lt (by omega)).2 (by omega)
  have e2 : 2 ^ (Nat.log2 x + 1) * 2 ^ (6 - Nat.log2 x) = 128 := by rw [← Nat.pow_add, show Nat.log2 x + 1 + (6 - Nat.log2 x) = 7 from by omega]
  rw [← e2]
  exact Nat.mul_le_mul_right _ hu
theorem gd_tb {zs : List Int} (hn : normB zs = true) : Gd (tb (pl (fl 0 zs) (plc 64)) zs 64) zs.length := by
  refine ⟨tb_len _ _ _, fun p hp => ?_⟩
  obtain ⟨s, hs, hsl, hzp, hz64⟩ := sp_sym hn p hp
  have hbn := nx_bnd (pl (fl 0 zs) (plc 64)) zs p s
  have hX1 : 1 ≤ cX (pl (fl 0 zs) (plc 64)) zs p := by unfold cX; rw [hs, Int.toNat_natCast]; omega
  have hX2 : cX (pl (fl 0 zs) (plc 64)) zs p ≤ 127 := by unfold cX; rw [hs, Int.toNat_natCast]; omega
  have h0 := tb_get (pl (fl 0 zs) (plc 64)) zs p 0 (by omega) 64 hp
  have h1 := tb_get (pl (fl 0 zs) (plc 64)) zs p 1 (by omega) 64 hp
  have h2 := tb_get (pl (fl 0 zs) (plc 64)) zs p 2 (by omega) 64 hp
  have hw := wd_rng hX1 hX2
  have ht := wd_top hX1 hX2
  generalize cX (pl (fl 0 zs) (plc 64)) zs p = X at *
  rw [Nat.add_mul, Nat.one_mul] at ht
  exact ⟨s, wd X, X * 2 ^ wd X - 64, by rw [Nat.add_zero] at h0; rw [h0]; simpa using hs, by rw [h1]; rfl, by rw [h2]; show ((X * 2 ^ wd X : Nat) : Int) - 64 = _; omega, hsl, hw.1, by omega⟩

def cB (T : List Int) (p : Nat) : Nat := (T.getD (p * 3 + 1) 0).toNat
def cZ (T : List Int) (p : Nat) : Nat := (T.getD (p * 3 + 2) 0).toNat
/-- Place and end behind i symbols; none where bits are missing. -/
def sg (T : List Int) (v E : Nat) : Nat → Option (Nat × Nat)
  | 0 => some (v / 2 ^ E % 64, E)
  | i + 1 => match sg T v E i with
    | none => none
    | some (st, en) => if en < cB T st then none else some (cZ T st + v / 2 ^ (en - cB T st) % 2 ^ cB T st, en - cB T st)
def so (T : List Int) (v E : Nat) : Nat → List Int
  | 0 => []
  | i + 1 => so T v E i ++ [match sg T v E i with | some (st, _) => T.getD (st * 3) 0 | none => 0]
theorem so_len (T : List Int) (v E i : Nat) : (so T v E i).length = i := by
  induction i with
  | zero => rfl
  | succ i ih => rw [so, List.length_append, ih]; rfl
theorem sg_none {T : List Int} {v E k : Nat} (h : sg T v E k = none) : ∀ n, k ≤ n → sg T v E n = none := by
  intro n
  induction n with
  | zero => intro hk; obtain rfl : k = 0 := by omega
            exact h
  | succ n ih =>
    intro hk
    by_cases e : k = n + 1
    · subst e; exact h
    · rw [sg, ih (by omega)]
theorem sg_rng {T : List Int} {L : Nat} (hT : Gd T L) (v E : Nat) : ∀ i st en, sg T v E i = some (st, en) → st < 64 ∧ en ≤ E := by
  intro i
  induction i with
  | zero =>
    intro st en h
    simp only [sg, Option.some.injEq, Prod.mk.injEq] at h
    omega
  | succ i ih =>
    intro st en h
    rw [sg] at h
    cases hq : sg T v E i with
    | none => rw [hq] at h; simp at h
    | some q =>
      obtain ⟨s0, e0⟩ := q
      rw [hq] at h
      simp only at h
      obtain ⟨h1, h2⟩ := ih s0 e0 hq
      by_cases hl : e0 < cB T s0
      · rw [if_pos hl] at h; simp at h
      · rw [if_neg hl] at h
        simp only [Option.some.injEq, Prod.mk.injEq] at h
        obtain ⟨s, b, z, k1, k2, k3, k4, k5, k6⟩ := hT.cell s0 h1
        have hb : cB T s0 = b := by unfold cB; rw [k2, Int.toNat_natCast]
        have hz : cZ T s0 = z := by unfold cZ; rw [k3, Int.toNat_natCast]
        rw [hb, hz] at h
        have : v / 2 ^ (e0 - b) % 2 ^ b < 2 ^ b := Nat.mod_lt _ (Nat.pow_pos (by omega))
        omega
theorem sg_step {T : List Int} {v E i st en : Nat} (h : sg T v E i = some (st, en)) (hl : ¬ en < cB T st) : sg T v E (i + 1) = some (cZ T st + v / 2 ^ (en - cB T st) % 2 ^ cB T st, en - cB T st) := by
  rw [sg, h]
  simp only
  rw [if_neg hl]
theorem sg_stop {T : List Int} {v E i st en : Nat} (h : sg T v E i = some (st, en)) (hl : en < cB T st) : sg T v E (i + 1) = none := by
  rw [sg, h]
  simp only
  rw [if_pos hl]
theorem so_step {T : List Int} {v E i st en : Nat} (h : sg T v E i = some (st, en)) : so T v E (i + 1) = so T v E i ++ [T.getD (st * 3) 0] := by
  rw [so, h]
theorem so_rng {T : List Int} {L : Nat} (hT : Gd T L) (hL : L ≤ 80) (v E : Nat) : ∀ i, ∀ z ∈ so T v E i, 0 ≤ z ∧ z ≤ 80 := by
  intro i
  induction i with
  | zero => intro z hz; simp [so] at hz
  | succ i ih =>
    intro z hz
    rw [so] at hz
    simp only [List.mem_append, List.mem_cons, List.not_mem_nil, or_false] at hz
    rcases hz with hz | rfl
    · exact ih z hz
    · cases hq : sg T v E i with
      | none => simp
      | some q =>
        obtain ⟨s0, e0⟩ := q
        obtain ⟨s, b, z, k1, _, _, k4, _⟩ := hT.cell s0 (sg_rng hT v E i s0 e0 hq).1
        simp only
        rw [k1]
        omega
/-- Whether N bits are read as n symbols. -/
def fgB (T : List Int) (v N n : Nat) : Bool := decide (6 ≤ N ∧ sg T v (N - 6) n = some (0, 0))
end Go.Proofs.YthdpboodalbjiaaDoor
namespace Go.Proofs.YthdpboodalbjiaaDoor
open Go.RowKit
set_option linter.unusedVariables false

theorem OVI.onlyF {S : Nat → Prop} {w w' : World} {B : Nat} {v : Value} {zs : List Int} (h : OVI w B v zs) (ho : Only S w w') (hs : ∀ k, v.ownBlock = some k → ¬ S k) : OVI w' B v zs := by
  rcases h.1.2 with ⟨h1, h2⟩ | ⟨g, cap, cur, rfl, hg, hh, r⟩
  · exact ⟨⟨h.1.1, .inl ⟨h1, h2⟩⟩, h.2⟩
  · exact ⟨⟨h.1.1, .inr ⟨g, cap, cur, rfl, hg, (ho.block g (Array.getElem?_eq_some_iff.1 hh).1 (hs g rfl)).trans hh, r⟩⟩, h.2⟩
theorem OVI.weakF {w : World} {B B' : Nat} {v : Value} {zs : List Int} (h : OVI w B v zs) (hB : B' ≤ B) : OVI w B' v zs := by
  rcases h.1.2 with ⟨h1, h2⟩ | ⟨g, cap, cur, rfl, hg, r⟩
  · exact ⟨⟨h.1.1, .inl ⟨h1, h2⟩⟩, h.2⟩
  · exact ⟨⟨h.1.1, .inr ⟨g, cap, cur, rfl, by omega, r⟩⟩, h.2⟩
theorem fgB_short {T : List Int} {v N n : Nat} (h : N < 6) : fgB T v N n = false := by
  unfold fgB
  rw [decide_eq_false_iff_not]
  omega
theorem fgB_none {T : List Int} {v N n : Nat} (h : sg T v (N - 6) n = none) : fgB T v N n = false := by
  unfold fgB
  rw [decide_eq_false_iff_not, h]
  simp
theorem fgB_some {T : List Int} {v N n st en : Nat} (h6 : 6 ≤ N) (h : sg T v (N - 6) n = some (st, en)) : fgB T v N n = decide (en = 0 ∧ st = 0) := by
  unfold fgB
  rw [h]
  simp [h6, And.comm]

set_option maxRecDepth 20000 in
set_option maxHeartbeats 8000000 in
theorem l3get_short (a : Option Addr) (ca : Nat) (ls : List Int) (x : Option Addr) (cx : Nat) (zs : List Int) (N v n : Nat) (T : List Int) (w : World) (ha : Ins w a ls) (hx : Byt w x zs) (hz : zs = enc N v) (hN : N ≤ 4096) (hn : n ≤ 300) (hnb : normB ls = true) (h6 : N < 6) (hTe : tb (pl (fl 0 ls) (plc 64)) ls 64 = T) :
    Calls Tryd.prog 38 #[.slice a ls.length ca, .agg #[.slice x zs.length cx, .int .i64 N], .int .i64 n] w fun e w' =>
      e = .returned (.tuple #[.slice none 0 0, .bool false]) ∧ Below w.heap.size w w' := by
  obtain ⟨i0, hi, hz0, hz1, hz2⟩ := info_parts Tryd.infoI64
  have HGD : Hid (Gd T ls.length) := by unfold Hid; rw [← hTe]; exact gd_tb hnb
  have HTR : Hid (∀ z ∈ T, -9223372036854775808 ≤ z ∧ z ≤ 9223372036854775807) := by
    intro z hz
    rw [← hTe] at hz
    have := tb_rng hnb 64 (Nat.le_refl _) z hz
    omega
  have hbd := normB_bnd hnb
  have hw : Below w.heap.size w (w.alloc (Obj.cells #[Value.slice x zs.length cx, Value.int IntKind.i64 N] 25)) := (Below.refl _ _).alloc (Nat.le_refl _) _
  have r0 : (w.alloc (Obj.cells #[Value.slice x zs.length cx, Value.int IntKind.i64 N] 25)).cell? ⟨w.heap.size, 0, none⟩ = some (.slice x zs.length cx) := by simp
  have r1 : (w.alloc (Obj.cells #[Value.slice x zs.length cx, Value.int IntKind.i64 N] 25)).cell? ⟨w.heap.size, 1, none⟩ = some (.int .i64 N) := by simp
  have HSZ : Hid (w.heap.size < (w.alloc (Obj.cells #[Value.slice x zs.length cx, Value.int IntKind.i64 N] 25)).heap.size) := by simp [Hid]
  have HLT := l3table_any a ca ls _ (ha.below hw (Nat.le_refl _)) hnb
  rw [hTe] at HLT
  have HZ : Hid (zs = enc N v ∧ True) := ⟨hz, trivial⟩
  clear hz hTe hnb
  go_enter Tryd.func38, Tryd.ntmps38
  go_wp2_with fail
  generalize w.alloc (Obj.cells #[Value.slice x zs.length cx, Value.int IntKind.i64 N] 25) = W at *
  refine HLT.mono ?_
  clear HLT
  rintro e w1 ⟨aT, cT, rfl, hcv, hb1⟩
  have hinr := hcv.inR HTR.out (HGD.out.len)
  have hbw1 : Below w.heap.size w w1 := hw.trans (hb1.mono (Nat.le_of_lt HSZ.out))
  have HBW : Hid (Below w.heap.size w w1 ∧ True) := ⟨hbw1, trivial⟩
  have HX : Hid (Byt w1 x zs) := hx.below hbw1 (Nat.le_refl _)
  have HTT : Hid (Ins w1 aT T) := hinr.byt
  have c0 := keep hb1 HSZ.out r0
  have c1 := keep hb1 HSZ.out r1
  have HR : Hid (w1.cell? ⟨w.heap.size, 0, none⟩ = some (.slice x zs.length cx) ∧ w1.cell? ⟨w.heap.size, 1, none⟩ = some (.int .i64 N)) := ⟨c0, c1⟩
  have HS1 : Hid (w.heap.size < w1.heap.size) := by have := HSZ.out; have := hb1.size; unfold Hid; omega
  have HTL : Hid (T.length = 192 ∧ True) := ⟨HGD.out.len, trivial⟩
  clear hw r0 r1 HSZ hcv hinr hb1 hbw1 ha hx
  have h6i : (N : Int) < 6 := by omega
  go_wp2
  exact bodyPost_ret (v := .tuple #[.slice none 0 0, .bool false]) (by simp [results, Tryd.results38, go_sem]) rfl ⟨rfl, HBW.out.1⟩

set_option maxRecDepth 20000 in
set_option maxHeartbeats 8000000 in
theorem l3get_long (a : Option Addr) (ca : Nat) (ls : List Int) (x : Option Addr) (cx : Nat) (zs : List Int) (E N v n : Nat) (T : List Int) (w : World) (ha : Ins w a ls) (hx : Byt w x zs) (hz : zs = enc N v) (hN : N ≤ 4096) (hn : n ≤ 300) (hnb : normB ls = true) (hNE : N = E + 6) (hTe : tb (pl (fl 0 ls) (plc 64)) ls 64 = T) :
    Calls Tryd.prog 38 #[.slice a ls.length ca, .agg #[.slice x zs.length cx, .int .i64 N], .int .i64 n] w fun e w' =>
      ∃ u, e = .returned (.tuple #[u, .bool (decide (sg T v E n = some (0, 0)))]) ∧ (sg T v E n = some (0, 0) → OVI w' w.heap.size u (so T v E n)) ∧ Below w.heap.size w w' := by
  have HNE : Hid (N = E + 6 ∧ True) := ⟨hNE, trivial⟩
  have h6N : (6 : Int) ≤ (N : Int) := by omega
  clear hNE
  obtain ⟨i0, hi, hz0, hz1, hz2⟩ := info_parts Tryd.infoI64
  have HGD : Hid (Gd T ls.length) := by unfold Hid; rw [← hTe]; exact gd_tb hnb
  have HTR : Hid (∀ z ∈ T, -9223372036854775808 ≤ z ∧ z ≤ 9223372036854775807) := by
    intro z hz
    rw [← hTe] at hz
    have := tb_rng hnb 64 (Nat.le_refl _) z hz
    omega
  have hbd := normB_bnd hnb
  have hw : Below w.heap.size w (w.alloc (Obj.cells #[Value.slice x zs.length cx, Value.int IntKind.i64 N] 25)) := (Below.refl _ _).alloc (Nat.le_refl _) _
  have r0 : (w.alloc (Obj.cells #[Value.slice x zs.length cx, Value.int IntKind.i64 N] 25)).cell? ⟨w.heap.size, 0, none⟩ = some (.slice x zs.length cx) := by simp
  have r1 : (w.alloc (Obj.cells #[Value.slice x zs.length cx, Value.int IntKind.i64 N] 25)).cell? ⟨w.heap.size, 1, none⟩ = some (.int .i64 N) := by simp
  have HSZ : Hid (w.heap.size < (w.alloc (Obj.cells #[Value.slice x zs.length cx, Value.int IntKind.i64 N] 25)).heap.size) := by simp [Hid]
  have HLT := l3table_any a ca ls _ (ha.below hw (Nat.le_refl _)) hnb
  rw [hTe] at HLT
  have HZ : Hid (zs = enc N v ∧ True) := ⟨hz, trivial⟩
  clear hz hTe hnb
  go_enter Tryd.func38, Tryd.ntmps38
  go_wp2_with fail
  generalize w.alloc (Obj.cells #[Value.slice x zs.length cx, Value.int IntKind.i64 N] 25) = W at *
  refine HLT.mono ?_
  clear HLT
  rintro e w1 ⟨aT, cT, rfl, hcv, hb1⟩
  have hinr := hcv.inR HTR.out (HGD.out.len)
  have hbw1 : Below w.heap.size w w1 := hw.trans (hb1.mono (Nat.le_of_lt HSZ.out))
  have HBW : Hid (Below w.heap.size w w1 ∧ True) := ⟨hbw1, trivial⟩
  have HX : Hid (Byt w1 x zs) := hx.below hbw1 (Nat.le_refl _)
  have HTT : Hid (Ins w1 aT T) := hinr.byt
  have c0 := keep hb1 HSZ.out r0
  have c1 := keep hb1 HSZ.out r1
  have HR : Hid (w1.cell? ⟨w.heap.size, 0, none⟩ = some (.slice x zs.length cx) ∧ w1.cell? ⟨w.heap.size, 1, none⟩ = some (.int .i64 N)) := ⟨c0, c1⟩
  have HS1 : Hid (w.heap.size < w1.heap.size) := by have := HSZ.out; have := hb1.size; unfold Hid; omega
  have HTL : Hid (T.length = 192 ∧ True) := ⟨HGD.out.len, trivial⟩
  clear hw r0 r1 HSZ hcv hinr hb1 hbw1 ha hx
  go_wp2_with fail
  have HG1 := l1get_any x cx zs (N : Int) ((N : Int) - 6) 6 N v w1 HX.out HZ.out.1 (by omega) (by omega) (by omega) (by omega) (by omega)
  rw [show ((N : Int) - 6).toNat = E from by have := HNE.out.1; omega] at HG1
  simp only [show ((6 : Int)).toNat = 6 from rfl, show 2 ^ 6 = 64 from rfl] at HG1
  refine HG1.mono ?_
  clear HG1 c0 c1
  rintro e w2 ⟨rfl, hb2⟩
  have HBW2 : Hid (Below w.heap.size w w2 ∧ True) := ⟨HBW.out.1.trans (hb2.mono (Nat.le_of_lt HS1.out)), trivial⟩
  have HX2 : Hid (Byt w2 x zs) := HX.out.below hb2 (Nat.le_refl _)
  have HT2 : Hid (Ins w2 aT T) := HTT.out.below hb2 (Nat.le_refl _)
  have HR2 : Hid (w2.cell? ⟨w.heap.size, 0, none⟩ = some (.slice x zs.length cx) ∧ w2.cell? ⟨w.heap.size, 1, none⟩ = some (.int .i64 N)) := ⟨keep hb2 HS1.out HR.out.1, keep hb2 HS1.out HR.out.2⟩
  have HS2 : Hid (w.heap.size < w2.heap.size) := by have := HS1.out; have := hb2.size; unfold Hid; omega
  clear hb2 HBW HX HTT HR HS1
  generalize hB : w2.heap.size = B at *
  have HB : Hid (w2.heap.size = B ∧ True) := ⟨hB, trivial⟩
  clear hB
  go_wp2
  go_loopw [9, 10, 11, 12] (fun t s o i wr => ∃ (k st en : Nat), k ≤ n ∧ i = .int .i64 k ∧ t = .int .i64 en ∧ s = .int .i64 st ∧ sg T v E k = some (st, en) ∧ OVI wr B o (so T v E k) ∧ Below B w2 wr) (fun _ _ _ i _ => n - (intOf i).toNat)
  case atStart => exact ⟨0, v / 2 ^ E % 64, E, Nat.zero_le _, rfl, by rw [show (N : Int) - 6 = (E : Int) from by have := HNE.out.1; omega], rfl, rfl, OVI.nil _ _, Below.refl _ _⟩
  case round =>
    obtain ⟨k, st, en, hk, rfl, rfl, rfl, hsg, hov, hbel⟩ := hrel
    obtain ⟨au, cu, rfl⟩ := hov.form
    have HQL : Hid ((so T v E k).length = k ∧ True) := ⟨so_len _ _ _ _, trivial⟩
    rw [HQL.out.1] at hov ⊢
    have HOV : Hid (OVI wr B (.slice au k cu) (so T v E k)) := hov
    have HSG : Hid (sg T v E k = some (st, en) ∧ True) := ⟨hsg, trivial⟩
    obtain ⟨hst, hen⟩ := sg_rng HGD.out v E k st en hsg
    have henN : (en : Int) ≤ 4096 := by have := HNE.out.1; omega
    have henM : (en : Int) ≤ (N : Int) := by have := HNE.out.1; omega
    have HBL : Hid (Below B w2 wr ∧ True) := ⟨hbel, trivial⟩
    have HBB : Hid (Below w.heap.size w wr ∧ True) := ⟨HBW2.out.1.trans (hbel.mono (Nat.le_of_lt HS2.out)), trivial⟩
    have HZW : Hid (B ≤ wr.heap.size) := by have := hbel.size; have := HB.out.1; unfold Hid; omega
    have HRW : Hid (wr.cell? ⟨w.heap.size, 0, none⟩ = some (.slice x zs.length cx) ∧ wr.cell? ⟨w.heap.size, 1, none⟩ = some (.int .i64 N)) := ⟨keep hbel HS2.out HR2.out.1, keep hbel HS2.out HR2.out.2⟩
    have hTw : Ins wr aT T := HT2.out.below hbel (by rw [HB.out.1]; exact Nat.le_refl _)
    clear hov hsg hbel
    by_cases hlt : k < n
    · obtain ⟨sy, b, z, e1, e2, e3, hsy, hb6, hz64⟩ := HGD.out.cell st hst
      obtain ⟨gT, oT, rfl, hgT, hcT⟩ := hTw.len_pos (st * 3) (by rw [HTL.out.1]; omega)
      have t0 := hcT (st * 3) (by rw [HTL.out.1]; omega)
      have t1 := hcT (st * 3 + 1) (by rw [HTL.out.1]; omega)
      have t2 := hcT (st * 3 + 2) (by rw [HTL.out.1]; omega)
      rw [e1] at t0
      rw [e2, ← Nat.add_assoc] at t1
      rw [e3, ← Nat.add_assoc] at t2
      have HCB : Hid (cB T st = b ∧ cZ T st = z ∧ T.getD (st * 3) 0 = (sy : Int)) := ⟨by unfold cB; rw [e2, Int.toNat_natCast], by unfold cZ; rw [e3, Int.toNat_natCast], e1⟩
      have hpz := Nat.pow_pos (n := b) (show 0 < 2 by omega)
      have hz63 : (z : Int) ≤ 64 := by omega
      clear hcT e1 e2 e3 hTw hz64 hpz
      by_cases hbe : en < b
      · have HNO : Hid (sg T v E n = none ∧ True) := ⟨sg_none (sg_stop HSG.out.1 (by rw [HCB.out.1]; exact hbe)) n (by omega), trivial⟩
        have hbi : (en : Int) < (b : Int) := by omega
        have HWA : Hid (Below w.heap.size w (wr.alloc (Obj.cells #[Value.int .i64 sy, Value.int .i64 b, Value.int .i64 z] 74)) ∧ True) := ⟨HBB.out.1.alloc (by have := HZW.out; have := HS2.out; omega) _, trivial⟩
        clear HOV HSG
        go_wp2
        exact bodyPost_ret (v := .tuple #[.slice none 0 0, .bool false]) (by simp [results, Tryd.results38, go_sem]) rfl ⟨_, by rw [HNO.out.1]; rfl, fun h => by rw [HNO.out.1] at h; simp at h, HWA.out.1⟩
      · have hbi : (b : Int) ≤ (en : Int) := by omega
        have HSG2 : Hid (sg T v E (k + 1) = some (z + v / 2 ^ (en - b) % 2 ^ b, en - b) ∧ so T v E (k + 1) = so T v E k ++ [(sy : Int)]) := by
          have h1 := sg_step HSG.out.1 (show ¬ en < cB T st by rw [HCB.out.1]; exact hbe)
          have h2 := so_step HSG.out.1
          rw [HCB.out.1, HCB.out.2.1] at h1
          rw [HCB.out.2.2] at h2
          exact ⟨h1, h2⟩
        have HVB : Hid (v / 2 ^ (en - b) % 2 ^ b < 64) := by
          have h1 : v / 2 ^ (en - b) % 2 ^ b < 2 ^ b := Nat.mod_lt _ (Nat.pow_pos (by omega))
          have h2 : 2 ^ b ≤ 2 ^ 6 := Nat.pow_le_pow_right (by omega) hb6
          unfold Hid
          omega
        have hu : (wr.alloc (Obj.cells #[Value.int .i64 sy, Value.int .i64 b, Value.int .i64 z] 74)).ownsRow B 3 1 (.slice au k cu) k ((so T v E k).map (Value.int .i64)) := by have := (HOV.out.1).alloc (Obj.cells #[Value.int .i64 sy, Value.int .i64 b, Value.int .i64 z] 74); rw [HQL.out.1] at this; exact this
        have HWA : Hid (Below B w2 (wr.alloc (Obj.cells #[Value.int .i64 sy, Value.int .i64 b, Value.int .i64 z] 74)) ∧ True) := ⟨HBL.out.1.alloc HZW.out _, trivial⟩
        have HOA : Hid (OVI (wr.alloc (Obj.cells #[Value.int .i64 sy, Value.int .i64 b, Value.int .i64 z] 74)) B (.slice au k cu) (so T v E k)) := ⟨by rw [HQL.out.1]; exact hu, HOV.out.2⟩
        have HLB : Hid (∀ g, (Value.slice au k cu).ownBlock = some g → B ≤ g ∧ g < wr.heap.size) := fun g hg => HOV.out.1.lt g hg
        have d0 : (wr.alloc (Obj.cells #[Value.int .i64 sy, Value.int .i64 b, Value.int .i64 z] 74)).cell? ⟨wr.heap.size, 0, none⟩ = some (.int .i64 sy) := by simp
        have d1 : (wr.alloc (Obj.cells #[Value.int .i64 sy, Value.int .i64 b, Value.int .i64 z] 74)).cell? ⟨wr.heap.size, 1, none⟩ = some (.int .i64 b) := by simp
        have d2 : (wr.alloc (Obj.cells #[Value.int .i64 sy, Value.int .i64 b, Value.int .i64 z] 74)).cell? ⟨wr.heap.size, 2, none⟩ = some (.int .i64 z) := by simp
        have HD : Hid (_ ∧ _ ∧ _) := ⟨d0, d1, d2⟩
        have HSA : Hid ((wr.alloc (Obj.cells #[Value.int .i64 sy, Value.int .i64 b, Value.int .i64 z] 74)).heap.size = wr.heap.size + 1 ∧ True) := ⟨by simp, trivial⟩
        have hsy80 : (sy : Int) ≤ 80 := by omega
        have HN3 : Hid (k + 1 ≤ 300) := by unfold Hid; omega
        clear HOV HSG
        go_wp2_with (at_builtin; (refine wpList_append_lies _ rfl (.tmp 41) (.tmp 44) 22 rfl B 3 i0 (.int .i64 0) 1 8 Tryd.underlying22 hi hz0 hz1 hz2 rfl (by decide) (.slice au k cu) k ((so T v E k).map (Value.int .i64)) rfl (hu.alloc _) ⟨wr.heap.size + 1, 0, none⟩ 1 1 [.int .i64 sy] rfl rfl (by intro j y hj; match j, hj with | 0, hj => (simp at hj; subst hj; simp [Addr.add])) (by intro y hy; simp at hy; subst hy; rfl) (by have := HN3.out; omega) (by have := HN3.out; unfold maxLen; omega) (by have := HN3.out; omega) (by have := HZW.out; simp; omega) _ rfl ?_); intro g cap1 w4 hown hgrow hat hlt1)
        have hOn : Only (fun j => (Value.slice au k cu).ownBlock = some j) (wr.alloc (Obj.cells #[Value.int .i64 sy, Value.int .i64 b, Value.int .i64 z] 74)) w4 := Only.grown (Only.alloc (Only.refl _ _) _) hgrow (fun j hj => .inl hj)
        have HC : Hid (w4.cell? ⟨wr.heap.size, 2, none⟩ = some (.int .i64 z) ∧ w4.cell? ⟨w.heap.size, 0, none⟩ = some (.slice x zs.length cx) ∧ w4.cell? ⟨w.heap.size, 1, none⟩ = some (.int .i64 N) ∧ w4.cell? ⟨wr.heap.size, 1, none⟩ = some (.int .i64 b)) := by
          have hw1 : w.heap.size < wr.heap.size := by have := HZW.out; have := HS2.out; omega
          have hs1 := HSA.out.1
          refine ⟨hOn.cell (by omega) (fun hg => by have := HLB.out _ hg; omega) HD.out.2.2, hOn.cell (by omega) (fun hg => by have := HLB.out _ hg; have := HS2.out; omega) (keepA _ hw1 HRW.out.1), hOn.cell (by omega) (fun hg => by have := HLB.out _ hg; have := HS2.out; omega) (keepA _ hw1 HRW.out.2), hOn.cell (by omega) (fun hg => by have := HLB.out _ hg; omega) HD.out.2.1⟩
        have HOV4 : Hid (OVI w4 B (.slice (some ⟨g, 0, none⟩) (k + 1) cap1) (so T v E (k + 1))) := by
          unfold Hid
          rw [HSG2.out.2]
          exact OVI.app HQL.out.1 HOA.out.2 (by omega) hown
        have HB4 : Hid (Below B w2 w4 ∧ True) := ⟨app_below HWA.out.1 (by have := HZW.out; have := HSA.out.1; omega) HOA.out hgrow, trivial⟩
        have HXW : Hid (Byt w4 x zs) := HX2.out.below HB4.out.1 (by rw [HB.out.1]; exact Nat.le_refl _)
        have HZ4 : Hid (B ≤ w4.heap.size) := by have := HB4.out.1.size; have := HB.out.1; unfold Hid; omega
        have HLT4 : Hid (wr.heap.size < w4.heap.size ∧ w.heap.size < w4.heap.size) := by have h1 := hOn.size; have h2 := HSA.out.1; have := HZW.out; have := HS2.out; exact ⟨by omega, by omega⟩
        clear hown hgrow hat hlt1 HOA HWA hu hOn d0 d1 d2 HD HSA HLB t0 t1 t2 HRW HBL HBB
        generalize wr.heap.size = cb at *
        obtain ⟨Xn, hXn⟩ : ∃ Xn, Xn = v / 2 ^ (en - b) % 2 ^ b := ⟨_, rfl⟩
        rw [← hXn] at HSG2 HVB
        have HG2 : ∀ W, Byt W x zs → Calls Tryd.prog 53 #[.agg #[.slice x zs.length cx, .int .i64 (N : Int)], .int .i64 ((en : Int) - (b : Int)), .int .i64 (b : Int)] W fun e w' => e = .returned (.int .i64 (Xn : Int)) ∧ Below W.heap.size W w' := by
          intro W hW
          have := l1get_any x cx zs (N : Int) ((en : Int) - (b : Int)) (b : Int) N v W hW HZ.out.1 (by omega) (by omega) (by omega) (by omega) (by omega)
          rw [show ((en : Int) - (b : Int)).toNat = en - b from by omega, Int.toNat_natCast, ← hXn] at this
          exact this
        have hX64 : (Xn : Int) < 64 := by have := HVB.out; omega
        clear hXn HVB
        go_region_held3 (fun W => W.cell? ⟨cb, 2, none⟩ = some (.int .i64 z) ∧ W.cell? ⟨w.heap.size, 0, none⟩ = some (.slice x zs.length cx) ∧ W.cell? ⟨w.heap.size, 1, none⟩ = some (.int .i64 N) ∧ W.cell? ⟨cb, 1, none⟩ = some (.int .i64 b))
          (first | exact HC.out | exact HC8.out)
          (first
            | (go_at_call 53; refine (HG2 _ (by exact HXW.out)).mono ?_; rintro e w8 ⟨rfl, hb8'⟩; have HB8 : Hid (Below B w2 w8 ∧ True) := ⟨HB4.out.1.trans ((Below.drewS hb8').mono HZ4.out), trivial⟩; have HO8 : Hid (OVI w8 B (.slice (some ⟨g, 0, none⟩) (k + 1) cap1) (so T v E (k + 1))) := HOV4.out.onlyF (Only.ofBelow (S := fun _ => False) (Below.drewS hb8') (Nat.le_refl _)) (by simp); have HC8 : Hid (w8.cell? ⟨cb, 2, none⟩ = some (.int .i64 z) ∧ w8.cell? ⟨w.heap.size, 0, none⟩ = some (.slice x zs.length cx) ∧ w8.cell? ⟨w.heap.size, 1, none⟩ = some (.int .i64 N) ∧ w8.cell? ⟨cb, 1, none⟩ = some (.int .i64 b)) := ⟨keep (Below.drewS hb8') HLT4.out.1 HC.out.1, keep (Below.drewS hb8') HLT4.out.2 HC.out.2.1, keep (Below.drewS hb8') HLT4.out.2 HC.out.2.2.1, keep (Below.drewS hb8') HLT4.out.1 HC.out.2.2.2⟩))
        all_goals
          clear HC HC8
          go_wp2
          go_roundw
          case rel =>
            exact ⟨k + 1, z + Xn, en - b, by omega, by go_num, by rw [show (en : Int) - (b : Int) = ((en - b : Nat) : Int) from by omega], (by have hwz : IntKind.i64.wrap ((z : Int) + (Xn : Int)) = ((z + Xn : Nat) : Int) := (by rw [IntWalk.i64_in _ (by omega)]; omega); exact congrArg (Value.int IntKind.i64) hwz), HSG2.out.1, HO8.out, HB8.out.1⟩
          case measure => simp [intOf]; omega
    · have hkn : k = n := by omega
      subst hkn
      have HOF : Hid (OVI wr w.heap.size (.slice au k cu) (so T v E k)) := HOV.out.weakF (Nat.le_of_lt HS2.out)
      clear hTw HOV HRW HBL
      by_cases h1 : en = 0
      · by_cases h2 : st = 0
        · have HD : Hid (sg T v E k = some (0, 0) ∧ True) := ⟨by rw [HSG.out.1, h1, h2], trivial⟩
          subst h1 h2
          clear HSG
          go_wp2
          exact bodyPost_ret (v := .tuple #[.slice au k cu, .bool true]) (by simp [results, Tryd.results38, go_sem]) rfl ⟨_, by rw [decide_eq_true HD.out.1], fun _ => HOF.out, HBB.out.1⟩
        · have HD : Hid (¬ sg T v E k = some (0, 0)) := by unfold Hid; rw [HSG.out.1]; simp; omega
          have h2i : ((st : Int) == 0) = false := by simp; omega
          subst h1
          clear HSG
          go_wp2
          exact bodyPost_ret (v := .tuple #[.slice au k cu, .bool false]) (by simp [results, Tryd.results38, go_sem]) rfl ⟨_, by rw [decide_eq_false HD.out], fun h => absurd h HD.out, HBB.out.1⟩
      · have HD : Hid (¬ sg T v E k = some (0, 0)) := by unfold Hid; rw [HSG.out.1]; simp; omega
        have h2i : ((en : Int) == 0) = false := by simp; omega
        clear HSG
        go_wp2
        exact bodyPost_ret (v := .tuple #[.slice au k cu, .bool false]) (by simp [results, Tryd.results38, go_sem]) rfl ⟨_, by rw [decide_eq_false HD.out], fun h => absurd h HD.out, HBB.out.1⟩
/-- What l3get tells of N bits as n symbols. -/
theorem l3get_any (a : Option Addr) (ca : Nat) (ls : List Int) (x : Option Addr) (cx : Nat) (zs : List Int) (N v n : Nat) (T : List Int) (w : World) (ha : Ins w a ls) (hx : Byt w x zs) (hz : zs = enc N v) (hN : N ≤ 4096) (hn : n ≤ 300) (hnb : normB ls = true) (hTe : tb (pl (fl 0 ls) (plc 64)) ls 64 = T) :
    Calls Tryd.prog 38 #[.slice a ls.length ca, .agg #[.slice x zs.length cx, .int .i64 N], .int .i64 n] w fun e w' =>
      ∃ u, e = .returned (.tuple #[u, .bool (fgB T v N n)]) ∧ (fgB T v N n = true → OVI w' w.heap.size u (so T v (N - 6) n)) ∧ Below w.heap.size w w' := by
  by_cases h6 : N < 6
  · refine (l3get_short a ca ls x cx zs N v n T w ha hx hz hN hn hnb h6 hTe).mono ?_
    rintro e w' ⟨rfl, hb⟩
    exact ⟨_, by rw [fgB_short h6], fun h => by rw [fgB_short h6] at h; simp at h, hb⟩
  · obtain ⟨E, rfl⟩ : ∃ E, N = E + 6 := ⟨N - 6, by omega⟩
    refine (l3get_long a ca ls x cx zs E (E + 6) v n T w ha hx hz hN hn hnb rfl hTe).mono ?_
    rintro e w' ⟨u, rfl, h1, hb⟩
    have e1 : fgB T v (E + 6) n = decide (sg T v E n = some (0, 0)) := by unfold fgB; simp
    rw [Nat.add_sub_cancel, e1]
    exact ⟨u, rfl, fun h => h1 (by simpa using h), hb⟩
end Go.Proofs.YthdpboodalbjiaaDoor
namespace Go.Proofs.YthdpboodalbjiaaDoor
open Go.RowKit
set_option linter.unusedVariables false

theorem RD.backY {w0 w : World} {B R : Nat} {a : Option Addr} {zs : List Int} {cap n p : Nat} (h : RD w B R a zs.length cap n p) (v : Nat) (width : Nat) (hn : n ≤ 4104) (hb : Byt w0 a zs) (hB : w0.heap.size = B) (hbel : Below B w0 w) (hz : zs = enc n v) (k2 : width ≤ 30) (k3 : p ≤ n) (k4 : width ≤ p) :
    Calls Tryd.prog 65 #[.pointer (some ⟨R, 0, none⟩), .int .i64 (width : Int)] w fun e w' =>
      e = .returned (.tuple #[.int .i64 (v / 2 ^ (p - width) % 2 ^ width : Nat), .nilIface]) ∧ RD w' B R a zs.length cap n (p - width) ∧ Only (fun k => k = R) w w' ∧ Below B w0 w' := by
  have hby : ∀ m x, Byt ((w.drewN m).setCell ⟨R, 2, none⟩ x) a zs := fun m x => hb.below ((show Below B w0 (w.drewN m) from ⟨hbel.os, hbel.tape, hbel.output, hbel.size, hbel.block⟩).setCell (p := ⟨R, 2, none⟩) h.2.1 x) (by rw [hB]; exact Nat.le_refl _)
  refine (back_yes R a cap zs n v p width w hn hby hz (cellRR (j := 0) h.1 rfl) (cellRR (j := 1) h.1 rfl) (cellRR (j := 2) h.1 rfl) (h.frz 2) (by omega) (by omega) (by omega) (by omega)).mono ?_
  rintro e w' ⟨rfl, m, rfl⟩
  have hR : (w.drewN m).heap[R]? = some (.cells #[.slice a zs.length cap, .int .i64 n, .int .i64 p] 66 (0, 0)) := h.1
  have hO : Only (fun k => k = R) w ((w.drewN m).setCell ⟨R, 2, none⟩ (.int .i64 ((p : Int) - width))) := by
    have h0 : Only (fun k => k = R) w (w.drewN m) := Only.ofBelow (S := fun k => k = R) (B := w.heap.size) ⟨rfl, rfl, rfl, Nat.le_refl _, fun _ _ => rfl⟩ (Nat.le_refl _)
    exact Only.setCell h0 (p := ⟨R, 2, none⟩) (.inl rfl) _
  refine ⟨by rw [show ((p : Int) - (width : Int)).toNat = p - width from by omega, Int.toNat_natCast], ⟨?_, h.2.1, Nat.le_trans h.2.2 hO.size⟩, hO, hbel.trans (hO.below h.2.2 (fun k hk => by rw [hk]; exact h.2.1))⟩
  rw [heap_setCell_same _ R 2 _ _ _ hR]
  have e : ((p : Int) - (width : Int)) = ((p - width : Nat) : Int) := by omega
  rw [e]
  simp
theorem RD.backN {w : World} {B R : Nat} {a : Option Addr} {zs : List Int} {cap n p : Nat} (h : RD w B R a zs.length cap n p) (width : Nat) (hn : n ≤ 4104) (hp : p ≤ 4104) (s0 : Sent w 3) (s2 : Sent w 5) (k4 : p < width) :
    Calls Tryd.prog 65 #[.pointer (some ⟨R, 0, none⟩), .int .i64 (width : Int)] w fun e w' => (∃ T x, e = .returned (.tuple #[.int .i64 0, .iface T x])) ∧ ∃ m, w' = w.drewN m :=
  back_no R a cap zs n p width w hn (by omega) (cellRR (j := 0) h.1 rfl) (cellRR (j := 1) h.1 rfl) (cellRR (j := 2) h.1 rfl) s0 s2 (by omega)

set_option maxHeartbeats 4000000 in
theorem backText_short (R g B : Nat) (x : Option Addr) (cx : Nat) (zs : List Int) (N n : Nat) (w0 w : World) (hbel : Below B w0 w) (hN : N < 6) (hRD : RD w B R x zs.length cx N N) (s0 : Sent w0 3) (s1 : Sent w0 5) (hG : 3 < B ∧ 5 < B) :
    Calls Tryd.prog 55 #[.pointer (some ⟨R, 0, none⟩), .pointer (some ⟨g, 0, none⟩), .int .i64 n] w fun e w' => Only (fun k => k = R) w w' ∧ ∃ T' y, e = .returned (.tuple #[.slice none 0 0, .int .i64 0, .iface T' y]) := by
  have S0 : Sent w 3 := s0.below hbel hG.1
  have S1 : Sent w 5 := s1.below hbel hG.2
  have HB := hRD.backN 6 (by omega) (by omega) S0 S1 hN
  go_enter Tryd.func55, Tryd.ntmps55
  go_wp2_with fail
  refine HB.mono ?_
  clear HB
  rintro e w1 ⟨⟨T', y, rfl⟩, m, rfl⟩
  go_wp2
  exact bodyPost_ret (v := .tuple #[.slice none 0 0, .int .i64 0, .iface T' y]) (by simp [results, Tryd.results55, go_sem]) rfl ⟨(Only.refl _ _).drewN m, T', y, rfl⟩

set_option maxRecDepth 20000 in
set_option maxHeartbeats 8000000 in
theorem backText_long (R g B : Nat) (x : Option Addr) (cx : Nat) (zs : List Int) (E N v n : Nat) (T : List Int) (L : Nat) (w0 w : World) (hx : Byt w0 x zs) (hB : w0.heap.size = B) (hbel : Below B w0 w) (hz : zs = enc N v) (hN : N ≤ 4096) (hn : n ≤ 300) (hNE : N = E + 6) (hGd : Gd T L) (hL : L ≤ 80) (hRD : RD w B R x zs.length cx N N) (hT : w.heap[g]? = some (.cells (cel T) 79 (0, 0))) (hgR : g ≠ R) (s0 : Sent w0 3) (s1 : Sent w0 5) (hG : 3 < B ∧ 5 < B) :
    Calls Tryd.prog 55 #[.pointer (some ⟨R, 0, none⟩), .pointer (some ⟨g, 0, none⟩), .int .i64 n] w fun e w' => Only (fun k => k = R) w w' ∧
      ((sg T v E n = none ∧ ∃ T' y, e = .returned (.tuple #[.slice none 0 0, .int .i64 0, .iface T' y])) ∨
       (∃ st en gq, sg T v E n = some (st, en) ∧ e = .returned (.tuple #[.slice (some ⟨gq, 0, none⟩) n n, .int .i64 (st : Nat), .nilIface]) ∧ OwI w' w.heap.size gq n (so T v E n) ∧ RD w' B R x zs.length cx N en)) := by
  obtain ⟨i0, hi, hz0, hz1, hz2⟩ := info_parts Tryd.infoI64
  have HPK : Hid (zs = enc N v ∧ w0.heap.size = B ∧ N = E + 6 ∧ T.length = 192) := ⟨hz, hB, hNE, hGd.len⟩
  have HTB : Hid (w.heap[g]? = some (.cells (cel T) 79 (0, 0)) ∧ g < w.heap.size) := ⟨hT, (Array.getElem?_eq_some_iff.1 hT).1⟩
  have HRL : Hid (R < w.heap.size ∧ B ≤ R) := ⟨(Array.getElem?_eq_some_iff.1 hRD.1).1, hRD.2.1⟩
  have HBK := hRD.backY v 6 (by omega) hx hB hbel hz (by omega) (Nat.le_refl _) (by omega)
  have HX : Hid (Byt w0 x zs) := hx
  have HGD : Hid (Gd T L) := hGd
  rw [show N - 6 = E from by omega, show 2 ^ 6 = 64 from rfl] at HBK
  have HSN : Hid (Sent w0 3 ∧ Sent w0 5) := ⟨s0, s1⟩
  have hE : E ≤ 4096 := by omega
  clear hz hB hNE hT hRD hx hGd s0 s1 hbel
  go_enter Tryd.func55, Tryd.ntmps55
  go_wp2_with fail
  refine HBK.mono ?_
  clear HBK
  rintro e w1 ⟨rfl, hrd1, hon1, hbel1⟩
  have HR1 : Hid (RD w1 B R x zs.length cx N E ∧ Only (fun k => k = R) w w1 ∧ Below B w0 w1) := ⟨hrd1, hon1, hbel1⟩
  have hs1 := hon1.size
  clear hrd1 hon1 hbel1
  go_wp2_with (at_make; refine wpList_make_full _ rfl _ _ 22 rfl w1.heap.size 3 i0 (.int .i64 0) 1 Tryd.underlying22 hi hz0 hz1 .i64 .i64 _ _ n rfl rfl rfl rfl (by rw [hz2]; omega) (by unfold maxLen; omega) (Nat.le_refl _) ?_; intro w5 hown hgrow)
  have hbw : Below w1.heap.size w1 w5 := (Below.refl _ _).grown hgrow (Nat.le_refl _) (by intro k hk; cases hk)
  have H0 : Hid (OwI w5 w1.heap.size w1.heap.size n ([] ++ List.replicate n 0)) := by
    rw [List.nil_append]
    refine ⟨?_, by intro z hz; simp at hz; omega⟩
    rw [made_zeroI] at hown
    simpa using hown
  have HR5 : Hid (RD w5 B R x zs.length cx N E ∧ Only (fun k => k = R) w w5 ∧ Below B w0 w5) :=
    ⟨HR1.out.1.only (Only.ofBelow (S := fun _ => False) hbw (Nat.le_refl _)) (by simp), HR1.out.2.1.trans (Only.ofBelow hbw (Nat.le_refl _)), HR1.out.2.2.trans (hbw.mono HR1.out.1.2.2)⟩
  have HGQ : Hid (w.heap.size ≤ w1.heap.size) := hs1
  clear HR1 hbw hown hgrow hs1 hi hz0 hz1 hz2
  generalize w1.heap.size = gq at *
  go_loopw [9, 28] (fun s i wr => ∃ (k st en : Nat), k ≤ n ∧ i = .int .i64 k ∧ s = .int .i64 st ∧ sg T v E k = some (st, en) ∧ OwI wr gq gq n (so T v E k ++ List.replicate (n - k) 0) ∧ RD wr B R x zs.length cx N en ∧ Only (fun k => k = R) w wr ∧ Below B w0 wr) (fun _ i _ => n - (intOf i).toNat)
  case atStart => exact ⟨0, v / 2 ^ E % 64, E, Nat.zero_le _, rfl, by simp, rfl, H0.out, HR5.out.1, HR5.out.2.1, HR5.out.2.2⟩
  case round =>
    clear H0 HR5
    obtain ⟨k, st, en, hk, rfl, rfl, hsg, hown, hrd, hon, hbel⟩ := hrel
    obtain ⟨hst, hen⟩ := sg_rng HGD.out v E k st en hsg
    have HW : Hid (sg T v E k = some (st, en) ∧ OwI wr gq gq n (so T v E k ++ List.replicate (n - k) 0) ∧ RD wr B R x zs.length cx N en ∧ Only (fun k => k = R) w wr ∧ Below B w0 wr) := ⟨hsg, hown, hrd, hon, hbel⟩
    have HQL : Hid ((so T v E k).length = k ∧ True) := ⟨so_len _ _ _ _, trivial⟩
    have hgl := hown.lt.2
    clear hsg hown hrd hon hbel
    by_cases hlt : k < n
    · obtain ⟨sy, b, z, e1, e2, e3, hsy, hb6, hz64⟩ := HGD.out.cell st hst
      have hTb : wr.heap[g]? = some (.cells (cel T) 79 (0, 0)) := (HW.out.2.2.2.1.block g HTB.out.2 hgR).trans HTB.out.1
      have t0 := arr_cell (tb := T) hTb (st * 3) (by rw [HPK.out.2.2.2]; omega)
      have t1 := arr_cell (tb := T) hTb (st * 3 + 1) (by rw [HPK.out.2.2.2]; omega)
      have t2 := arr_cell (tb := T) hTb (st * 3 + 2) (by rw [HPK.out.2.2.2]; omega)
      rw [e1] at t0
      rw [e2] at t1
      rw [e3] at t2
      have HCB : Hid (cB T st = b ∧ cZ T st = z ∧ T.getD (st * 3) 0 = (sy : Int)) := ⟨by unfold cB; rw [e2, Int.toNat_natCast], by unfold cZ; rw [e3, Int.toNat_natCast], e1⟩
      have hpz := Nat.pow_pos (n := b) (show 0 < 2 by omega)
      have hz63 : (z : Int) ≤ 64 := by omega
      have HV : Hid (v / 2 ^ (en - b) % 2 ^ b < 64) := by
        have h1 : v / 2 ^ (en - b) % 2 ^ b < 2 ^ b := Nat.mod_lt _ (Nat.pow_pos (by omega))
        unfold Hid
        omega
      clear hTb e1 e2 e3 hz64 hpz
      have HRA : Hid (RD (wr.alloc (Obj.cells #[Value.int .i64 sy, Value.int .i64 b, Value.int .i64 z] 74)) B R x zs.length cx N en ∧ Only (fun k => k = R) w (wr.alloc (Obj.cells #[Value.int .i64 sy, Value.int .i64 b, Value.int .i64 z] 74)) ∧ Below B w0 (wr.alloc (Obj.cells #[Value.int .i64 sy, Value.int .i64 b, Value.int .i64 z] 74)) ∧ OwI (wr.alloc (Obj.cells #[Value.int .i64 sy, Value.int .i64 b, Value.int .i64 z] 74)) gq gq n (so T v E k ++ List.replicate (n - k) 0)) :=
        ⟨HW.out.2.2.1.only (Only.alloc (Only.refl (fun _ => False) _) _) (by simp), HW.out.2.2.2.1.alloc _, HW.out.2.2.2.2.alloc HW.out.2.2.1.2.2 _, HW.out.2.1.alloc _⟩
      have HRb : Hid (R < wr.heap.size) := (Array.getElem?_eq_some_iff.1 HW.out.2.2.1.1).1
      by_cases hbe : en < b
      · have HNO : Hid (sg T v E n = none ∧ True) := ⟨sg_none (sg_stop HW.out.1 (by rw [HCB.out.1]; exact hbe)) n (by omega), trivial⟩
        have HBK := HRA.out.1.backN b (by omega) (by omega) (HSN.out.1.below HRA.out.2.2.1 hG.1) (HSN.out.2.below HRA.out.2.2.1 hG.2) hbe
        have HOA : Hid (Only (fun k => k = R) w (wr.alloc (Obj.cells #[Value.int .i64 sy, Value.int .i64 b, Value.int .i64 z] 74)) ∧ True) := ⟨HRA.out.2.1, trivial⟩
        clear HW HRA
        go_wp2_with fail
        refine HBK.mono ?_
        clear HBK
        rintro e w6 ⟨⟨T', y, rfl⟩, m, rfl⟩
        go_wp2
        exact bodyPost_ret (v := .tuple #[.slice none 0 0, .int .i64 0, .iface T' y]) (by simp [results, Tryd.results55, go_sem]) rfl ⟨HOA.out.1.drewN m, .inl ⟨HNO.out.1, T', y, rfl⟩⟩
      · have HSG2 : Hid (sg T v E (k + 1) = some (z + v / 2 ^ (en - b) % 2 ^ b, en - b) ∧ so T v E (k + 1) = so T v E k ++ [(sy : Int)]) := by
          have h1 := sg_step HW.out.1 (show ¬ en < cB T st by rw [HCB.out.1]; exact hbe)
          have h2 := so_step HW.out.1
          rw [HCB.out.1, HCB.out.2.1] at h1
          rw [HCB.out.2.2] at h2
          exact ⟨h1, h2⟩
        have HBK := HRA.out.1.backY v b (by omega) HX.out HPK.out.2.1 HRA.out.2.2.1 HPK.out.1 (by omega) (by have := HPK.out.2.2.1; omega) (by omega)
        obtain ⟨Xn, hXn⟩ : ∃ Xn, Xn = v / 2 ^ (en - b) % 2 ^ b := ⟨_, rfl⟩
        rw [← hXn] at HSG2 HV HBK
        have hX64 : (Xn : Int) < 64 := by have := HV.out; omega
        have HCC : Hid ((wr.alloc (Obj.cells #[Value.int .i64 sy, Value.int .i64 b, Value.int .i64 z] 74)).cell? ⟨wr.heap.size, 0, none⟩ = some (.int .i64 sy) ∧ (wr.alloc (Obj.cells #[Value.int .i64 sy, Value.int .i64 b, Value.int .i64 z] 74)).cell? ⟨wr.heap.size, 2, none⟩ = some (.int .i64 z) ∧ wr.heap.size < (wr.alloc (Obj.cells #[Value.int .i64 sy, Value.int .i64 b, Value.int .i64 z] 74)).heap.size) := ⟨by simp, by simp, by simp⟩
        clear hXn HV HW
        go_wp2_with fail
        refine HBK.mono ?_
        clear HBK t0 t1 t2
        rintro e w6 ⟨rfl, hrd6, hon6, hbel6⟩
        have q0 : w6.cell? ⟨wr.heap.size, 0, none⟩ = some (.int .i64 sy) := hon6.cell HCC.out.2.2 (by have := HRb.out; omega) HCC.out.1
        have q2 : w6.cell? ⟨wr.heap.size, 2, none⟩ = some (.int .i64 z) := hon6.cell HCC.out.2.2 (by have := HRb.out; omega) HCC.out.2.1
        have ho6 : OwI w6 gq gq n (so T v E k ++ List.replicate (n - k) 0) := HRA.out.2.2.2.only hon6 (by have := HRL.out; have := HGQ.out; omega)
        have hll : (so T v E k ++ List.replicate (n - k) 0).length = n := by rw [List.length_append, List.length_replicate, HQL.out.1]; omega
        have hdst := ho6.cell k (by rw [hll]; exact hlt)
        have hfz := ho6.frozen k
        have hset : (so T v E k ++ List.replicate (n - k) (0 : Int)).set k (sy : Int) = so T v E (k + 1) ++ List.replicate (n - (k + 1)) 0 := by
          rw [HSG2.out.2, List.set_append_right _ _ (by rw [HQL.out.1]; exact Nat.le_refl _), HQL.out.1, Nat.sub_self, show n - k = (n - (k + 1)) + 1 from by omega, List.replicate_succ, List.set_cons_zero, List.append_assoc]
          rfl
        have hR7 := ho6.store k (sy : Int) (by omega)
        rw [hset] at hR7
        have HF : Hid (OwI (w6.setCell ⟨gq, k, none⟩ (.int .i64 (sy : Int))) gq gq n (so T v E (k + 1) ++ List.replicate (n - (k + 1)) 0) ∧ RD (w6.setCell ⟨gq, k, none⟩ (.int .i64 (sy : Int))) B R x zs.length cx N (en - b) ∧ Only (fun k => k = R) w (w6.setCell ⟨gq, k, none⟩ (.int .i64 (sy : Int))) ∧ Below B w0 (w6.setCell ⟨gq, k, none⟩ (.int .i64 (sy : Int)))) := by
          have hgR2 : gq ≠ R := by have := HRL.out; have := HGQ.out; omega
          refine ⟨hR7, hrd6.only (Only.setCell (Only.refl (fun b => b = gq) w6) (p := ⟨gq, k, none⟩) (.inl rfl) _) hgR2.symm, (HRA.out.2.1.trans hon6).setCell (.inr HGQ.out) _, hbel6.setCell (p := ⟨gq, k, none⟩) (by have := HRL.out; have := HGQ.out; simp; omega) _⟩
        clear hR7 hset hll hrd6 hon6 hbel6 ho6 HRA HCC
        generalize (so T v E k ++ List.replicate (n - k) 0).getD k 0 = old at *
        generalize wr.heap.size = cb at *
        go_wp2
        go_roundw
        case rel => exact ⟨k + 1, z + Xn, en - b, by omega, by go_num, by go_num, HSG2.out.1, HF.out.1, HF.out.2.1, HF.out.2.2.1, HF.out.2.2.2⟩
        case measure => simp [intOf]; omega
    · have hkn : k = n := by omega
      subst hkn
      have HFI : Hid (OwI wr w.heap.size gq k (so T v E k)) := by
        have := HW.out.2.1
        rw [Nat.sub_self] at this
        simp only [List.replicate_zero, List.append_nil] at this
        exact this.mono HGQ.out
      go_wp2
      refine bodyPost_ret (v := .tuple #[.slice (some ⟨gq, 0, none⟩) k k, .int .i64 (st : Nat), .nilIface]) (by simp [results, Tryd.results55, go_sem]) rfl ?_
      exact ⟨HW.out.2.2.2.1, .inr ⟨st, en, gq, HW.out.1, rfl, HFI.out, HW.out.2.2.1⟩⟩
end Go.Proofs.YthdpboodalbjiaaDoor
namespace Go.Proofs.YthdpboodalbjiaaDoor
open Go.RowKit
set_option linter.unusedVariables false

/-- The sentinels of a reader from behind. -/
structure SentF (w : World) : Prop where
  s0 : Sent w 3
  s1 : Sent w 5
  s2 : Sent w 0
  hG : 3 < w.heap.size ∧ 5 < w.heap.size ∧ 0 < w.heap.size
theorem SentF.below {w w' : World} (h : SentF w) (hb : Below w.heap.size w w') : SentF w' :=
  ⟨h.s0.below hb h.hG.1, h.s1.below hb h.hG.2.1, h.s2.below hb h.hG.2.2, by have := hb.size; have := h.hG; omega⟩

theorem below_dF {B : Nat} {a b : World} (h : Below B a b) (n : Nat) : Below B a (b.drewN n) := ⟨h.os, h.tape, h.output, h.size, h.block⟩
theorem fgB_shortF {T : List Int} {v N n : Nat} (h : N < 6) : fgB T v N n = false := by
  unfold fgB
  rw [decide_eq_false_iff_not]
  omega
theorem fgB_longF {T : List Int} {v E n : Nat} : fgB T v (E + 6) n = decide (sg T v E n = some (0, 0)) := by unfold fgB; simp

set_option maxRecDepth 20000 in
set_option maxHeartbeats 8000000 in
theorem wholeText_any (a : Option Addr) (ca : Nat) (ls : List Int) (x : Option Addr) (cx : Nat) (zs : List Int) (N v n : Nat) (T : List Int) (w : World) (ha : Ins w a ls) (hx : Byt w x zs) (hz : zs = enc N v) (hN : N ≤ 4096) (hn : n ≤ 300) (hnb : normB ls = true) (hTe : tb (pl (fl 0 ls) (plc 64)) ls 64 = T) (hS : SentF w) :
    Calls Tryd.prog 41 #[.slice a ls.length ca, .agg #[.slice x zs.length cx, .int .i64 N], .int .i64 n] w fun e w' => Below w.heap.size w w' ∧
      ((fgB T v N n = false ∧ ∃ T' y, e = .returned (.tuple #[.slice none 0 0, .iface T' y])) ∨
       (fgB T v N n = true ∧ ∃ gq, e = .returned (.tuple #[.slice (some ⟨gq, 0, none⟩) n n, .nilIface]) ∧ OwI w' w.heap.size gq n (so T v (N - 6) n))) := by
  have hw : Below w.heap.size w (w.alloc (Obj.cells #[Value.slice x zs.length cx, Value.int IntKind.i64 N] 25)) := (Below.refl _ _).alloc (Nat.le_refl _) _
  have hbd := normB_bnd hnb
  have hw2 : Below (w.alloc (Obj.cells #[Value.slice x zs.length cx, Value.int IntKind.i64 N] 25)).heap.size (w.alloc (Obj.cells #[Value.slice x zs.length cx, Value.int IntKind.i64 N] 25)) ((w.alloc (Obj.cells #[Value.slice x zs.length cx, Value.int IntKind.i64 N] 25)).alloc (Obj.cells #[Value.slice x zs.length cx, Value.int IntKind.i64 N, Value.int IntKind.i64 N] 66)) := (Below.refl _ _).alloc (Nat.le_refl _) _
  have HRN : Hid (((w.alloc (Obj.cells #[Value.slice x zs.length cx, Value.int IntKind.i64 N] 25)).alloc (Obj.cells #[Value.slice x zs.length cx, Value.int IntKind.i64 N, Value.int IntKind.i64 N] 66)).heap[w.heap.size + 1]? = some (.cells #[Value.slice x zs.length cx, Value.int IntKind.i64 N, Value.int IntKind.i64 N] 66 (0, 0)) ∧ (w.alloc (Obj.cells #[Value.slice x zs.length cx, Value.int IntKind.i64 N] 25)).heap.size = w.heap.size + 1 ∧ ((w.alloc (Obj.cells #[Value.slice x zs.length cx, Value.int IntKind.i64 N] 25)).alloc (Obj.cells #[Value.slice x zs.length cx, Value.int IntKind.i64 N, Value.int IntKind.i64 N] 66)).heap.size = w.heap.size + 2) := by
    have := heap_alloc_new (w.alloc (Obj.cells #[Value.slice x zs.length cx, Value.int IntKind.i64 N] 25)) (Obj.cells #[Value.slice x zs.length cx, Value.int IntKind.i64 N, Value.int IntKind.i64 N] 66)
    rw [World.size_alloc] at this
    exact ⟨this, by simp, by simp⟩
  have HX0 : Hid (Byt (w.alloc (Obj.cells #[Value.slice x zs.length cx, Value.int IntKind.i64 N] 25)) x zs) := hx.alloc _
  have HCO := cellsOf_any a ca ls _ ((ha.below hw (Nat.le_refl _)).below hw2 (Nat.le_refl _)) hnb
  have HS1 : Hid (SentF (w.alloc (Obj.cells #[Value.slice x zs.length cx, Value.int IntKind.i64 N] 25))) := hS.below hw
  have HGD : Hid (Gd T ls.length) := by unfold Hid; rw [← hTe]; exact gd_tb hnb
  rw [hTe] at HCO
  have HPK : Hid (zs = enc N v ∧ True) := ⟨hz, trivial⟩
  have HBW : Hid (_ ∧ _) := ⟨hw, hw2⟩
  clear hz hTe hnb hw hw2 hx ha hS
  go_enter Tryd.func41, Tryd.ntmps41
  go_wp2_with fail
  generalize w.alloc (Obj.cells #[Value.slice x zs.length cx, Value.int IntKind.i64 N] 25) = W0 at *
  generalize W0.alloc (Obj.cells #[Value.slice x zs.length cx, Value.int IntKind.i64 N, Value.int IntKind.i64 N] 66) = W1 at *
  refine HCO.mono ?_
  clear HCO
  rintro e w2 ⟨g, rfl, hg, hTg, hb2⟩
  have hTg' : w2.heap[g]? = some (.cells (cel T) 79 (0, 0)) := hTg
  have hs2 := hb2.size
  have HR2 : Hid (RD w2 W0.heap.size (w.heap.size + 1) x zs.length cx N N ∧ Below W0.heap.size W0 w2 ∧ Below w.heap.size w w2) := by
    have h1 := HRN.out.2.1
    have h2 := HRN.out.2.2
    have hb02 := HBW.out.2.trans (hb2.mono (show W0.heap.size ≤ W1.heap.size by omega))
    exact ⟨⟨(hb2.block (w.heap.size + 1) (by omega)).trans HRN.out.1, by omega, by omega⟩, hb02, HBW.out.1.trans (hb02.mono (by omega))⟩
  have HTG : Hid (w2.heap[g]? = some (.cells (cel T) 79 (0, 0)) ∧ g ≠ w.heap.size + 1) := ⟨hTg', by have := HRN.out.2.2; omega⟩
  have HSS : Hid (w.heap.size + 1 ≤ w2.heap.size ∧ W0.heap.size = w.heap.size + 1) := ⟨by have := HRN.out.2.2; omega, HRN.out.2.1⟩
  clear hTg hTg' hb2 hg hs2 HRN HBW
  by_cases h6 : N < 6
  · have HBT := backText_short (w.heap.size + 1) g W0.heap.size x cx zs N n W0 w2 HR2.out.2.1 h6 HR2.out.1 HS1.out.s0 HS1.out.s1 ⟨HS1.out.hG.1, HS1.out.hG.2.1⟩
    go_wp2_with fail
    refine HBT.mono ?_
    clear HBT
    rintro e w3 ⟨hon, T', y, rfl⟩
    have HB3 : Hid (Below w.heap.size w w3 ∧ True) := ⟨HR2.out.2.2.trans (hon.below (by have := HSS.out.1; omega) (fun k hk => by omega)), trivial⟩
    have HF : Hid (fgB T v N n = false ∧ True) := ⟨fgB_shortF h6, trivial⟩
    clear hon HR2 HTG
    go_wp2
    go_ret2
    exact ⟨HB3.out.1, .inl ⟨HF.out.1, T', y, rfl⟩⟩
  · obtain ⟨E, hE⟩ : ∃ E, N = E + 6 := ⟨N - 6, by omega⟩
    have HNE : Hid (N = E + 6 ∧ N - 6 = E) := ⟨hE, by omega⟩
    have HBT := backText_long (w.heap.size + 1) g W0.heap.size x cx zs E N v n T ls.length W0 w2 HX0.out rfl HR2.out.2.1 HPK.out.1 hN hn hE HGD.out (by omega) HR2.out.1 HTG.out.1 HTG.out.2 HS1.out.s0 HS1.out.s1 ⟨HS1.out.hG.1, HS1.out.hG.2.1⟩
    have HF : Hid (fgB T v N n = decide (sg T v E n = some (0, 0)) ∧ True) := ⟨by rw [hE]; exact fgB_longF, trivial⟩
    clear hE h6
    go_wp2_with fail
    refine HBT.mono ?_
    clear HBT
    rintro e w3 ⟨hon, ⟨hno, T', y, rfl⟩ | ⟨st, en, gq, hsg, rfl, how, hrd⟩⟩
    · have HB3 : Hid (Below w.heap.size w w3 ∧ True) := ⟨HR2.out.2.2.trans (hon.below (by have := HSS.out.1; omega) (fun k hk => by omega)), trivial⟩
      have HF2 : Hid (fgB T v N n = false ∧ True) := ⟨by rw [HF.out.1, hno]; rfl, trivial⟩
      clear hon HR2 HTG hno HF
      go_wp2
      go_ret2
      exact ⟨HB3.out.1, .inl ⟨HF2.out.1, T', y, rfl⟩⟩
    · have HB3 : Hid (Below w.heap.size w w3 ∧ True) := ⟨HR2.out.2.2.trans (hon.below (by have := HSS.out.1; omega) (fun k hk => by omega)), trivial⟩
      have c2 : w3.cell? ⟨w.heap.size + 1, 2, none⟩ = some (.int .i64 en) := cellRR (j := 2) hrd.1 rfl
      have hS3 := HS1.out.below (HR2.out.2.1.trans (hon.below (by have := HSS.out; omega) (fun k hk => by have := HSS.out; omega)))
      have HOW : Hid (OwI w3 w.heap.size gq n (so T v E n)) := how.mono (by have := HSS.out.1; omega)
      have HSG : Hid (sg T v E n = some (st, en) ∧ True) := ⟨hsg, trivial⟩
      obtain ⟨Te, ye, hce⟩ := hS3.s2
      clear hon hrd how HR2 HTG hsg hS3
      by_cases h1 : st = 0
      · by_cases h2 : en = 0
        · have HF2 : Hid (fgB T v N n = true ∧ True) := ⟨by rw [HF.out.1, HSG.out.1, h1, h2]; rfl, trivial⟩
          subst h1 h2
          clear HSG HF
          go_wp2
          go_ret2
          exact ⟨HB3.out.1, .inr ⟨HF2.out.1, gq, rfl, by rw [HNE.out.2]; exact HOW.out⟩⟩
        · have HF2 : Hid (fgB T v N n = false ∧ True) := ⟨by rw [HF.out.1, HSG.out.1]; simp; omega, trivial⟩
          have h2i : ((en : Int) != 0) = true := by simp; omega
          subst h1
          clear HSG HF
          go_wp2
          go_quiet (fail)
          go_wp2
          go_ret2
          exact ⟨below_dF HB3.out.1 _, .inl ⟨HF2.out.1, Te, ye, rfl⟩⟩
      · have HF2 : Hid (fgB T v N n = false ∧ True) := ⟨by rw [HF.out.1, HSG.out.1]; simp; omega, trivial⟩
        have h2i : ((st : Int) != 0) = true := by simp; omega
        clear HSG HF
        go_wp2
        go_quiet (fail)
        go_wp2
        go_ret2
        exact ⟨below_dF HB3.out.1 _, .inl ⟨HF2.out.1, Te, ye, rfl⟩⟩
end Go.Proofs.YthdpboodalbjiaaDoor
namespace Go.Proofs.YthdpboodalbjiaaDoor
open Go.RowKit
set_option linter.unusedVariables false

def fgArgs (ls : List Int) (N s : Int) (zs : List Int) : Prop := normB ls = true ∧ okB N zs = true ∧ 0 ≤ s ∧ s ≤ 300

set_option maxHeartbeats 4000000 in
theorem specFseGet_no (a : Option Addr) (ca : Nat) (ls : List Int) (x : Option Addr) (cx : Nat) (zs : List Int) (N s : Int) (w : World) (ha : Ins w a ls) (hx : Byt w x zs) (hl1 : ls.length ≤ 281474976710656) (hl : zs.length ≤ 281474976710656) (h : ¬ fgArgs ls N s zs) :
    Calls Tryd.prog 16 #[.slice a ls.length ca, .agg #[.slice x zs.length cx, .int .i64 N], .int .i64 s] w fun e w' =>
      e = .returned (.tuple #[.slice none 0 0, .bool false]) ∧ Below w.heap.size w w' := by
  have hw : Below w.heap.size w (w.alloc (Obj.cells #[Value.slice x zs.length cx, Value.int IntKind.i64 N] 25)) := (Below.refl _ _).alloc (Nat.le_refl _) _
  have HT := specNormOk_any a ca ls _ (ha.below hw (Nat.le_refl _)) hl1
  cases hlb : normB ls with
  | false =>
    rw [hlb] at HT
    clear hlb h
    go_enter Tryd.func16, Tryd.ntmps16
    go_wp2_with fail
    refine HT.mono ?_
    clear HT
    rintro e w1 ⟨rfl, rfl⟩
    go_wp2
    go_ret2
    exact ⟨rfl, hw⟩
  | true =>
    have key : okB N zs = false ∨ (okB N zs = true ∧ s < 0) ∨ (okB N zs = true ∧ 0 ≤ s ∧ 300 < s) := by
      cases hO : okB N zs with
      | false => exact .inl rfl
      | true =>
        right
        unfold fgArgs at h
        rw [hO, hlb] at h
        simp only [true_and] at h ⊢
        omega
    rw [hlb] at HT
    clear h hlb
    rcases key with hO | ⟨hO, g1⟩ | ⟨hO, g1, g2⟩
    all_goals
      have HO : Hid (_ ∧ True) := ⟨hO, trivial⟩
      clear hO
      go_enter Tryd.func16, Tryd.ntmps16
      go_wp2_with fail
      refine HT.mono ?_
      clear HT
      rintro e w0 ⟨rfl, rfl⟩
      go_wp2_with fail
      refine (specOk_any x cx zs _ _ (hx.below hw (Nat.le_refl _)) hl).mono ?_
      rintro e w1 ⟨rfl, hb1⟩
      rw [HO.out.1]
      have hbb := hw.trans (hb1.mono (by simp))
      clear hb1
      go_wp2
      go_ret2
      exact ⟨rfl, hbb⟩

set_option maxHeartbeats 4000000 in
theorem implFseGet_no (a : Option Addr) (ca : Nat) (ls : List Int) (x : Option Addr) (cx : Nat) (zs : List Int) (N s : Int) (w : World) (ha : Ins w a ls) (hx : Byt w x zs) (hl1 : ls.length ≤ 281474976710656) (hl : zs.length ≤ 281474976710656) (h : ¬ fgArgs ls N s zs) :
    Calls Tryd.prog 18 #[.slice a ls.length ca, .agg #[.slice x zs.length cx, .int .i64 N], .int .i64 s] w fun e w' =>
      e = .returned (.tuple #[.slice none 0 0, .bool false]) ∧ Below w.heap.size w w' := by
  have hw : Below w.heap.size w (w.alloc (Obj.cells #[Value.slice x zs.length cx, Value.int IntKind.i64 N] 25)) := (Below.refl _ _).alloc (Nat.le_refl _) _
  have HT := implNormOk_any a ca ls _ (ha.below hw (Nat.le_refl _)) hl1
  cases hlb : normB ls with
  | false =>
    rw [hlb] at HT
    clear hlb h
    go_enter Tryd.func18, Tryd.ntmps18
    go_wp2_with fail
    refine HT.mono ?_
    clear HT
    rintro e w1 ⟨rfl, rfl⟩
    go_wp2
    go_ret2
    exact ⟨rfl, hw⟩
  | true =>
    have key : okB N zs = false ∨ (okB N zs = true ∧ s < 0) ∨ (okB N zs = true ∧ 0 ≤ s ∧ 300 < s) := by
      cases hO : okB N zs with
      | false => exact .inl rfl
      | true =>
        right
        unfold fgArgs at h
        rw [hO, hlb] at h
        simp only [true_and] at h ⊢
        omega
    rw [hlb] at HT
    clear h hlb
    rcases key with hO | ⟨hO, g1⟩ | ⟨hO, g1, g2⟩
    all_goals
      have HO : Hid (_ ∧ True) := ⟨hO, trivial⟩
      clear hO
      go_enter Tryd.func18, Tryd.ntmps18
      go_wp2_with fail
      refine HT.mono ?_
      clear HT
      rintro e w0 ⟨rfl, rfl⟩
      go_wp2_with fail
      refine (implOk_any x cx zs _ _ (hx.below hw (Nat.le_refl _)) hl).mono ?_
      rintro e w1 ⟨rfl, hb1⟩
      rw [HO.out.1]
      have hbb := hw.trans (hb1.mono (by simp))
      clear hb1
      go_wp2
      go_ret2
      exact ⟨rfl, hbb⟩

set_option maxHeartbeats 4000000 in
theorem specFseGet_ok (a : Option Addr) (ca : Nat) (ls : List Int) (x : Option Addr) (cx : Nat) (zs : List Int) (N n : Nat) (T : List Int) (w : World) (ha : Ins w a ls) (hx : Byt w x zs) (hz : zs = enc N (val zs)) (hN : N ≤ 4096) (hn : n ≤ 300) (hnb : normB ls = true) (hO : okB (N : Int) zs = true) (hTe : tb (pl (fl 0 ls) (plc 64)) ls 64 = T) :
    Calls Tryd.prog 16 #[.slice a ls.length ca, .agg #[.slice x zs.length cx, .int .i64 N], .int .i64 n] w fun e w' => Below w.heap.size w w' ∧
      (fgB T (val zs) N n = false → e = .returned (.tuple #[.slice none 0 0, .bool false])) ∧
      (fgB T (val zs) N n = true → ∃ u, e = .returned (.tuple #[u, .bool true]) ∧ OVI w' w.heap.size u (so T (val zs) (N - 6) n)) := by
  have hw : Below w.heap.size w (w.alloc (Obj.cells #[Value.slice x zs.length cx, Value.int IntKind.i64 N] 25)) := (Below.refl _ _).alloc (Nat.le_refl _) _
  have hbd := normB_bnd hnb
  have hzl : zs.length ≤ 600 := by rw [hz, enc_len]; omega
  have HT := specNormOk_any a ca ls _ (ha.below hw (Nat.le_refl _)) (by omega)
  rw [hnb] at HT
  have HPK : Hid (zs = enc N (val zs) ∧ okB (N : Int) zs = true ∧ tb (pl (fl 0 ls) (plc 64)) ls 64 = T ∧ normB ls = true) := ⟨hz, hO, hTe, hnb⟩
  clear hz hO hTe hnb
  go_enter Tryd.func16, Tryd.ntmps16
  go_wp2_with fail
  refine HT.mono ?_
  clear HT
  rintro e w0 ⟨rfl, rfl⟩
  go_wp2_with fail
  refine (specOk_any x cx zs _ _ (hx.below hw (Nat.le_refl _)) (by omega)).mono ?_
  rintro e w1 ⟨rfl, hb1⟩
  rw [HPK.out.2.1]
  have hbb := hw.trans (hb1.mono (by simp))
  have q0 : w1.cell? ⟨w.heap.size, 0, none⟩ = some (.slice x zs.length cx) := keep hb1 (by simp) (by simp)
  have q1 : w1.cell? ⟨w.heap.size, 1, none⟩ = some (.int .i64 N) := keep hb1 (by simp) (by simp)
  have HL := l3get_any a ca ls x cx zs N (val zs) n T w1 (ha.below hbb (Nat.le_refl _)) (hx.below hbb (Nat.le_refl _)) HPK.out.1 hN hn HPK.out.2.2.2 HPK.out.2.2.1
  have HB1 : Hid (Below w.heap.size w w1 ∧ True) := ⟨hbb, trivial⟩
  clear hb1 hw hbb
  cases hf : fgB T (val zs) N n with
  | true =>
    rw [hf] at HL
    have HFF : Hid (_ ∧ True) := ⟨hf, trivial⟩
    clear hf
    go_wp2_with fail
    refine HL.mono ?_
    clear HL
    rintro e w2 ⟨u, rfl, hov, hb2⟩
    have HF : Hid (OVI w2 w1.heap.size u (so T (val zs) (N - 6) n) ∧ Below w.heap.size w w2) := ⟨(by first | exact hov rfl | exact hov trivial), HB1.out.1.trans (hb2.mono HB1.out.1.size)⟩
    clear hov hb2
    go_wp2
    go_ret2
    exact ⟨HF.out.2, fun h => (by first | exact h.elim | (rw [HFF.out.1] at h; simp at h)), fun _ => ⟨u, rfl, HF.out.1.weakF HB1.out.1.size⟩⟩
  | false =>
    rw [hf] at HL
    have HFF : Hid (_ ∧ True) := ⟨hf, trivial⟩
    clear hf
    go_wp2_with fail
    refine HL.mono ?_
    clear HL
    rintro e w2 ⟨u, rfl, hov, hb2⟩
    have HF : Hid (Below w.heap.size w w2 ∧ True) := ⟨HB1.out.1.trans (hb2.mono HB1.out.1.size), trivial⟩
    clear hov hb2
    go_wp2
    go_ret2
    exact ⟨HF.out.1, fun _ => rfl, fun h => (by first | exact h.elim | (rw [HFF.out.1] at h; simp at h))⟩

set_option maxHeartbeats 4000000 in
theorem implFseGet_ok (a : Option Addr) (ca : Nat) (ls : List Int) (x : Option Addr) (cx : Nat) (zs : List Int) (N n : Nat) (T : List Int) (w : World) (ha : Ins w a ls) (hx : Byt w x zs) (hz : zs = enc N (val zs)) (hN : N ≤ 4096) (hn : n ≤ 300) (hnb : normB ls = true) (hO : okB (N : Int) zs = true) (hTe : tb (pl (fl 0 ls) (plc 64)) ls 64 = T) (hS : SentF w) :
    Calls Tryd.prog 18 #[.slice a ls.length ca, .agg #[.slice x zs.length cx, .int .i64 N], .int .i64 n] w fun e w' => Below w.heap.size w w' ∧
      (fgB T (val zs) N n = false → e = .returned (.tuple #[.slice none 0 0, .bool false])) ∧
      (fgB T (val zs) N n = true → ∃ g, e = .returned (.tuple #[.slice (some ⟨g, 0, none⟩) n n, .bool true]) ∧ OwI w' w.heap.size g n (so T (val zs) (N - 6) n)) := by
  have hw : Below w.heap.size w (w.alloc (Obj.cells #[Value.slice x zs.length cx, Value.int IntKind.i64 N] 25)) := (Below.refl _ _).alloc (Nat.le_refl _) _
  have hbd := normB_bnd hnb
  have hzl : zs.length ≤ 600 := by rw [hz, enc_len]; omega
  have HT := implNormOk_any a ca ls _ (ha.below hw (Nat.le_refl _)) (by omega)
  rw [hnb] at HT
  have HPK : Hid (zs = enc N (val zs) ∧ okB (N : Int) zs = true ∧ tb (pl (fl 0 ls) (plc 64)) ls 64 = T ∧ normB ls = true) := ⟨hz, hO, hTe, hnb⟩
  clear hz hO hTe hnb
  go_enter Tryd.func18, Tryd.ntmps18
  go_wp2_with fail
  refine HT.mono ?_
  clear HT
  rintro e w0 ⟨rfl, rfl⟩
  go_wp2_with fail
  refine (implOk_any x cx zs _ _ (hx.below hw (Nat.le_refl _)) (by omega)).mono ?_
  rintro e w1 ⟨rfl, hb1⟩
  rw [HPK.out.2.1]
  have hbb := hw.trans (hb1.mono (by simp))
  have q0 : w1.cell? ⟨w.heap.size, 0, none⟩ = some (.slice x zs.length cx) := keep hb1 (by simp) (by simp)
  have q1 : w1.cell? ⟨w.heap.size, 1, none⟩ = some (.int .i64 N) := keep hb1 (by simp) (by simp)
  have HL := wholeText_any a ca ls x cx zs N (val zs) n T w1 (ha.below hbb (Nat.le_refl _)) (hx.below hbb (Nat.le_refl _)) HPK.out.1 hN hn HPK.out.2.2.2 HPK.out.2.2.1 (hS.below hbb)
  have HB1 : Hid (Below w.heap.size w w1 ∧ True) := ⟨hbb, trivial⟩
  clear hb1 hw hbb
  go_wp2_with fail
  refine HL.mono ?_
  clear HL
  rintro e w2 ⟨hb2, ⟨hf, T', y, rfl⟩ | ⟨hf, g, rfl, how⟩⟩
  · have HF : Hid (Below w.heap.size w w2 ∧ fgB T (val zs) N n = false) := ⟨HB1.out.1.trans (hb2.mono HB1.out.1.size), hf⟩
    clear hf hb2
    go_wp2
    go_ret2
    exact ⟨HF.out.1, fun _ => rfl, fun h => by rw [HF.out.2] at h; simp at h⟩
  · have HF : Hid (Below w.heap.size w w2 ∧ fgB T (val zs) N n = true ∧ OwI w2 w1.heap.size g n (so T (val zs) (N - 6) n)) := ⟨HB1.out.1.trans (hb2.mono HB1.out.1.size), hf, how⟩
    clear hf hb2 how
    go_wp2
    go_ret2
    exact ⟨HF.out.1, fun h => by rw [HF.out.2.1] at h; simp at h, fun _ => ⟨g, rfl, HF.out.2.2.mono HB1.out.1.size⟩⟩

theorem fseGet_both (N s : Int) (ls zs : List Int) (hl1 : ls.length ≤ 1048576) (hl : zs.length ≤ 1048576) (hr : ∀ z ∈ zs, 0 ≤ z ∧ z ≤ 255) : ∃ (ys : List Int) (ok : Bool), ys.length ≤ 1048576 ∧
    (∀ (a : Option Addr) (ca : Nat) (x : Option Addr) (cx : Nat) (w : World), Ins w a ls → Byt w x zs → Calls Tryd.prog 16 #[.slice a ls.length ca, .agg #[.slice x zs.length cx, .int .i64 N], .int .i64 s] w fun e w' =>
      ∃ a' cp, e = .returned (.tuple #[.slice a' ys.length cp, .bool ok]) ∧ MinI w' w.heap.size w'.heap.size a' cp ys ∧ Below w.heap.size w w') ∧
    (∀ (a : Option Addr) (ca : Nat) (x : Option Addr) (cx : Nat) (w : World), Ins w a ls → Byt w x zs → SentF w → Calls Tryd.prog 18 #[.slice a ls.length ca, .agg #[.slice x zs.length cx, .int .i64 N], .int .i64 s] w fun e w' =>
      ∃ a' cp, e = .returned (.tuple #[.slice a' ys.length cp, .bool ok]) ∧ MinI w' w.heap.size w'.heap.size a' cp ys ∧ Below w.heap.size w w') := by
  by_cases h : fgArgs ls N s zs
  · obtain ⟨hnb, hO, h3, h4⟩ := h
    obtain ⟨n, rfl, hn1, he, hv⟩ := okB_enc hO hr
    obtain ⟨s, rfl⟩ := Int.eq_ofNat_of_zero_le h3
    have hlen := so_len (tb (pl (fl 0 ls) (plc 64)) ls 64) (val zs) (n - 6) s
    cases hf : fgB (tb (pl (fl 0 ls) (plc 64)) ls 64) (val zs) n s with
    | true =>
      refine ⟨so (tb (pl (fl 0 ls) (plc 64)) ls 64) (val zs) (n - 6) s, true, by rw [hlen]; omega, ?_, ?_⟩
      · intro a ca x cx w ha hx
        refine (specFseGet_ok a ca ls x cx zs n s _ w ha hx he (by omega) (by omega) hnb hO rfl).mono ?_
        rintro e w' ⟨hb, _, hy⟩
        obtain ⟨u, rfl, hov⟩ := hy hf
        obtain ⟨au, cu, rfl, hm⟩ := hov.mine
        exact ⟨au, cu, rfl, hm, hb⟩
      · intro a ca x cx w ha hx hS
        refine (implFseGet_ok a ca ls x cx zs n s _ w ha hx he (by omega) (by omega) hnb hO rfl hS).mono ?_
        rintro e w' ⟨hb, _, hy⟩
        obtain ⟨g, rfl, how⟩ := hy hf
        exact ⟨_, s, by rw [hlen], how.mine, hb⟩
    | false =>
      refine ⟨[], false, by simp, ?_, ?_⟩
      · intro a ca x cx w ha hx
        refine (specFseGet_ok a ca ls x cx zs n s _ w ha hx he (by omega) (by omega) hnb hO rfl).mono ?_
        rintro e w' ⟨hb, hy, _⟩
        obtain rfl := hy hf
        exact ⟨none, 0, rfl, .inl ⟨rfl, rfl, rfl⟩, hb⟩
      · intro a ca x cx w ha hx hS
        refine (implFseGet_ok a ca ls x cx zs n s _ w ha hx he (by omega) (by omega) hnb hO rfl hS).mono ?_
        rintro e w' ⟨hb, hy, _⟩
        obtain rfl := hy hf
        exact ⟨none, 0, rfl, .inl ⟨rfl, rfl, rfl⟩, hb⟩
  · refine ⟨[], false, by simp, ?_, ?_⟩
    · intro a ca x cx w ha hx
      refine (specFseGet_no a ca ls x cx zs N s w ha hx (by omega) (by omega) h).mono ?_
      rintro e w' ⟨rfl, hbb⟩
      exact ⟨none, 0, rfl, .inl ⟨rfl, rfl, rfl⟩, hbb⟩
    · intro a ca x cx w ha hx hS
      refine (implFseGet_no a ca ls x cx zs N s w ha hx (by omega) (by omega) h).mono ?_
      rintro e w' ⟨rfl, hbb⟩
      exact ⟨none, 0, rfl, .inl ⟨rfl, rfl, rfl⟩, hbb⟩
end Go.Proofs.YthdpboodalbjiaaDoor
