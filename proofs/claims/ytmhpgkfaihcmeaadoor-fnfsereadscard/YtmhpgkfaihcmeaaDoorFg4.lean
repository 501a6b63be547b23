/-
  wholeText of the program.
-/
import Derived.Test.YtmhpgkfaihcmeaaDoorFg3
import Derived.Test.YtmhpgkfaihcmeaaDoorTb5
namespace Go.Proofs.YtmhpgkfaihcmeaaDoor
open Go.RowKit
set_option linter.unusedVariables false

/-- The sentinels of a reader from behind. -/
structure SentF (w : World) : Prop where
  s0 : Sent w 3
  s1 : Sent w 5
  s2 : Sent w 0
  hG : 3 < w.heap.size ∧ 5 < w.heap.size ∧ 0 < w.heap.size
theorem SentF.below {w w' : World} (h : SentF w) (hb : Below w.heap.size w w') : SentF w' :=
  ⟨h.s0.below hb h.hG.1, h.s1.below hb h.hG.2.1, h.s2.below hb h.hG.2.2, by have := hb.size; have := h.hG; omega⟩

theorem below_dF {B : Nat} {a b : World} (h : Below B a b) (n : Nat) : Below B a (b.drewN n) := ⟨h.os, h.tape, h.output, h.size, h.block⟩
theorem fgB_shortF {T : List Int} {v N n : Nat} (h : N < 6) : fgB T v N n = false := by
  unfold fgB
  rw [decide_eq_false_iff_not]
  omega
theorem fgB_longF {T : List Int} {v E n : Nat} : fgB T v (E + 6) n = decide (sg T v E n = some (0, 0)) := by unfold fgB; simp

set_option maxRecDepth 20000 in
set_option maxHeartbeats 8000000 in
theorem wholeText_any (a : Option Addr) (ca : Nat) (ls : List Int) (x : Option Addr) (cx : Nat) (zs : List Int) (N v n : Nat) (T : List Int) (w : World) (ha : Ins w a ls) (hx : Byt w x zs) (hz : zs = enc N v) (hN : N ≤ 4096) (hn : n ≤ 300) (hnb : normB ls = true) (hTe : tb (pl (fl 0 ls) (plc 64)) ls 64 = T) (hS : SentF w) :
    Calls Tryd.prog 30 #[.slice a ls.length ca, .agg #[.slice x zs.length cx, .int .i64 N], .int .i64 n] w fun e w' => Below w.heap.size w w' ∧
      ((fgB T v N n = false ∧ ∃ T' y, e = .returned (.tuple #[.slice none 0 0, .iface T' y])) ∨
       (fgB T v N n = true ∧ ∃ gq, e = .returned (.tuple #[.slice (some ⟨gq, 0, none⟩) n n, .nilIface]) ∧ OwI w' w.heap.size gq n (so T v (N - 6) n))) := by
  have hw : Below w.heap.size w (w.alloc (Obj.cells #[Value.slice x zs.length cx, Value.int IntKind.i64 N] 27)) := (Below.refl _ _).alloc (Nat.le_refl _) _
  have hbd := normB_bnd hnb
  have hw2 : Below (w.alloc (Obj.cells #[Value.slice x zs.length cx, Value.int IntKind.i64 N] 27)).heap.size (w.alloc (Obj.cells #[Value.slice x zs.length cx, Value.int IntKind.i64 N] 27)) ((w.alloc (Obj.cells #[Value.slice x zs.length cx, Value.int IntKind.i64 N] 27)).alloc (Obj.cells #[Value.slice x zs.length cx, Value.int IntKind.i64 N, Value.int IntKind.i64 N] 70)) := (Below.refl _ _).alloc (Nat.le_refl _) _
  have HRN : Hid (((w.alloc (Obj.cells #[Value.slice x zs.length cx, Value.int IntKind.i64 N] 27)).alloc (Obj.cells #[Value.slice x zs.length cx, Value.int IntKind.i64 N, Value.int IntKind.i64 N] 70)).heap[w.heap.size + 1]? = some (.cells #[Value.slice x zs.length cx, Value.int IntKind.i64 N, Value.int IntKind.i64 N] 70 (0, 0)) ∧ (w.alloc (Obj.cells #[Value.slice x zs.length cx, Value.int IntKind.i64 N] 27)).heap.size = w.heap.size + 1 ∧ ((w.alloc (Obj.cells #[Value.slice x zs.length cx, Value.int IntKind.i64 N] 27)).alloc (Obj.cells #[Value.slice x zs.length cx, Value.int IntKind.i64 N, Value.int IntKind.i64 N] 70)).heap.size = w.heap.size + 2) := by
    have := heap_alloc_new (w.alloc (Obj.cells #[Value.slice x zs.length cx, Value.int IntKind.i64 N] 27)) (Obj.cells #[Value.slice x zs.length cx, Value.int IntKind.i64 N, Value.int IntKind.i64 N] 70)
    rw [World.size_alloc] at this
    exact ⟨this, by simp, by simp⟩
  have HX0 : Hid (Byt (w.alloc (Obj.cells #[Value.slice x zs.length cx, Value.int IntKind.i64 N] 27)) x zs) := hx.alloc _
  have HCO := cellsOf_any a ca ls _ ((ha.below hw (Nat.le_refl _)).below hw2 (Nat.le_refl _)) hnb
  have HS1 : Hid (SentF (w.alloc (Obj.cells #[Value.slice x zs.length cx, Value.int IntKind.i64 N] 27))) := hS.below hw
  have HGD : Hid (Gd T ls.length) := by unfold Hid; rw [← hTe]; exact gd_tb hnb
  rw [hTe] at HCO
  have HPK : Hid (zs = enc N v ∧ True) := ⟨hz, trivial⟩
  have HBW : Hid (_ ∧ _) := ⟨hw, hw2⟩
  clear hz hTe hnb hw hw2 hx ha hS
  go_enter Tryd.func30, Tryd.ntmps30
  go_wp2_with fail
  generalize w.alloc (Obj.cells #[Value.slice x zs.length cx, Value.int IntKind.i64 N] 27) = W0 at *
  generalize W0.alloc (Obj.cells #[Value.slice x zs.length cx, Value.int IntKind.i64 N, Value.int IntKind.i64 N] 70) = W1 at *
  refine HCO.mono ?_
  clear HCO
  rintro e w2 ⟨g, rfl, hg, hTg, hb2⟩
  have hTg' : w2.heap[g]? = some (.cells (cel T) 83 (0, 0)) := hTg
  have hs2 := hb2.size
  have HR2 : Hid (RD w2 W0.heap.size (w.heap.size + 1) x zs.length cx N N ∧ Below W0.heap.size W0 w2 ∧ Below w.heap.size w w2) := by
    have h1 := HRN.out.2.1
    have h2 := HRN.out.2.2
    have hb02 := HBW.out.2.trans (hb2.mono (show W0.heap.size ≤ W1.heap.size by omega))
    exact ⟨⟨(hb2.block (w.heap.size + 1) (by omega)).trans HRN.out.1, by omega, by omega⟩, hb02, HBW.out.1.trans (hb02.mono (by omega))⟩
  have HTG : Hid (w2.heap[g]? = some (.cells (cel T) 83 (0, 0)) ∧ g ≠ w.heap.size + 1) := ⟨hTg', by have := HRN.out.2.2; omega⟩
  have HSS : Hid (w.heap.size + 1 ≤ w2.heap.size ∧ W0.heap.size = w.heap.size + 1) := ⟨by have := HRN.out.2.2; omega, HRN.out.2.1⟩
  clear hTg hTg' hb2 hg hs2 HRN HBW
  by_cases h6 : N < 6
  · have HBT := backText_short (w.heap.size + 1) g W0.heap.size x cx zs N n W0 w2 HR2.out.2.1 h6 HR2.out.1 HS1.out.s0 HS1.out.s1 ⟨HS1.out.hG.1, HS1.out.hG.2.1⟩
    go_wp2_with fail
    refine HBT.mono ?_
    clear HBT
    rintro e w3 ⟨hon, T', y, rfl⟩
    have HB3 : Hid (Below w.heap.size w w3 ∧ True) := ⟨HR2.out.2.2.trans (hon.below (by have := HSS.out.1; omega) (fun k hk => by omega)), trivial⟩
    have HF : Hid (fgB T v N n = false ∧ True) := ⟨fgB_shortF h6, trivial⟩
    clear hon HR2 HTG
    go_wp2
    go_ret2
    exact ⟨HB3.out.1, .inl ⟨HF.out.1, T', y, rfl⟩⟩
  · obtain ⟨E, hE⟩ : ∃ E, N = E + 6 := ⟨N - 6, by omega⟩
    have HNE : Hid (N = E + 6 ∧ N - 6 = E) := ⟨hE, by omega⟩
    have HBT := backText_long (w.heap.size + 1) g W0.heap.size x cx zs E N v n T ls.length W0 w2 HX0.out rfl HR2.out.2.1 HPK.out.1 hN hn hE HGD.out (by omega) HR2.out.1 HTG.out.1 HTG.out.2 HS1.out.s0 HS1.out.s1 ⟨HS1.out.hG.1, HS1.out.hG.2.1⟩
    have HF : Hid (fgB T v N n = decide (sg T v E n = some (0, 0)) ∧ True) := ⟨by rw [hE]; exact fgB_longF, trivial⟩
    clear hE h6
    go_wp2_with fail
    refine HBT.mono ?_
    clear HBT
    rintro e w3 ⟨hon, ⟨hno, T', y, rfl⟩ | ⟨st, en, gq, hsg, rfl, how, hrd⟩⟩
    · have HB3 : Hid (Below w.heap.size w w3 ∧ True) := ⟨HR2.out.2.2.trans (hon.below (by have := HSS.out.1; omega) (fun k hk => by omega)), trivial⟩
      have HF2 : Hid (fgB T v N n = false ∧ True) := ⟨by rw [HF.out.1, hno]; rfl, trivial⟩
      clear hon HR2 HTG hno HF
      go_wp2
      go_ret2
      exact ⟨HB3.out.1, .inl ⟨HF2.out.1, T', y, rfl⟩⟩
    · have HB3 : Hid (Below w.heap.size w w3 ∧ True) := ⟨HR2.out.2.2.trans (hon.below (by have := HSS.out.1; omega) (fun k hk => by omega)), trivial⟩
      have c2 : w3.cell? ⟨w.heap.size + 1, 2, none⟩ = some (.int .i64 en) := cellRR (j := 2) hrd.1 rfl
      have hS3 := HS1.out.below (HR2.out.2.1.trans (hon.below (by have := HSS.out; omega) (fun k hk => by have := HSS.out; omega)))
      have HOW : Hid (OwI w3 w.heap.size gq n (so T v E n)) := how.mono (by have := HSS.out.1; omega)
      have HSG : Hid (sg T v E n = some (st, en) ∧ True) := ⟨hsg, trivial⟩
      obtain ⟨Te, ye, hce⟩ := hS3.s2
      clear hon hrd how HR2 HTG hsg hS3
      by_cases h1 : st = 0
      · by_cases h2 : en = 0
        · have HF2 : Hid (fgB T v N n = true ∧ True) := ⟨by rw [HF.out.1, HSG.out.1, h1, h2]; rfl, trivial⟩
          subst h1 h2
          clear HSG HF
          go_wp2
          go_ret2
          exact ⟨HB3.out.1, .inr ⟨HF2.out.1, gq, rfl, by rw [HNE.out.2]; exact HOW.out⟩⟩
        · have HF2 : Hid (fgB T v N n = false ∧ True) := ⟨by rw [HF.out.1, HSG.out.1]; simp; omega, trivial⟩
          have h2i : ((en : Int) != 0) = true := by simp; omega
          subst h1
          clear HSG HF
          go_wp2
          go_quiet (fail)
          go_wp2
          go_ret2
          exact ⟨below_dF HB3.out.1 _, .inl ⟨HF2.out.1, Te, ye, rfl⟩⟩
      · have HF2 : Hid (fgB T v N n = false ∧ True) := ⟨by rw [HF.out.1, HSG.out.1]; simp; omega, trivial⟩
        have h2i : ((st : Int) != 0) = true := by simp; omega
        clear HSG HF
        go_wp2
        go_quiet (fail)
        go_wp2
        go_ret2
        exact ⟨below_dF HB3.out.1 _, .inl ⟨HF2.out.1, Te, ye, rfl⟩⟩
end Go.Proofs.YtmhpgkfaihcmeaaDoor
