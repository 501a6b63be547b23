/-
  putCodes and HuffPut of the program.
-/
import Derived.Test.YtkjebacpmmfflaaDoorIBase
import Derived.Test.YtkjebacpmmfflaaDoorHPut1
import Derived.Test.YtkjebacpmmfflaaDoorITxtI
import Derived.Test.YtkjebacpmmfflaaDoorOpenL
import Derived.Deep.RegionWith
namespace Go.Proofs.YtkjebacpmmfflaaDoor
open Go.RowKit
set_option linter.unusedVariables false

/-- What a call keeps of the block of its answer. -/
structure Ans (w W : World) : Prop where
  r0 : W.cell? ⟨w.heap.size, 0, none⟩ = some (.slice none 0 0)
  r1 : W.cell? ⟨w.heap.size, 1, none⟩ = some (.int .i64 0)
  f0 : W.frozen? ⟨w.heap.size, 0, none⟩ = false
  f1 : W.frozen? ⟨w.heap.size, 1, none⟩ = false
  lt : w.heap.size < W.heap.size
  bel : Below w.heap.size w W
theorem Ans.new (w : World) : Ans w (w.alloc (Obj.cells #[Value.slice none 0 0, Value.int IntKind.i64 0] 36)) := ⟨by simp, by simp, by simp, by simp, by simp, (Below.refl _ _).alloc (Nat.le_refl _) _⟩
theorem Ans.step {w W W' : World} {B : Nat} (h : Ans w W) (hb : Below B W W') (hB : w.heap.size < B) : Ans w W' :=
  ⟨keep hb hB h.r0, keep hb hB h.r1, (hb.frozen (p := ⟨w.heap.size, 0, none⟩) hB).trans h.f0, (hb.frozen (p := ⟨w.heap.size, 1, none⟩) hB).trans h.f1, Nat.lt_of_lt_of_le h.lt hb.size, h.bel.trans (hb.mono (Nat.le_of_lt hB))⟩

theorem lensB_okH {zs : List Int} (h : lensB zs = true) : 1 ≤ zs.length ∧ zs.length ≤ 80 ∧ ∀ z ∈ zs, 0 ≤ z ∧ z ≤ 12 := by
  simp only [lensB, decide_eq_true_eq] at h
  exact ⟨h.1, h.2.1, h.2.2.1⟩
/-- Each symbol of the text has a code. -/
def coded (ls ts : List Int) : Prop := ∀ k, k < ts.length → ls.getD (ts.getD k 0).toNat 0 ≠ 0
abbrev csOf (ls : List Int) : List Int := (crun ls (sbL ls 12)).2.2

/-- The sentinel of a symbol without a code. -/
structure SentC (w : World) : Prop where
  s0 : Sent w 5
  hG : 5 < w.heap.size
theorem SentC.below {w w' : World} (h : SentC w) (hb : Below w.heap.size w w') : SentC w' := ⟨h.s0.below hb h.hG, Nat.lt_of_lt_of_le h.hG hb.size⟩

set_option maxRecDepth 20000 in
set_option maxHeartbeats 8000000 in
/-- The writer has n0 bits already. -/
theorem putCodes_any (R B n0 V0 : Nat) (a : Option Addr) (ca : Nat) (ls : List Int) (b : Option Addr) (cb : Nat) (ts : List Int) (w0 w : World) (hw : WI w B R n0 V0) (ha : Ins w0 a ls) (hb : Ins w0 b ts) (hB : w0.heap.size = B) (hbel : Below B w0 w) (hlb : lensB ls = true) (htl : ts.length ≤ 300) (hn0 : n0 + ts.length * 12 ≤ 4096) (hts : ∀ k, k < ts.length → 0 ≤ ts.getD k 0 ∧ ts.getD k 0 < ls.length) (hS : SentC w0) :
    Calls Tryd.prog 42 #[.pointer (some ⟨R, 0, none⟩), .slice a ls.length ca, .slice b ts.length cb] w fun e w' => Below B w0 w' ∧
      (coded ls ts → e = .returned .nilIface ∧ WI w' B R (n0 + hN ls ts ts.length) (V0 + hV ls (csOf ls) ts ts.length * 2 ^ n0)) ∧ (¬ coded ls ts → ∃ T' y, e = .returned (.iface T' y)) := by
  obtain ⟨hn1, hn2, hok⟩ := lensB_okH hlb
  have HCO := codesOf_any a ca ls w (ha.below hbel (by rw [hB]; exact Nat.le_refl _)) hn2 hok
  have HNL : Hid (∀ k, hN ls ts k ≤ 12 * k) := fun k => hN_le (ts := ts) hok k
  have HCL : Hid ((crun ls (sbL ls 12)).2.2.length = ls.length ∧ ∀ z ∈ (crun ls (sbL ls 12)).2.2, 0 ≤ z ∧ z ≤ 8192000) := ⟨crun_len ls (sbL ls 12), crun_rng2 ls hn2⟩
  have HP : Hid (Ins w0 a ls ∧ Ins w0 b ts ∧ (∀ k, k < ts.length → 0 ≤ ts.getD k 0 ∧ ts.getD k 0 < ls.length) ∧ (∀ k, k < ls.length → 0 ≤ ls.getD k 0 ∧ ls.getD k 0 ≤ 12) ∧ SentC w0 ∧ w0.heap.size = B) := ⟨ha, hb, hts, fun k hk => hok _ (getD_mem hk), hS, hB⟩
  have HW : Hid (WI w B R (n0 + 0) (V0 + 0 * 2 ^ n0) ∧ Below B w0 w) := ⟨by simpa using hw, hbel⟩
  have hRlt : R < w.heap.size := by obtain ⟨_, h, _⟩ := hw; exact (Array.getElem?_eq_some_iff.1 h).1
  have hBw : B ≤ w.heap.size := by obtain ⟨_, _, _, _, _, h⟩ := hw; exact h
  clear hw ha hb hB hbel hlb hts hS hok
  go_enter Tryd.func42, Tryd.ntmps42
  go_wp2_with fail
  refine HCO.mono ?_
  clear HCO
  rintro e w1 ⟨rfl, hoc, hb1⟩
  obtain ⟨cur, hcur, hback⟩ := OwI.blockG (w' := w1) hoc
  have HBK : Hid (∀ W : World, W.heap[w.heap.size]? = some (.cells cur 3 (0, 0)) → OwI W w.heap.size w.heap.size ls.length (crun ls (sbL ls 12)).2.2) := fun W hW => by
    obtain ⟨c2, h2, h3⟩ := OwI.blockG (w' := W) hoc
    rw [hcur] at h2
    simp at h2
    subst h2
    exact h3 hW
  have HW1 : Hid (WI w1 B R (n0 + 0) (V0 + 0 * 2 ^ n0) ∧ Below B w0 w1 ∧ w1.heap[w.heap.size]? = some (.cells cur 3 (0, 0))) := ⟨HW.out.1.stay hb1, HW.out.2.trans (hb1.mono hBw), hcur⟩
  have hgR : w.heap.size ≠ R := by omega
  clear hoc hb1 hback hcur HW hRlt
  generalize hcs0 : (crun ls (sbL ls 12)).2.2 = cs at *
  have HCSE : Hid (csOf ls = cs ∧ True) := ⟨hcs0, trivial⟩
  clear hcs0
  generalize w.heap.size = gc at *
  generalize hTn : ts.length = n at *
  generalize hLn : ls.length = L0 at *
  have HLn : Hid (ts.length = n ∧ ls.length = L0) := ⟨hTn, hLn⟩
  clear hTn hLn
  go_wp2
  go_loopw [15] (fun i wr => ∃ k : Nat, k ≤ n ∧ i = .int .i64 k ∧ WI wr B R (n0 + hN ls ts k) (V0 + hV ls cs ts k * 2 ^ n0) ∧ wr.heap[gc]? = some (.cells cur 3 (0, 0)) ∧ Below B w0 wr ∧ ∀ j, j < k → ls.getD (ts.getD j 0).toNat 0 ≠ 0) (fun i _ => n - (intOf i).toNat)
  case atStart => exact ⟨0, Nat.zero_le _, rfl, HW1.out.1, HW1.out.2.2, HW1.out.2.1, fun j hj => by omega⟩
  case round =>
    clear HW1
    obtain ⟨k, hk, rfl, hwi, hgb, hbel, hnz⟩ := hrel
    have HS : Hid (WI wr B R (n0 + hN ls ts k) (V0 + hV ls cs ts k * 2 ^ n0) ∧ wr.heap[gc]? = some (.cells cur 3 (0, 0)) ∧ Below B w0 wr ∧ (∀ j, j < k → ls.getD (ts.getD j 0).toNat 0 ≠ 0) ∧ hN ls ts k ≤ 12 * k) := ⟨hwi, hgb, hbel, hnz, HNL.out k⟩
    by_cases hlt : k < n
    · obtain ⟨b1, o1, rfl, hb1, hc1⟩ := (HP.out.2.1.below hbel (by rw [HP.out.2.2.2.2.2]; exact Nat.le_refl _)).len_pos k (by rw [HLn.out.1]; exact hlt)
      have hs0 := hc1 k (by rw [HLn.out.1]; exact hlt)
      have hsr := HP.out.2.2.1 k hlt
      obtain ⟨sn, hsn⟩ := Int.eq_ofNat_of_zero_le hsr.1
      have hsl : sn < L0 := by omega
      obtain ⟨b2, o2, rfl, hb2, hc2⟩ := (HP.out.1.below hbel (by rw [HP.out.2.2.2.2.2]; exact Nat.le_refl _)).len_pos sn (by rw [HLn.out.2]; exact hsl)
      have hl0 := hc2 sn (by rw [HLn.out.2]; exact hsl)
      have hLr := HP.out.2.2.2.1 sn hsl
      obtain ⟨L, hLe⟩ := Int.eq_ofNat_of_zero_le hLr.1
      rw [hsn] at hs0
      rw [hLe] at hl0 hLr
      have HST : Hid (hN ls ts (k + 1) = hN ls ts k + L ∧ hV ls cs ts (k + 1) = hV ls cs ts k + rvp (cs.getD sn 0).toNat L L * 2 ^ hN ls ts k ∧ ls.getD (ts.getD k 0).toNat 0 = (L : Int)) := by
        refine ⟨?_, ?_, ?_⟩
        · rw [hN, hsn]; unfold zN; rw [Int.toNat_natCast, hLe, Int.toNat_natCast]
        · rw [hV, hsn]; unfold zN; rw [Int.toNat_natCast, hLe, Int.toNat_natCast]
        · rw [hsn, Int.toNat_natCast, hLe]
      have hsn80 : (sn : Int) < (L0 : Int) := by omega
      have hsce := (HP.out.2.2.2.2.1.s0.below hbel (by have := HP.out.2.2.2.2.1.hG; have := HP.out.2.2.2.2.2; omega))
      obtain ⟨T', y, hce⟩ := hsce
      have hcr := HCL.out.2 _ (getD_mem (zs := cs) (k := sn) (by rw [HCL.out.1]; exact hsl))
      have hcc : wr.cell? ⟨gc, sn, none⟩ = some (.int .i64 (cs.getD sn 0)) := (HBK.out wr hgb).cell sn (by rw [HCL.out.1]; exact hsl)
      obtain ⟨c, hce2⟩ := Int.eq_ofNat_of_zero_le hcr.1
      rw [hce2] at hcc hcr
      rw [hce2, Int.toNat_natCast] at HST
      clear hc1 hc2 hwi hgb hbel hnz hsr hsn hLe hce2
      by_cases hL0 : L = 0
      · have HNC : Hid (¬ coded ls ts ∧ Below B w0 wr) := ⟨fun h => h k (by rw [HLn.out.1]; exact hlt) (by rw [HST.out.2.2, hL0]; rfl), HS.out.2.2.1⟩
        subst hL0
        clear HS HST
        go_wp2
        go_ret
        exact ⟨HNC.out.2, fun h => absurd h HNC.out.1, fun _ => ⟨T', y, rfl⟩⟩
      · have HNZ2 : Hid (∀ j, j < k + 1 → ls.getD (ts.getD j 0).toNat 0 ≠ 0) := fun j hj => by
          by_cases hjk : j = k
          · subst hjk; rw [HST.out.2.2]; omega
          · exact HS.out.2.2.2.1 j (by omega)
        have HPU : Hid (∀ W : World, WI W B R (n0 + hN ls ts k) (V0 + hV ls cs ts k * 2 ^ n0) → W.heap[gc]? = some (.cells cur 3 (0, 0)) → Calls Tryd.prog 62 #[.pointer (some ⟨R, 0, none⟩), .int .i64 (c : Nat), .int .i64 (L : Nat)] W fun e w' => e = .returned .nilIface ∧ WI w' B R (n0 + hN ls ts (k + 1)) (V0 + hV ls cs ts (k + 1) * 2 ^ n0) ∧ Below B W w' ∧ w'.heap[gc]? = some (.cells cur 3 (0, 0))) := by
          intro W hW hgW
          have := putCode_yesG W B R _ _ c L gc cur 3 hW hgW (by decide) hgR (by omega) (by omega) (by omega) (by have := HS.out.2.2.2.2; omega)
          rw [Nat.add_assoc, ← HST.out.1, put_at, ← HST.out.2.1] at this
          exact this
        have hne0 : ((L : Int) == 0) = false := by simp; omega
        clear hce
        go_wp2
        go_region_with (go_at_call 62; refine (HPU.out _ (by exact HS.out.1) (by exact HS.out.2.1)).mono ?_; rintro e w6 ⟨rfl, hw6, hb6, hg6⟩; have HW6 : Hid (WI w6 B R (n0 + hN ls ts (k + 1)) (V0 + hV ls cs ts (k + 1) * 2 ^ n0) ∧ w6.heap[gc]? = some (.cells cur 3 (0, 0)) ∧ Below B w0 w6) := ⟨hw6, hg6, HS.out.2.2.1.trans (Below.drewS hb6)⟩; clear hw6 hb6 hg6)
        all_goals
          go_wp2
          go_roundw
          case rel => exact ⟨k + 1, by omega, by go_num, HW6.out.1, HW6.out.2.1, HW6.out.2.2, HNZ2.out⟩
          case measure => simp [intOf]; omega
    · have hkn : k = n := by omega
      subst hkn
      have HCD : Hid (coded ls ts) := fun j hj => hnz j (by rw [HLn.out.1] at hj; exact hj)
      clear hwi hgb hbel hnz
      go_wp2
      go_ret
      exact ⟨HS.out.2.2.1, fun _ => ⟨rfl, by rw [HCSE.out.1, HLn.out.1]; exact HS.out.1⟩, fun h => absurd HCD.out h⟩

set_option maxRecDepth 20000 in
set_option maxHeartbeats 8000000 in
theorem implHuffPut_ok (a : Option Addr) (ca : Nat) (ls : List Int) (b : Option Addr) (cb : Nat) (ts : List Int) (w : World) (ha : Ins w a ls) (hb : Ins w b ts) (hlb : lensB ls = true) (htb : txtB ts ls.length = true) (h4 : Four w) (hE : ErrT w) (hS : SentC w) :
    Calls Tryd.prog 15 #[.slice a ls.length ca, .slice b ts.length cb] w fun e w' => Below w.heap.size w w' ∧
      (coded ls ts → ∃ a' cp, e = .returned (.tuple #[.agg #[.slice a' (enc (hN ls ts ts.length) (hV ls (csOf ls) ts ts.length)).length cp, .int .i64 (hN ls ts ts.length : Nat)], .bool true]) ∧ Mine w' w.heap.size w'.heap.size a' cp (enc (hN ls ts ts.length) (hV ls (csOf ls) ts ts.length))) ∧
      (¬ coded ls ts → e = .returned (.tuple #[.agg #[.slice none 0 0, .int .i64 0], .bool false])) := by
  have hA := Ans.new w
  obtain ⟨hn1, hn2, hok⟩ := lensB_okH hlb
  obtain ⟨-, -, ht3⟩ := txtB_bnd htb
  have HT := implLens_any a ca ls _ (ha.below hA.bel (Nat.le_refl _)) (by omega) (h4.below hA.bel) (hE.below hA.bel)
  have HA : Hid (Ans w (w.alloc (Obj.cells #[Value.slice none 0 0, Value.int IntKind.i64 0] 36))) := hA
  have HQ : Hid (lensB ls = true ∧ (∀ k, k < ts.length → 0 ≤ ts.getD k 0 ∧ ts.getD k 0 < ls.length) ∧ txtB ts ls.length = true ∧ Ins w a ls ∧ Ins w b ts ∧ SentC w) := ⟨hlb, fun k hk => txtB_get htb k hk, htb, ha, hb, hS⟩
  rw [hlb] at HT
  clear hlb htb hA ha hb hS h4 hE hok
  go_enter Tryd.func15, Tryd.ntmps15
  go_wp2_with fail
  generalize w.alloc (Obj.cells #[Value.slice none 0 0, Value.int IntKind.i64 0] 36) = W at *
  refine HT.mono ?_
  clear HT
  rintro e w1 ⟨rfl, hb1⟩
  have HA1 : Hid (Ans w w1) := HA.out.step hb1 HA.out.lt
  have HX := implTxt_any b cb ts (ls.length : Int) w1 (HQ.out.2.2.2.2.1.below HA1.out.bel (Nat.le_refl _)) (by omega)
  rw [HQ.out.2.2.1] at HX
  clear hb1 HA
  go_wp2_with fail
  refine HX.mono ?_
  clear HX
  rintro e w2 ⟨rfl, rfl⟩
  go_wp2_with fail
  refine (newWriter_any none 0 [] 0 4096 w2 ⟨by simp, by simp⟩ (by simp)).mono ?_
  rintro e w3 ⟨R, g, rfl, hR, hown, hRge, hb3⟩
  have HPT := putCodes_any R w2.heap.size 0 0 a ca ls b cb ts w2 w3 (WI.new hR hown hRge hb3.size) (HQ.out.2.2.2.1.below HA1.out.bel (Nat.le_refl _)) (HQ.out.2.2.2.2.1.below HA1.out.bel (Nat.le_refl _)) rfl hb3 HQ.out.1 ht3 (by omega) HQ.out.2.1 (HQ.out.2.2.2.2.2.below HA1.out.bel)
  rw [Nat.zero_add, Nat.zero_add, Nat.pow_zero, Nat.mul_one] at HPT
  clear hR hown hRge hb3
  go_wp2_with fail
  refine HPT.mono ?_
  clear HPT
  rintro e w5 ⟨hb5, hyes, hno⟩
  have hA5 := HA1.out.step hb5 HA1.out.lt
  by_cases hs : coded ls ts
  · obtain ⟨rfl, hwi⟩ := hyes hs
    obtain ⟨a', cp, d0, d1, hmine⟩ := hwi.cells
    generalize hES : enc (hN ls ts ts.length) (hV ls (csOf ls) ts ts.length) = es at *
    have HF : Hid (Mine w5 w2.heap.size w5.heap.size a' cp es ∧ Ans w w5 ∧ w.heap.size < w2.heap.size ∧ coded ls ts ∧ enc (hN ls ts ts.length) (hV ls (csOf ls) ts ts.length) = es) := ⟨hmine, hA5, HA1.out.lt, hs, hES⟩
    obtain ⟨x0, x1, y0, y1, _, _⟩ := hA5
    clear hmine hb5 hyes hno hwi hs HA1 hES
    generalize hMM : hN ls ts ts.length = M at *
    have HMM : Hid (hN ls ts ts.length = M ∧ True) := ⟨hMM, trivial⟩
    clear hMM
    go_wp2
    refine bodyPost_ret (v := .tuple #[.agg #[.slice a' es.length cp, .int .i64 (M : Nat)], .bool true]) (by simp [results, Tryd.results15, go_sem, x0, x1]) rfl ⟨((HF.out.2.1.bel.setCell (by simp) _).setCell (by simp) _), fun _ => ⟨a', cp, by rw [HMM.out.1, HF.out.2.2.2.2], ?_⟩, fun h => absurd HF.out.2.2.2.1 h⟩
    rw [HMM.out.1, HF.out.2.2.2.2]
    exact mine_out _ _ HF.out.1 HF.out.2.2.1 (Nat.le_refl _)
  · obtain ⟨T', y, rfl⟩ := hno hs
    have HF : Hid (Ans w w5 ∧ ¬ coded ls ts) := ⟨hA5, hs⟩
    obtain ⟨x0, x1, y0, y1, _, _⟩ := hA5
    clear hb5 hyes hno hs HA1
    go_wp2
    exact bodyPost_ret (v := .tuple #[.agg #[.slice none 0 0, .int .i64 0], .bool false]) (by simp [results, Tryd.results15, go_sem, x0, x1]) rfl ⟨by repeat (first | exact HF.out.1.bel | refine Below.setCell ?_ (by simp) _), fun h => absurd h HF.out.2, fun _ => rfl⟩
end Go.Proofs.YtkjebacpmmfflaaDoor
