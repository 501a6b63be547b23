/-
  FsePut, both sides.
-/
import Derived.Test.YtmhpgkfaihcmeaaDoorFp6b
import Derived.Test.YtmhpgkfaihcmeaaDoorFp7
import Derived.Test.YtmhpgkfaihcmeaaDoorTb5
import Derived.Test.YtmhpgkfaihcmeaaDoorAns
import Derived.Test.YtmhpgkfaihcmeaaDoorPut3
import Derived.Test.YtmhpgkfaihcmeaaDoorITxtI
import Derived.Test.YtmhpgkfaihcmeaaDoorITxt
namespace Go.Proofs.YtmhpgkfaihcmeaaDoor
open Go.RowKit
set_option linter.unusedVariables false

/-- The sentinels of a writer by a table. -/
structure SentP (w : World) : Prop where
  s0 : Sent w 2
  hG : 2 < w.heap.size
theorem SentP.below {w w' : World} (h : SentP w) (hb : Below w.heap.size w w') : SentP w' := ⟨h.s0.below hb h.hG, Nat.lt_of_lt_of_le h.hG hb.size⟩

def fpArgs (ls ts : List Int) : Prop := normB ls = true ∧ txtB ts ls.length = true

set_option maxHeartbeats 4000000 in
theorem specFsePut_no (a : Option Addr) (ca : Nat) (ls : List Int) (b : Option Addr) (cb : Nat) (ts : List Int) (w : World) (ha : Ins w a ls) (hb : Ins w b ts) (hl1 : ls.length ≤ 281474976710656) (hl2 : ts.length ≤ 281474976710656) (hno : ¬ (fpArgs ls ts ∧ shd ls ts)) :
    Calls Tryd.prog 32 #[.slice a ls.length ca, .slice b ts.length cb] w fun e w' => e = .returned (.tuple #[.agg #[.slice none 0 0, .int .i64 0], .bool false]) ∧ Below w.heap.size w w' := by
  have hA := Ans.new w
  have HT := specNormOk_any a ca ls _ (ha.below hA.bel (Nat.le_refl _)) hl1
  have HX := specTxt_any b cb ts (ls.length : Int) _ (hb.below hA.bel (Nat.le_refl _)) hl2
  have HA : Hid (Ans w (w.alloc (Obj.cells #[Value.slice none 0 0, Value.int IntKind.i64 0] 27))) := hA
  cases h1 : normB ls with
  | false =>
    rw [h1] at HT
    clear h1 hno HX hA
    go_enter Tryd.func32, Tryd.ntmps32
    go_wp2_with fail
    refine HT.mono ?_
    clear HT
    rintro e w1 ⟨rfl, rfl⟩
    go_wp2
    exact bodyPost_ret (v := .tuple #[.agg #[.slice none 0 0, .int .i64 0], .bool false]) (by simp [results, Tryd.results32, go_sem]) rfl ⟨rfl, by repeat (first | exact HA.out.bel | refine Below.setCell ?_ (by simp) _)⟩
  | true =>
    cases h2 : txtB ts ls.length with
    | false =>
      rw [h1] at HT
      rw [h2] at HX
      clear h1 h2 hno hA
      go_enter Tryd.func32, Tryd.ntmps32
      go_wp2_with fail
      refine HT.mono ?_
      clear HT
      rintro e w1 ⟨rfl, rfl⟩
      go_wp2_with fail
      refine HX.mono ?_
      clear HX
      rintro e w2 ⟨rfl, rfl⟩
      go_wp2
      exact bodyPost_ret (v := .tuple #[.agg #[.slice none 0 0, .int .i64 0], .bool false]) (by simp [results, Tryd.results32, go_sem]) rfl ⟨rfl, by repeat (first | exact HA.out.bel | refine Below.setCell ?_ (by simp) _)⟩
    | true =>
      have hns : ¬ shd ls ts := fun h => hno ⟨⟨h1, h2⟩, h⟩
      have hbd := normB_bnd h1
      obtain ⟨-, -, ht3⟩ := txtB_bnd h2
      have HH := l3has_any a ca ls b cb ts _ (ha.below hA.bel (Nat.le_refl _)) (hb.below hA.bel (Nat.le_refl _)) hbd.2 ht3 (fun k hk => txtB_get h2 k hk)
      rw [decide_eq_false hns] at HH
      rw [h1] at HT
      rw [h2] at HX
      clear h1 h2 hno hns hA
      go_enter Tryd.func32, Tryd.ntmps32
      go_wp2_with fail
      refine HT.mono ?_
      clear HT
      rintro e w1 ⟨rfl, rfl⟩
      go_wp2_with fail
      refine HX.mono ?_
      clear HX
      rintro e w2 ⟨rfl, rfl⟩
      go_wp2_with fail
      refine HH.mono ?_
      clear HH
      rintro e w3 ⟨rfl, rfl⟩
      go_wp2
      exact bodyPost_ret (v := .tuple #[.agg #[.slice none 0 0, .int .i64 0], .bool false]) (by simp [results, Tryd.results32, go_sem]) rfl ⟨rfl, by repeat (first | exact HA.out.bel | refine Below.setCell ?_ (by simp) _)⟩

set_option maxHeartbeats 4000000 in
theorem specFsePut_ok (a : Option Addr) (ca : Nat) (ls : List Int) (b : Option Addr) (cb : Nat) (ts T : List Int) (w : World) (ha : Ins w a ls) (hb : Ins w b ts) (h1 : normB ls = true) (h2 : txtB ts ls.length = true) (hs : shd ls ts) (hTe : tb (pl (fl 0 ls) (plc 64)) ls 64 = T) :
    Calls Tryd.prog 32 #[.slice a ls.length ca, .slice b ts.length cb] w fun e w' => ∃ a' cp, e = .returned (.tuple #[.agg #[.slice a' (enc (fN T ts) (fV T ts)).length cp, .int .i64 (fN T ts : Nat)], .bool true]) ∧ Mine w' w.heap.size w'.heap.size a' cp (enc (fN T ts) (fV T ts)) ∧ Below w.heap.size w w' := by
  have hA := Ans.new w
  have hbd := normB_bnd h1
  obtain ⟨-, -, ht3⟩ := txtB_bnd h2
  have HT := specNormOk_any a ca ls _ (ha.below hA.bel (Nat.le_refl _)) (by omega)
  have HX := specTxt_any b cb ts (ls.length : Int) _ (hb.below hA.bel (Nat.le_refl _)) (by omega)
  have HH := l3has_any a ca ls b cb ts _ (ha.below hA.bel (Nat.le_refl _)) (hb.below hA.bel (Nat.le_refl _)) hbd.2 ht3 (fun k hk => txtB_get h2 k hk)
  have HP := l3put_any a ca ls b cb ts T _ (ha.below hA.bel (Nat.le_refl _)) (hb.below hA.bel (Nat.le_refl _)) h1 hTe ht3 (fun k hk => txtB_get h2 k hk) hs
  have HA : Hid (Ans w (w.alloc (Obj.cells #[Value.slice none 0 0, Value.int IntKind.i64 0] 27))) := hA
  rw [decide_eq_true hs] at HH
  rw [h1] at HT
  rw [h2] at HX
  generalize hES : enc (fN T ts) (fV T ts) = es at *
  clear h1 h2 hs hTe hA hES
  go_enter Tryd.func32, Tryd.ntmps32
  go_wp2_with fail
  refine HT.mono ?_
  clear HT
  rintro e w1 ⟨rfl, rfl⟩
  go_wp2_with fail
  refine HX.mono ?_
  clear HX
  rintro e w2 ⟨rfl, rfl⟩
  go_wp2_with fail
  refine HH.mono ?_
  clear HH
  rintro e w3 ⟨rfl, rfl⟩
  go_wp2_with fail
  generalize w.alloc (Obj.cells #[Value.slice none 0 0, Value.int IntKind.i64 0] 27) = W at *
  refine HP.mono ?_
  clear HP
  rintro e w4 ⟨a', cp, rfl, hm, hb4⟩
  have hA4 := HA.out.step hb4 HA.out.lt
  have HF : Hid (Mine w4 W.heap.size w4.heap.size a' cp es ∧ Ans w w4 ∧ w.heap.size < W.heap.size) := ⟨hm, hA4, HA.out.lt⟩
  obtain ⟨x0, x1, y0, y1, _, _⟩ := hA4
  have hz4 := HF.out.2.1.lt
  clear hm hb4 HA
  go_wp2
  have hM := mine_out (.slice a' es.length cp) (.int .i64 ((fN T ts : Nat) : Int)) HF.out.1 HF.out.2.2 (Nat.le_refl _)
  have hB := (HF.out.2.1.bel.setCell (p := ⟨w.heap.size, 0, none⟩) (by simp) (.slice a' es.length cp)).setCell (p := ⟨w.heap.size, 1, none⟩) (by simp) (.int .i64 ((fN T ts : Nat) : Int))
  refine bodyPost_ret (v := .tuple #[.agg #[.slice a' es.length cp, .int .i64 (fN T ts : Nat)], .bool true]) (by simp [results, Tryd.results32, go_sem, x0, x1, hz4]) rfl ⟨a', cp, rfl, ?_, ?_⟩
  · exact (hM.below ((Below.refl _ _).alloc (Nat.le_refl _) _)).mono (Nat.le_refl _) (by simp)
  · exact hB.alloc hB.size _

set_option maxHeartbeats 4000000 in
theorem implFsePut_no (a : Option Addr) (ca : Nat) (ls : List Int) (b : Option Addr) (cb : Nat) (ts : List Int) (w : World) (ha : Ins w a ls) (hb : Ins w b ts) (hl1 : ls.length ≤ 281474976710656) (hl2 : ts.length ≤ 281474976710656) (hno : ¬ fpArgs ls ts) :
    Calls Tryd.prog 7 #[.slice a ls.length ca, .slice b ts.length cb] w fun e w' => e = .returned (.tuple #[.agg #[.slice none 0 0, .int .i64 0], .bool false]) ∧ Below w.heap.size w w' := by
  have hA := Ans.new w
  have HT := implNormOk_any a ca ls _ (ha.below hA.bel (Nat.le_refl _)) hl1
  have HX := implTxt_any b cb ts (ls.length : Int) _ (hb.below hA.bel (Nat.le_refl _)) hl2
  have HA : Hid (Ans w (w.alloc (Obj.cells #[Value.slice none 0 0, Value.int IntKind.i64 0] 27))) := hA
  cases h1 : normB ls with
  | false =>
    rw [h1] at HT
    clear h1 hno HX hA
    go_enter Tryd.func7, Tryd.ntmps7
    go_wp2_with fail
    refine HT.mono ?_
    clear HT
    rintro e w1 ⟨rfl, rfl⟩
    go_wp2
    exact bodyPost_ret (v := .tuple #[.agg #[.slice none 0 0, .int .i64 0], .bool false]) (by simp [results, Tryd.results7, go_sem]) rfl ⟨rfl, by repeat (first | exact HA.out.bel | refine Below.setCell ?_ (by simp) _)⟩
  | true =>
    have h2 : txtB ts ls.length = false := by
      cases h : txtB ts ls.length with
      | false => rfl
      | true => exact absurd ⟨h1, h⟩ hno
    rw [h1] at HT
    rw [h2] at HX
    clear h1 h2 hno hA
    go_enter Tryd.func7, Tryd.ntmps7
    go_wp2_with fail
    refine HT.mono ?_
    clear HT
    rintro e w1 ⟨rfl, rfl⟩
    go_wp2_with fail
    refine HX.mono ?_
    clear HX
    rintro e w2 ⟨rfl, rfl⟩
    go_wp2
    exact bodyPost_ret (v := .tuple #[.agg #[.slice none 0 0, .int .i64 0], .bool false]) (by simp [results, Tryd.results7, go_sem]) rfl ⟨rfl, by repeat (first | exact HA.out.bel | refine Below.setCell ?_ (by simp) _)⟩

set_option maxRecDepth 20000 in
set_option maxHeartbeats 8000000 in
theorem implFsePut_ok (a : Option Addr) (ca : Nat) (ls : List Int) (b : Option Addr) (cb : Nat) (ts T : List Int) (w : World) (ha : Ins w a ls) (hb : Ins w b ts) (h1 : normB ls = true) (h2 : txtB ts ls.length = true) (hTe : tb (pl (fl 0 ls) (plc 64)) ls 64 = T) (hS : SentP w) :
    Calls Tryd.prog 7 #[.slice a ls.length ca, .slice b ts.length cb] w fun e w' => Below w.heap.size w w' ∧
      (shd ls ts → ∃ a' cp, e = .returned (.tuple #[.agg #[.slice a' (enc (fN T ts) (fV T ts)).length cp, .int .i64 (fN T ts : Nat)], .bool true]) ∧ Mine w' w.heap.size w'.heap.size a' cp (enc (fN T ts) (fV T ts))) ∧
      (¬ shd ls ts → e = .returned (.tuple #[.agg #[.slice none 0 0, .int .i64 0], .bool false])) := by
  have hA := Ans.new w
  have hbd := normB_bnd h1
  obtain ⟨-, -, ht3⟩ := txtB_bnd h2
  have HT := implNormOk_any a ca ls _ (ha.below hA.bel (Nat.le_refl _)) (by omega)
  have HX := implTxt_any b cb ts (ls.length : Int) _ (hb.below hA.bel (Nat.le_refl _)) (by omega)
  have HA : Hid (Ans w (w.alloc (Obj.cells #[Value.slice none 0 0, Value.int IntKind.i64 0] 27))) := hA
  have HTB : Hid (Tab T ls) := by unfold Hid; rw [← hTe]; exact tab_tb h1
  have HQ : Hid (normB ls = true ∧ (∀ k, k < ts.length → 0 ≤ ts.getD k 0 ∧ ts.getD k 0 < ls.length) ∧ tb (pl (fl 0 ls) (plc 64)) ls 64 = T ∧ Ins w a ls ∧ Ins w b ts ∧ SentP w) := ⟨h1, fun k hk => txtB_get h2 k hk, hTe, ha, hb, hS⟩
  rw [h1] at HT
  rw [h2] at HX
  clear h1 h2 hA hTe ha hb hS
  go_enter Tryd.func7, Tryd.ntmps7
  go_wp2_with fail
  refine HT.mono ?_
  clear HT
  rintro e w1 ⟨rfl, rfl⟩
  go_wp2_with fail
  refine HX.mono ?_
  clear HX
  rintro e w2 ⟨rfl, rfl⟩
  go_wp2_with fail
  generalize w.alloc (Obj.cells #[Value.slice none 0 0, Value.int IntKind.i64 0] 27) = W at *
  refine (newWriter_any none 0 [] 0 4096 W ⟨by simp, by simp⟩ (by simp)).mono ?_
  rintro e w3 ⟨R, g, rfl, hR, hown, hRge, hb3⟩
  have HW3 : Hid (WI w3 W.heap.size R 0 0 ∧ Below W.heap.size W w3 ∧ W.heap.size ≤ R) := ⟨WI.new hR hown hRge hb3.size, hb3, hRge⟩
  have HCO := cellsOf_any a ca ls w3 ((HQ.out.2.2.2.1.below HA.out.bel (Nat.le_refl _)).below hb3 (Nat.le_refl _)) HQ.out.1
  rw [HQ.out.2.2.1] at HCO
  have hRlt : R < w3.heap.size := (Array.getElem?_eq_some_iff.1 hR).1
  clear hR hown hRge hb3
  go_wp2_with fail
  refine HCO.mono ?_
  clear HCO
  rintro e w4 ⟨gt, rfl, hgt, hTg, hb4⟩
  have HPT := putText_any R W.heap.size gt 0 0 b cb ls ts T W w4 (HW3.out.1.stay hb4) hTg (by omega) HTB.out (HQ.out.2.2.2.2.1.below HA.out.bel (Nat.le_refl _)) rfl (HW3.out.2.1.trans (hb4.mono HW3.out.2.1.size)) ht3 (by omega) HQ.out.2.1 (HQ.out.2.2.2.2.2.below HA.out.bel).s0 (HQ.out.2.2.2.2.2.below HA.out.bel).hG
  rw [Nat.zero_add, Nat.zero_add, Nat.pow_zero, Nat.mul_one] at HPT
  clear hTg hb4 hgt hRlt
  go_wp2_with fail
  refine HPT.mono ?_
  clear HPT
  rintro e w5 ⟨hb5, hyes, hno⟩
  have hA5 := HA.out.step hb5 HA.out.lt
  by_cases hs : shd ls ts
  · obtain ⟨rfl, hwi⟩ := hyes hs
    obtain ⟨a', cp, d0, d1, hmine⟩ := hwi.cells
    generalize hES : enc (fN T ts) (fV T ts) = es at *
    have HF : Hid (Mine w5 W.heap.size w5.heap.size a' cp es ∧ Ans w w5 ∧ w.heap.size < W.heap.size ∧ shd ls ts ∧ enc (fN T ts) (fV T ts) = es) := ⟨hmine, hA5, HA.out.lt, hs, hES⟩
    obtain ⟨x0, x1, y0, y1, _, _⟩ := hA5
    clear hmine hb5 hyes hno hwi hs HA HW3 hES
    go_wp2
    refine bodyPost_ret (v := .tuple #[.agg #[.slice a' es.length cp, .int .i64 (fN T ts : Nat)], .bool true]) (by simp [results, Tryd.results7, go_sem, x0, x1]) rfl ⟨((HF.out.2.1.bel.setCell (by simp) _).setCell (by simp) _), fun _ => ⟨a', cp, by rw [HF.out.2.2.2.2], ?_⟩, fun h => absurd HF.out.2.2.2.1 h⟩
    rw [HF.out.2.2.2.2]
    exact mine_out _ _ HF.out.1 HF.out.2.2.1 (Nat.le_refl _)
  · obtain ⟨T', y, rfl⟩ := hno hs
    have HF : Hid (Ans w w5 ∧ ¬ shd ls ts) := ⟨hA5, hs⟩
    obtain ⟨x0, x1, y0, y1, _, _⟩ := hA5
    clear hb5 hyes hno hs HA HW3
    go_wp2
    exact bodyPost_ret (v := .tuple #[.agg #[.slice none 0 0, .int .i64 0], .bool false]) (by simp [results, Tryd.results7, go_sem, x0, x1]) rfl ⟨by repeat (first | exact HF.out.1.bel | refine Below.setCell ?_ (by simp) _), fun h => absurd h HF.out.2, fun _ => rfl⟩

theorem fN_le {T ls ts : List Int} (hT : Tab T ls) (hts : ∀ k, k < ts.length → 0 ≤ ts.getD k 0 ∧ ts.getD k 0 < ls.length) (hs : shd ls ts) (h3 : ts.length ≤ 300) : fN T ts ≤ 1806 := by
  have := (fpS_ok hT hts ts.length (Nat.le_refl _) (fun j hj => hs _ (by omega))).2.1
  unfold fN
  omega

theorem fsePut_both (ls ts : List Int) (hl1 : ls.length ≤ 1048576) (hl2 : ts.length ≤ 1048576) : ∃ (ys : List Int) (M : Int) (ok : Bool), ys.length ≤ 1048576 ∧
    (∀ (a : Option Addr) (ca : Nat) (b : Option Addr) (cb : Nat) (w : World), Ins w a ls → Ins w b ts → Calls Tryd.prog 32 #[.slice a ls.length ca, .slice b ts.length cb] w fun e w' =>
      ∃ a' cp, e = .returned (.tuple #[.agg #[.slice a' ys.length cp, .int .i64 M], .bool ok]) ∧ Mine w' w.heap.size w'.heap.size a' cp ys ∧ Below w.heap.size w w') ∧
    (∀ (a : Option Addr) (ca : Nat) (b : Option Addr) (cb : Nat) (w : World), Ins w a ls → Ins w b ts → SentP w → Calls Tryd.prog 7 #[.slice a ls.length ca, .slice b ts.length cb] w fun e w' =>
      ∃ a' cp, e = .returned (.tuple #[.agg #[.slice a' ys.length cp, .int .i64 M], .bool ok]) ∧ Mine w' w.heap.size w'.heap.size a' cp ys ∧ Below w.heap.size w w') := by
  by_cases h : fpArgs ls ts
  · obtain ⟨h1, h2⟩ := h
    obtain ⟨-, -, ht3⟩ := txtB_bnd h2
    by_cases hc : shd ls ts
    · refine ⟨enc (fN (tb (pl (fl 0 ls) (plc 64)) ls 64) ts) (fV (tb (pl (fl 0 ls) (plc 64)) ls 64) ts), (fN (tb (pl (fl 0 ls) (plc 64)) ls 64) ts : Nat), true, ?_, fun a ca b cb w ha hb => ?_, fun a ca b cb w ha hb hS => ?_⟩
      · have h3 := fN_le (tab_tb h1) (fun k hk => txtB_get h2 k hk) hc ht3
        rw [enc_len]
        omega
      · exact specFsePut_ok a ca ls b cb ts _ w ha hb h1 h2 hc rfl
      · refine (implFsePut_ok a ca ls b cb ts _ w ha hb h1 h2 rfl hS).mono ?_
        rintro e w' ⟨hb', hy, -⟩
        obtain ⟨a', cp, he, hm⟩ := hy hc
        exact ⟨a', cp, he, hm, hb'⟩
    · refine ⟨[], 0, false, by simp, fun a ca b cb w ha hb => ?_, fun a ca b cb w ha hb hS => ?_⟩
      · refine (specFsePut_no a ca ls b cb ts w ha hb (by omega) (by omega) (fun h => hc h.2)).mono ?_
        rintro e w' ⟨rfl, hb'⟩
        exact ⟨none, 0, rfl, .inl ⟨rfl, rfl, rfl⟩, hb'⟩
      · refine (implFsePut_ok a ca ls b cb ts _ w ha hb h1 h2 rfl hS).mono ?_
        rintro e w' ⟨hb', -, hy⟩
        exact ⟨none, 0, hy hc, .inl ⟨rfl, rfl, rfl⟩, hb'⟩
  · refine ⟨[], 0, false, by simp, fun a ca b cb w ha hb => ?_, fun a ca b cb w ha hb hS => ?_⟩
    · refine (specFsePut_no a ca ls b cb ts w ha hb (by omega) (by omega) (fun hh => h hh.1)).mono ?_
      rintro e w' ⟨rfl, hb'⟩
      exact ⟨none, 0, rfl, .inl ⟨rfl, rfl, rfl⟩, hb'⟩
    · refine (implFsePut_no a ca ls b cb ts w ha hb (by omega) (by omega) h).mono ?_
      rintro e w' ⟨rfl, hb'⟩
      exact ⟨none, 0, rfl, .inl ⟨rfl, rfl, rfl⟩, hb'⟩
end Go.Proofs.YtmhpgkfaihcmeaaDoor
