/-
  Symbols of the program; the model and the program answer alike.
-/
import Derived.Test.YtecmnbdnnlifhaaDoorSy3
import Derived.Test.YtecmnbdnnlifhaaDoorWCells
import Derived.Test.YtecmnbdnnlifhaaDoorSqB
namespace Go.Proofs.YtecmnbdnnlifhaaDoor
open Go.RowKit
set_option linter.unusedVariables false
set_option linter.unusedSimpArgs false

/-- An answer of Symbols: numbers, bits. -/
structure AnsY (w w' : World) (sa : Option Addr) (sc : Nat) (va : Option Addr) (vc : Nat) (ts zs : List Int) : Prop where
  mi : MinI w' w.heap.size w'.heap.size sa sc ts
  mb : Mine w' w.heap.size w'.heap.size va vc zs
  bel : Below w.heap.size w w'
theorem AnsY.nil {w w' : World} (hb : Below w.heap.size w w') : AnsY w w' none 0 none 0 [] [] := ⟨.inl ⟨rfl, rfl, rfl⟩, .inl ⟨rfl, rfl, rfl⟩, hb⟩
def noY (w w' : World) (e : Ending) : Prop := e = .returned (.tuple #[.slice none 0 0, .agg #[.slice none 0 0, .int .i64 0], .bool false]) ∧ Below w.heap.size w w'
def yesY (w w' : World) (ss : List Sq) (e : Ending) : Prop := ∃ sa sc va vc, e = .returned (.tuple #[.slice sa (syOf ss).1.length sc, .agg #[.slice va (enc (syOf ss).2.1 (syOf ss).2.2).length vc, .int .i64 ((syOf ss).2.1 : Nat)], .bool true]) ∧ AnsY w w' sa sc va vc (syOf ss).1 (enc (syOf ss).2.1 (syOf ss).2.2)
/-- What Symbols answers. -/
def syA (w w' : World) (ss : List Sq) (e : Ending) : Prop := ((sqn ss).isSome = true → yesY w w' ss e) ∧ ((sqn ss).isSome = false → noY w w' e)
theorem syA.no {w w' : World} {ss : List Sq} {e : Ending} (h : (sqn ss).isSome = false) (hn : noY w w' e) : syA w w' ss e := And.intro (fun h' => by rw [h] at h'; cases h') (fun _ => hn)
theorem syA.yes {w w' : World} {ss : List Sq} {e : Ending} (h : (sqn ss).isSome = true) (hn : yesY w w' ss e) : syA w w' ss e := And.intro (fun _ => hn) (fun h' => by rw [h] at h'; cases h')
theorem minI_out {S : Nat → Prop} {w w' : World} {B B' : Nat} {v : Value} {zs : List Int} (h : OVI w B v zs) (ho : Only S w w') (hs : ∀ k, B ≤ k → ¬ S k) (hB : B' ≤ B) : ∃ a c, v = .slice a zs.length c ∧ MinI w' B' w'.heap.size a c zs := by
  obtain ⟨a, c, e, hm⟩ := (ovi_weakS h ho hs hB).mine
  exact ⟨a, c, e, hm⟩

theorem ansY_fin {w w3 : World} {C : Nat} {sa : Option Addr} {sc : Nat} {va : Option Addr} {vc : Nat} {ts zs : List Int} {x y : Value} (h1 : OVI w3 C (.slice sa ts.length sc) ts) (h2 : OwnV w3 C (.slice va zs.length vc) zs) (h3 : Below w.heap.size w w3) (hC : w.heap.size < C) :
    AnsY w (((w3.setCell ⟨w.heap.size, 0, none⟩ x).setCell ⟨w.heap.size, 1, none⟩ y).drew) sa sc va vc ts zs := by
  have ho : Only (fun b => b = w.heap.size) w3 (((w3.setCell ⟨w.heap.size, 0, none⟩ x).setCell ⟨w.heap.size, 1, none⟩ y).drew) := (((Only.refl (fun b => b = w.heap.size) w3).setCell (p := ⟨w.heap.size, 0, none⟩) (.inl rfl) _).setCell (p := ⟨w.heap.size, 1, none⟩) (.inl rfl) _).drew
  obtain ⟨a5, c5, e5, h5⟩ := minI_out h1 ho (fun k hk => by omega) (Nat.le_of_lt hC)
  obtain ⟨rfl, rfl⟩ : sa = a5 ∧ sc = c5 := by simpa using e5
  obtain ⟨a6, c6, e6, h6⟩ := (ownV_weakS h2 ho (fun k hk => by omega) (Nat.le_of_lt hC)).mine
  obtain ⟨rfl, rfl⟩ : va = a6 ∧ vc = c6 := by simpa using e6
  exact ⟨h5, h6, h3.trans (ho.below h3.size (fun k hk => by omega))⟩
set_option maxRecDepth 20000 in
set_option maxHeartbeats 1600000 in
theorem specSymbols_any (a : Option Addr) (cap : Nat) (ss : List Sq) (w : World) (hb : Sqs w a ss) (hx : ss.length ≤ 1048576) (hxl : ∀ s ∈ ss, s.ls.length ≤ 1048576) :
    Calls Tryd.prog 6 #[.slice a ss.length cap] w fun e w' => syA w w' ss e := by
  have hw : Below w.heap.size w (w.alloc (Obj.cells #[.slice none 0 0, .int .i64 0] 27)) := (Below.refl _ _).alloc (Nat.le_refl _) _
  have HC := specSeqsOk_any a cap ss _ (hb.below hw (Nat.le_refl _)) (by omega) (fun s hs => by have := hxl s hs; omega)
  have r0 : (w.alloc (Obj.cells #[.slice none 0 0, .int .i64 0] 27)).heap[w.heap.size]? = some (.cells #[.slice none 0 0, .int .i64 0] 27 (0, 0)) := heap_alloc_new w _
  have HH : Hid (Sqs w a ss) := hb
  clear hb hxl
  go_enter Tryd.func6, Tryd.ntmps6
  go_wp2_with fail
  refine HC.mono ?_
  clear HC
  rintro e w1 ⟨rfl, hb1⟩
  have hX1 : w1.heap[w.heap.size]? = some (.cells #[.slice none 0 0, .int .i64 0] 27 (0, 0)) := (hb1.block w.heap.size (by simp)).trans r0
  have HB1 : Hid (Below w.heap.size w w1 ∧ w1.heap[w.heap.size]? = some (.cells #[.slice none 0 0, .int .i64 0] 27 (0, 0)) ∧ w.heap.size < w1.heap.size) := ⟨hw.trans (hb1.mono (by simp)), hX1, (Array.getElem?_eq_some_iff.1 hX1).1⟩
  have x0 : w1.cell? ⟨w.heap.size, 0, none⟩ = some (.slice none 0 0) := cellRR (j := 0) hX1 rfl
  have x1 : w1.cell? ⟨w.heap.size, 1, none⟩ = some (.int .i64 0) := cellRR (j := 1) hX1 rfl
  have y0 := frozen_of_row w1 w.heap.size 0 _ _ hX1
  have y1 := frozen_of_row w1 w.heap.size 1 _ _ hX1
  clear hb1 hw r0 hX1
  cases hso : (sqn ss).isSome with
  | false =>
    have HSO : Hid ((sqn ss).isSome = false) := hso
    have HBF : Hid (Below w.heap.size w ((w1.setCell ⟨w.heap.size, 0, none⟩ (.slice none 0 0)).setCell ⟨w.heap.size, 1, none⟩ (.int .i64 0))) := (HB1.out.1.setCell (p := ⟨w.heap.size, 0, none⟩) (Nat.le_refl _) _).setCell (p := ⟨w.heap.size, 1, none⟩) (Nat.le_refl _) _
    clear hso
    go_wp2
    exact bodyPost_ret (v := .tuple #[.slice none 0 0, .agg #[.slice none 0 0, .int .i64 0], .bool false]) (by simp [results, Tryd.results6, go_sem, x0, x1]) rfl (syA.no HSO.out ⟨rfl, HBF.out⟩)
  | true =>
    have HSO : Hid ((sqn ss).isSome = true) := hso
    have HU := l5symbols_any a cap ss w1 (HH.out.below HB1.out.1 (Nat.le_refl _)) (SyOk.of hso)
    clear hso x0 x1 y0 y1
    go_wp2_with fail
    refine HU.mono ?_
    clear HU
    rintro e w2 ⟨⟨sa, sc, v, rfl, hov, hv, hV⟩, hb2⟩
    obtain ⟨va, vc, rfl, -⟩ := hv.mine
    have hX2 : w2.heap[w.heap.size]? = some (.cells #[.slice none 0 0, .int .i64 0] 27 (0, 0)) := (hb2.block w.heap.size HB1.out.2.2).trans HB1.out.2.1
    have x0 : w2.cell? ⟨w.heap.size, 0, none⟩ = some (.slice none 0 0) := cellRR (j := 0) hX2 rfl
    have x1 : w2.cell? ⟨w.heap.size, 1, none⟩ = some (.int .i64 0) := cellRR (j := 1) hX2 rfl
    have y0 := frozen_of_row w2 w.heap.size 0 _ _ hX2
    have y1 := frozen_of_row w2 w.heap.size 1 _ _ hX2
    have hlt2 : w.heap.size < w2.heap.size := (Array.getElem?_eq_some_iff.1 hX2).1
    have HS2 : Hid (OVI w2 w1.heap.size (.slice sa (syOf ss).1.length sc) (syOf ss).1 ∧ OwnV w2 w1.heap.size (.slice va (enc (syOf ss).2.1 (syOf ss).2.2).length vc) (enc (syOf ss).2.1 (syOf ss).2.2) ∧ Below w1.heap.size w1 w2) := ⟨hov, hv, hb2⟩
    have HX2 : Hid (w2.heap[w.heap.size]? = some (.cells #[.slice none 0 0, .int .i64 0] 27 (0, 0))) := hX2
    clear hov hv hV hb2 hX2
    have HA3 : Hid ((w2.alloc (Obj.cells #[.slice va (enc (syOf ss).2.1 (syOf ss).2.2).length vc, .int .i64 ((syOf ss).2.1 : Nat)] 27)).heap[w.heap.size]? = some (.cells #[.slice none 0 0, .int .i64 0] 27 (0, 0)) ∧ (w2.alloc (Obj.cells #[.slice va (enc (syOf ss).2.1 (syOf ss).2.2).length vc, .int .i64 ((syOf ss).2.1 : Nat)] 27)).heap[w2.heap.size]? = some (.cells #[(.slice va (enc (syOf ss).2.1 (syOf ss).2.2).length vc), .int .i64 ((syOf ss).2.1 : Nat)] 27 (0, 0)) ∧ OVI (w2.alloc (Obj.cells #[.slice va (enc (syOf ss).2.1 (syOf ss).2.2).length vc, .int .i64 ((syOf ss).2.1 : Nat)] 27)) w1.heap.size (.slice sa (syOf ss).1.length sc) (syOf ss).1 ∧ OwnV (w2.alloc (Obj.cells #[.slice va (enc (syOf ss).2.1 (syOf ss).2.2).length vc, .int .i64 ((syOf ss).2.1 : Nat)] 27)) w1.heap.size (.slice va (enc (syOf ss).2.1 (syOf ss).2.2).length vc) (enc (syOf ss).2.1 (syOf ss).2.2) ∧ Below w.heap.size w (w2.alloc (Obj.cells #[.slice va (enc (syOf ss).2.1 (syOf ss).2.2).length vc, .int .i64 ((syOf ss).2.1 : Nat)] 27))) := by
      have hA : Below w2.heap.size w2 (w2.alloc (Obj.cells #[.slice va (enc (syOf ss).2.1 (syOf ss).2.2).length vc, .int .i64 ((syOf ss).2.1 : Nat)] 27)) := (Below.refl _ _).alloc (Nat.le_refl _) _
      exact ⟨(hA.block w.heap.size hlt2).trans HX2.out, heap_alloc_new w2 _, HS2.out.1.below hA, HS2.out.2.1.stayP hA, (HB1.out.1.trans (HS2.out.2.2.mono (Nat.le_of_lt HB1.out.2.2))).trans (hA.mono (by omega))⟩
    clear HS2 x0 x1 y0 y1
    go_wp2
    generalize (w2.alloc (Obj.cells #[.slice va (enc (syOf ss).2.1 (syOf ss).2.2).length vc, .int .i64 ((syOf ss).2.1 : Nat)] 27)) = w3 at *
    generalize w2.heap.size = X6 at *
    have x0 : w3.cell? ⟨w.heap.size, 0, none⟩ = some (.slice none 0 0) := cellRR (j := 0) HA3.out.1 rfl
    have x1 : w3.cell? ⟨w.heap.size, 1, none⟩ = some (.int .i64 0) := cellRR (j := 1) HA3.out.1 rfl
    have y0 := frozen_of_row w3 w.heap.size 0 _ _ HA3.out.1
    have y1 := frozen_of_row w3 w.heap.size 1 _ _ HA3.out.1
    have b0 : w3.cell? ⟨X6, 0, none⟩ = some (.slice va (enc (syOf ss).2.1 (syOf ss).2.2).length vc) := cellRR (j := 0) HA3.out.2.1 rfl
    have b1 : w3.cell? ⟨X6, 1, none⟩ = some (.int .i64 ((syOf ss).2.1 : Nat)) := cellRR (j := 1) HA3.out.2.1 rfl
    have HFIN : Hid (AnsY w (((w3.setCell ⟨w.heap.size, 0, none⟩ (.slice va (enc (syOf ss).2.1 (syOf ss).2.2).length vc)).setCell ⟨w.heap.size, 1, none⟩ (.int .i64 ((syOf ss).2.1 : Nat))).drew) sa sc va vc (syOf ss).1 (enc (syOf ss).2.1 (syOf ss).2.2)) := ansY_fin HA3.out.2.2.1 HA3.out.2.2.2.1 HA3.out.2.2.2.2 HB1.out.2.2
    clear HA3
    go_region
    all_goals go_wp2
    all_goals exact bodyPost_ret (v := .tuple #[.slice sa (syOf ss).1.length sc, .agg #[(.slice va (enc (syOf ss).2.1 (syOf ss).2.2).length vc), .int .i64 ((syOf ss).2.1 : Nat)], .bool true]) (by simp [results, Tryd.results6, go_sem, x0, x1]) rfl (syA.yes HSO.out ⟨sa, sc, va, vc, rfl, HFIN.out⟩)
end Go.Proofs.YtecmnbdnnlifhaaDoor
namespace Go.Proofs.YtecmnbdnnlifhaaDoor
open Go.RowKit
set_option linter.unusedVariables false
set_option linter.unusedSimpArgs false

set_option maxRecDepth 20000 in
set_option maxHeartbeats 3200000 in
theorem implSymbols_any (a : Option Addr) (cap : Nat) (ss : List Sq) (w : World) (hb : Sqs w a ss) (hx : ss.length ≤ 1048576) (hxl : ∀ s ∈ ss, s.ls.length ≤ 1048576) :
    Calls Tryd.prog 8 #[.slice a ss.length cap] w fun e w' => syA w w' ss e := by
  have hw : Below w.heap.size w (w.alloc (Obj.cells #[.slice none 0 0, .int .i64 0] 27)) := (Below.refl _ _).alloc (Nat.le_refl _) _
  have HC := implSeqsOk_any a cap ss _ (hb.below hw (Nat.le_refl _)) (by omega) (fun s hs => by have := hxl s hs; omega)
  have r0 : (w.alloc (Obj.cells #[.slice none 0 0, .int .i64 0] 27)).heap[w.heap.size]? = some (.cells #[.slice none 0 0, .int .i64 0] 27 (0, 0)) := heap_alloc_new w _
  have HH : Hid (Sqs w a ss) := hb
  clear hb hxl
  go_enter Tryd.func8, Tryd.ntmps8
  go_wp2_with fail
  refine HC.mono ?_
  clear HC
  rintro e w1 ⟨rfl, hb1⟩
  have hX1 : w1.heap[w.heap.size]? = some (.cells #[.slice none 0 0, .int .i64 0] 27 (0, 0)) := (hb1.block w.heap.size (by simp)).trans r0
  have HB1 : Hid (Below w.heap.size w w1 ∧ w1.heap[w.heap.size]? = some (.cells #[.slice none 0 0, .int .i64 0] 27 (0, 0)) ∧ w.heap.size < w1.heap.size) := ⟨hw.trans (hb1.mono (by simp)), hX1, (Array.getElem?_eq_some_iff.1 hX1).1⟩
  have x0 : w1.cell? ⟨w.heap.size, 0, none⟩ = some (.slice none 0 0) := cellRR (j := 0) hX1 rfl
  have x1 : w1.cell? ⟨w.heap.size, 1, none⟩ = some (.int .i64 0) := cellRR (j := 1) hX1 rfl
  have y0 := frozen_of_row w1 w.heap.size 0 _ _ hX1
  have y1 := frozen_of_row w1 w.heap.size 1 _ _ hX1
  clear hb1 hw r0 hX1
  cases hso : (sqn ss).isSome with
  | false =>
    have HSO : Hid ((sqn ss).isSome = false) := hso
    have HBF : Hid (Below w.heap.size w ((w1.setCell ⟨w.heap.size, 0, none⟩ (.slice none 0 0)).setCell ⟨w.heap.size, 1, none⟩ (.int .i64 0))) := (HB1.out.1.setCell (p := ⟨w.heap.size, 0, none⟩) (Nat.le_refl _) _).setCell (p := ⟨w.heap.size, 1, none⟩) (Nat.le_refl _) _
    clear hso
    go_wp2
    exact bodyPost_ret (v := .tuple #[.slice none 0 0, .agg #[.slice none 0 0, .int .i64 0], .bool false]) (by simp [results, Tryd.results8, go_sem, x0, x1]) rfl (syA.no HSO.out ⟨rfl, HBF.out⟩)
  | true =>
    have HSO : Hid ((sqn ss).isSome = true ∧ SyOk ss) := ⟨hso, SyOk.of hso⟩
    have HNW := newWriter_any none 0 [] 0 4096 w1 ⟨by simp, by simp⟩ (by simp)
    clear hso x0 x1 y0 y1
    go_wp2_with fail
    refine HNW.mono ?_
    clear HNW
    rintro e w2 ⟨R, g, rfl, hR, hown, hRge, hb2⟩
    have HST : Hid (SwS (w2.alloc (Obj.cells #[.slice none 0 0, .pointer (some ⟨R, 0, none⟩)] 58)) w1.heap.size w2.heap.size R ([], 0, 0) ∧ Below w1.heap.size w1 (w2.alloc (Obj.cells #[.slice none 0 0, .pointer (some ⟨R, 0, none⟩)] 58))) := by
      have hWI : WI w2 w1.heap.size R 0 0 := WI.new hR hown hRge hb2.size
      have hA : Below w2.heap.size w2 (w2.alloc (Obj.cells #[.slice none 0 0, .pointer (some ⟨R, 0, none⟩)] 58)) := (Below.refl _ _).alloc (Nat.le_refl _) _
      exact ⟨⟨⟨none, 0, heap_alloc_new w2 _, OVI.nil _ _⟩, hWI.stay hA, hb2.size⟩, hb2.trans (hA.mono hb2.size)⟩
    clear hR hown
    have HLN : Hid (∃ n, ss.length = n) := ⟨_, rfl⟩
    obtain ⟨n, hn⟩ := HLN.out
    have HN : Hid (ss.length = n ∧ True) := ⟨hn, trivial⟩
    have hn40 : n ≤ 40 := by rw [← hn]; exact HSO.out.2.few
    rw [hn]
    clear hn HLN hb2 hRge hx
    go_wp2
    generalize w2.alloc (Obj.cells #[.slice none 0 0, .pointer (some ⟨R, 0, none⟩)] 58) = W3 at *
    generalize w2.heap.size = P at *
    go_loopw [19] (fun iv wr => ∃ k : Nat, k ≤ n ∧ iv = .int .i64 k ∧ SwS wr w1.heap.size P R (syOf (ss.take k)) ∧ Below w1.heap.size w1 wr) (fun iv _ => n - (intOf iv).toNat)
    case atStart => exact ⟨0, Nat.zero_le _, rfl, by simpa [syOf] using HST.out.1, HST.out.2⟩
    case round =>
      clear HST
      obtain ⟨k, hk, rfl, hsy, hbel⟩ := hrel
      have hbb := HB1.out.1.trans (hbel.mono (Nat.le_of_lt HB1.out.2.2))
      have HS : Hid (SwS wr w1.heap.size P R (syOf (ss.take k)) ∧ Below w1.heap.size w1 wr ∧ Below w.heap.size w wr) := ⟨hsy, hbel, hbb⟩
      clear hsy hbel
      by_cases hlt : k < n
      · obtain ⟨b, off, rfl, hbw, hly⟩ := HH.out.len_pos k (by rw [HN.out.1]; exact hlt)
        have hl0 := (hly k (by rw [HN.out.1]; exact hlt)).below hbb (Nat.le_refl _) hbw
        have hl1 := (hly k (by rw [HN.out.1]; exact hlt)).below HB1.out.1 (Nat.le_refl _) hbw
        have d0 := hl0.c0
        have d1 := hl0.c1
        have d2 := hl0.c2
        have hby := hl1.byt
        have hbn := HSO.out.2.bnd k (by rw [HN.out.1]; exact hlt)
        have hnm := HSO.out.2.nums k (by rw [HN.out.1]; exact hlt)
        have HTK : Hid (syOf (ss.take (k + 1)) = putQ (syOf (ss.take k)) (ss.getD k dq) ∧ True) := ⟨syOf_take ss k (by rw [HN.out.1]; exact hlt), trivial⟩
        clear hly hl0 hl1 hbb
        generalize ss.getD k dq = q at *
        generalize syOf (ss.take k) = st at *
        obtain ⟨qa, qc, ql, qn, qd⟩ := q
        simp only at hbn hnm d0 d1 d2 hby
        have hA : Below wr.heap.size wr (wr.alloc (Obj.cells #[.slice qa ql.length qc, .int .i64 qn, .int .i64 qd] 52)) := (Below.refl _ _).alloc (Nat.le_refl _) _
        have HC := putSeq_any w1.heap.size P R qa qc ql qn qd st w1 (wr.alloc (Obj.cells #[.slice qa ql.length qc, .int .i64 qn, .int .i64 qd] 52)) rfl (HS.out.2.1.trans (hA.mono HS.out.2.1.size)) (HS.out.1.below hA) hby hnm hbn
        clear hby hnm hbn hA
        go_wp2_with fail
        refine HC.mono ?_
        clear HC
        rintro e w5 ⟨rfl, hs5, hb5⟩
        have HS5 : Hid (SwS w5 w1.heap.size P R (syOf (ss.take (k + 1))) ∧ Below w1.heap.size w1 w5) := ⟨by rw [HTK.out.1]; exact hs5, hb5⟩
        clear hs5 hb5 HS d0 d1 d2
        go_wp2
        go_roundw
        case rel => exact ⟨k + 1, by omega, by go_num, HS5.out.1, HS5.out.2⟩
        case measure => simp [intOf]; omega
      · have hkn : k = n := by omega
        subst hkn
        have HTE : Hid (syOf (ss.take k) = syOf ss ∧ True) := ⟨by rw [List.take_of_length_le (by rw [HN.out.1]; exact Nat.le_refl _)], trivial⟩
        rw [HTE.out.1] at HS
        obtain ⟨sa, sc, hP, hov⟩ := HS.out.1.box
        obtain ⟨v, hR, hv, hV, hBR, -⟩ := HS.out.1.wi
        obtain ⟨va, vc, rfl, -⟩ := hv.mine
        have hX : wr.heap[w.heap.size]? = some (.cells #[.slice none 0 0, .int .i64 0] 27 (0, 0)) := (HS.out.2.1.block w.heap.size HB1.out.2.2).trans HB1.out.2.1
        have HFIN : Hid (AnsY w (((wr.setCell ⟨w.heap.size, 0, none⟩ (.slice va (enc (syOf ss).2.1 (syOf ss).2.2).length vc)).setCell ⟨w.heap.size, 1, none⟩ (.int .i64 ((syOf ss).2.1 : Nat))).drew) sa sc va vc (syOf ss).1 (enc (syOf ss).2.1 (syOf ss).2.2)) := ansY_fin hov hv HS.out.2.2 HB1.out.2.2
        have x0 : wr.cell? ⟨w.heap.size, 0, none⟩ = some (.slice none 0 0) := cellRR (j := 0) hX rfl
        have x1 : wr.cell? ⟨w.heap.size, 1, none⟩ = some (.int .i64 0) := cellRR (j := 1) hX rfl
        have y0 := frozen_of_row wr w.heap.size 0 _ _ hX
        have y1 := frozen_of_row wr w.heap.size 1 _ _ hX
        have p0 : wr.cell? ⟨P, 0, none⟩ = some (.slice sa (syOf ss).1.length sc) := cellRR (j := 0) hP rfl
        have p1 : wr.cell? ⟨P, 1, none⟩ = some (.pointer (some ⟨R, 0, none⟩)) := cellRR (j := 1) hP rfl
        have r0 : wr.cell? ⟨R, 0, none⟩ = some (.slice va (enc (syOf ss).2.1 (syOf ss).2.2).length vc) := cellRR (j := 0) hR rfl
        have r1 : wr.cell? ⟨R, 1, none⟩ = some (.int .i64 ((syOf ss).2.1 : Nat)) := cellRR (j := 1) hR rfl
        clear hP hov hR hv hV hX HS HTE HH hbb
        go_wp2
        go_region
        all_goals go_wp2
        all_goals exact bodyPost_ret (v := .tuple #[.slice sa (syOf ss).1.length sc, .agg #[.slice va (enc (syOf ss).2.1 (syOf ss).2.2).length vc, .int .i64 ((syOf ss).2.1 : Nat)], .bool true]) (by simp [results, Tryd.results8, go_sem, x0, x1]) rfl (syA.yes HSO.out.1 ⟨sa, sc, va, vc, rfl, HFIN.out⟩)
end Go.Proofs.YtecmnbdnnlifhaaDoor
