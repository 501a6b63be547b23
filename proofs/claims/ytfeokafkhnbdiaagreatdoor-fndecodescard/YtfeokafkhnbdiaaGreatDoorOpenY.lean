/-
  The bits ahead of the last one, as bytes.
-/
import Derived.Test.YtfeokafkhnbdiaaGreatDoorEnK
import Derived.Test.YtfeokafkhnbdiaaGreatDoorLzL
import Derived.Test.YtfeokafkhnbdiaaGreatDoorSy3
import Derived.Test.YtfeokafkhnbdiaaGreatDoorEkM
import Derived.Test.YtfeokafkhnbdiaaGreatDoorEkL
import Derived.Test.YtfeokafkhnbdiaaGreatDoorLPutT2
import Derived.Test.YtfeokafkhnbdiaaGreatDoorHPutT2
import Derived.Test.YtfeokafkhnbdiaaGreatDoorJoin1
import Derived.Test.YtfeokafkhnbdiaaGreatDoorFp6b
import Derived.BigQuiet
import Derived.Test.YtfeokafkhnbdiaaGreatDoorPut4
import Derived.Test.YtfeokafkhnbdiaaGreatDoorPut1
namespace Go.Proofs.YtfeokafkhnbdiaaGreatDoor
open Go.RowKit
set_option linter.unusedVariables false
set_option linter.unusedSimpArgs false

theorem SI.parts {w : World} {B R n V : Nat} (h : SI w B R n V) : ∃ a' cp, w.cell? ⟨R, 0, none⟩ = some (.slice a' (enc n V).length cp) ∧ w.cell? ⟨R, 1, none⟩ = some (.int .i64 n) ∧ Byt w a' (enc n V) ∧ V < 2 ^ n ∧ R < w.heap.size ∧ B ≤ w.heap.size ∧ w.frozen? ⟨R, 0, none⟩ = false ∧ w.frozen? ⟨R, 1, none⟩ = false := by
  obtain ⟨v, hR, hv, hV, hBR, hB⟩ := h
  obtain ⟨a', cp, rfl, hm⟩ := hv.mine
  exact ⟨a', cp, cellR (j := 0) hR rfl, cellR (j := 1) hR rfl, hm.byt, hV, (Array.getElem?_eq_some_iff.1 hR).1, hB, frozenR hR, frozenR hR⟩

/-- Two cells stored, and a block laid behind. -/
def st2 (w : World) (R : Nat) (v0 v1 : Value) (o : Obj) : World := ((w.setCell ⟨R, 0, none⟩ v0).setCell ⟨R, 1, none⟩ v1).alloc o
theorem st2_cells {w : World} {R : Nat} {x0 x1 : Value} (h0 : w.cell? ⟨R, 0, none⟩ = some x0) (h1 : w.cell? ⟨R, 1, none⟩ = some x1) (hR : R < w.heap.size) (v0 v1 : Value) (o : Obj) :
    (((w.setCell ⟨R, 0, none⟩ v0).setCell ⟨R, 1, none⟩ v1).alloc o).cell? ⟨R, 0, none⟩ = some v0 ∧ (((w.setCell ⟨R, 0, none⟩ v0).setCell ⟨R, 1, none⟩ v1).alloc o).cell? ⟨R, 1, none⟩ = some v1 := by
  have a0 : ((w.setCell ⟨R, 0, none⟩ v0).setCell ⟨R, 1, none⟩ v1).cell? ⟨R, 0, none⟩ = some v0 := (World.cell?_setCell_other _ _ _ _ (by simp)).trans (World.cell?_setCell_same _ _ _ h0)
  have a1 : ((w.setCell ⟨R, 0, none⟩ v0).setCell ⟨R, 1, none⟩ v1).cell? ⟨R, 1, none⟩ = some v1 := World.cell?_setCell_same _ _ _ ((World.cell?_setCell_other _ _ _ _ (by simp)).trans h1)
  have hb : Below ((w.setCell ⟨R, 0, none⟩ v0).setCell ⟨R, 1, none⟩ v1).heap.size ((w.setCell ⟨R, 0, none⟩ v0).setCell ⟨R, 1, none⟩ v1) (((w.setCell ⟨R, 0, none⟩ v0).setCell ⟨R, 1, none⟩ v1).alloc o) := (Below.refl _ _).alloc (Nat.le_refl _) _
  exact ⟨keep hb (by simpa using hR) a0, keep hb (by simpa using hR) a1⟩
theorem st2_only (w : World) (R : Nat) (v0 v1 : Value) (o : Obj) : Only (fun k => k = R) w (((w.setCell ⟨R, 0, none⟩ v0).setCell ⟨R, 1, none⟩ v1).alloc o) :=
  (((Only.refl (fun k => k = R) w).setCell (p := ⟨R, 0, none⟩) (.inl rfl) _).setCell (p := ⟨R, 1, none⟩) (.inl rfl) _).alloc _
/-- The end of l5squeeze: the seal of what was stored. -/
structure SealE (w w8 : World) (R : Nat) (ja : Option Addr) (jc N V : Nat) : Prop where
  c0 : ∀ v0 v1 o, (((w8.setCell ⟨R, 0, none⟩ v0).setCell ⟨R, 1, none⟩ v1).alloc o).cell? ⟨R, 0, none⟩ = some v0
  c1 : ∀ v0 v1 o, (((w8.setCell ⟨R, 0, none⟩ v0).setCell ⟨R, 1, none⟩ v1).alloc o).cell? ⟨R, 1, none⟩ = some v1
  sl : ∀ v0 v1 o, Calls Tryz.prog 115 #[.agg #[.slice ja (enc N V).length jc, .int .i64 N]] (((w8.setCell ⟨R, 0, none⟩ v0).setCell ⟨R, 1, none⟩ v1).alloc o) fun e w' => ∃ a' cp, e = .returned (.slice a' (enc (N + 1) (V + 2 ^ N)).length cp) ∧ Byt w' a' (enc (N + 1) (V + 2 ^ N)) ∧ Below (((w8.setCell ⟨R, 0, none⟩ v0).setCell ⟨R, 1, none⟩ v1).alloc o).heap.size (((w8.setCell ⟨R, 0, none⟩ v0).setCell ⟨R, 1, none⟩ v1).alloc o) w'
  bel : ∀ v0 v1 o, Below w.heap.size w (((w8.setCell ⟨R, 0, none⟩ v0).setCell ⟨R, 1, none⟩ v1).alloc o)
theorem SealE.mk' {w w8 : World} {R : Nat} {ja : Option Addr} {jc N V : Nat} {x0 x1 : Value} {D : Nat} (h0 : w8.cell? ⟨R, 0, none⟩ = some x0) (h1 : w8.cell? ⟨R, 1, none⟩ = some x1) (hR : R < w8.heap.size) (hm : Mine w8 D w8.heap.size ja jc (enc N V)) (hD : R < D) (hV : V < 2 ^ N) (hN : N ≤ 4096) (hb : Below w.heap.size w w8) (hw : w.heap.size ≤ R) : SealE w w8 R ja jc N V where
  c0 := fun v0 v1 o => (st2_cells h0 h1 hR v0 v1 o).1
  c1 := fun v0 v1 o => (st2_cells h0 h1 hR v0 v1 o).2
  sl := fun v0 v1 o => (l1seal_any ja jc (enc N V) N V _ (hm.only (st2_only w8 R v0 v1 o) (fun k hk _ h => by omega)).byt rfl hV hN).mono (fun e w' ⟨a', cp, he, hm', hb'⟩ => ⟨a', cp, he, hm'.byt, hb'⟩)
  bel := fun v0 v1 o => hb.trans ((st2_only w8 R v0 v1 o).below (Nat.le_trans hw (Nat.le_of_lt hR)) (fun k hk => by omega))

set_option maxRecDepth 20000 in
set_option maxHeartbeats 16000000 in
theorem l5squeeze_any (mode : Nat) (a : Option Addr) (c : Nat) (ys : List Int) (w : World) (hb : Byt w a ys) (hn : ys.length = 64) (hmo : mode = 2 ∨ mode = 3) :
    Calls Tryz.prog 90 #[.slice a 64 c, .int .i64 mode] w fun e w' => (∃ a' cp, e = .returned (.slice a' ((mode : Int) :: sqB mode ys).length cp) ∧ Mine w' w.heap.size w'.heap.size a' cp ((mode : Int) :: sqB mode ys)) ∧ Below w.heap.size w w' := by
  have HF := l4find_any a c ys w hb (by omega)
  rw [hn] at HF
  have hsf := syF_all hn hb.1
  have HLQ : Hid ((sqB mode ys).length ≤ 600) := sqB_len hsf mode
  have HS : Hid (SyF ys ∧ ys.length = 64) := ⟨hsf, hn⟩
  clear hb hsf
  go_enter Tryz.func90, Tryz.ntmps90
  go_wp2_with fail
  refine HF.mono ?_
  clear HF
  rintro e w1 ⟨⟨v, rfl, hfa⟩, hb1⟩
  obtain ⟨a1, c1, ss, rfl, hct, hsq, hfw, hby⟩ := hfa.sqs
  obtain ⟨hso, -⟩ := syF_of hn hct hby
  have HY := l5symbols_any a1 c1 ss w1 hsq (SyOk.of hso)
  rw [syB_of hct] at HY
  have HB1 : Hid (Below w.heap.size w w1) := hb1
  clear hfa hct hsq hfw hby hso hb1
  go_wp2_with fail
  refine HY.mono ?_
  clear HY
  rintro e w2 ⟨⟨sa, sc, v, rfl, hov, hv, -⟩, hb2⟩
  obtain ⟨va, vc, rfl, hmv⟩ := hv.mine
  obtain ⟨sa', sc', es', hms⟩ := hov.mine
  obtain ⟨rfl, rfl⟩ : sa = sa' ∧ sc = sc' := by simpa using es'
  have hl1 := HS.out.1.h1
  have hl2 := HS.out.1.h2
  have hm2 := HS.out.1.hm
  have HEQ : Hid (sqB mode ys = enc ((enB mode (syB ys).1 (syB ys).2.1 (syB ys).2.2).1 + 1) ((enB mode (syB ys).1 (syB ys).2.1 (syB ys).2.2).2 + 2 ^ (enB mode (syB ys).1 (syB ys).2.1 (syB ys).2.2).1)) := rfl
  have HLE : Hid ((enB mode (syB ys).1 (syB ys).2.1 (syB ys).2.2).1 ≤ 2000) := enB_bnd HS.out.1.ht hl1 hl2 hm2 mode _
  have HX : Hid (Ins w2 sa (syB ys).1 ∧ Byt w2 va (enc (syB ys).2.1 (syB ys).2.2) ∧ Below w.heap.size w w2 ∧ txtB (syB ys).1 40 = true ∧ (syB ys).2.2 < 2 ^ (syB ys).2.1) := ⟨hms.byt, hmv.byt, HB1.out.trans (hb2.mono HB1.out.size), HS.out.1.ht, HS.out.1.hU⟩
  clear hov hv hmv hms hb2 es' HB1 HS
  generalize (syB ys).1 = zs at *
  generalize (syB ys).2.1 = m at *
  generalize (syB ys).2.2 = U at *
  generalize hes : enc m U = es at *
  have HES : Hid (enc m U = es ∧ True) := ⟨hes, trivial⟩
  clear hes
  have HA : Hid (Below w2.heap.size w2 (w2.alloc (Obj.cells #[Value.slice va es.length vc, Value.int IntKind.i64 m] 40))) := (Below.refl _ _).alloc (Nat.le_refl _) _
  have HP0 : Hid ((w2.alloc (Obj.cells #[Value.slice va es.length vc, Value.int IntKind.i64 m] 40)).heap[w2.heap.size]? = some (.cells #[Value.slice va es.length vc, Value.int IntKind.i64 m] 40 (0, 0))) := heap_alloc_new w2 _
  have hPl : w2.heap.size < (w2.alloc (Obj.cells #[Value.slice va es.length vc, Value.int IntKind.i64 m] 40)).heap.size := by simp
  have hw2 : w.heap.size ≤ w2.heap.size := HX.out.2.2.1.size
  have HI : Hid (Ins (w2.alloc (Obj.cells #[Value.slice va es.length vc, Value.int IntKind.i64 m] 40)) sa zs ∧ Byt (w2.alloc (Obj.cells #[Value.slice va es.length vc, Value.int IntKind.i64 m] 40)) va es ∧ Below w.heap.size w (w2.alloc (Obj.cells #[Value.slice va es.length vc, Value.int IntKind.i64 m] 40)) ∧ txtB zs 40 = true ∧ U < 2 ^ m) := ⟨HX.out.1.below HA.out (Nat.le_refl _), HX.out.2.1.below HA.out (Nat.le_refl _), HX.out.2.2.1.trans (HA.out.mono hw2), HX.out.2.2.2⟩
  have HC : Calls Tryz.prog 107 #[.slice sa zs.length sc, .int .i64 40] (w2.alloc (Obj.cells #[Value.slice va es.length vc, Value.int IntKind.i64 m] 40)) _ := l2counts_any sa sc zs 40 _ HI.out.1 HI.out.2.2.2.1
  go_wp2_with fail
  generalize w2.alloc (Obj.cells #[Value.slice va es.length vc, Value.int IntKind.i64 m] 40) = W0 at *
  generalize w2.heap.size = P at *
  refine HC.mono ?_
  clear HC HX HA
  rintro e w3 ⟨rfl, hoc, hb3⟩
  have HC3 : Hid (Ins w3 (some ⟨W0.heap.size, 0, none⟩) (cnts zs 40) ∧ Ins w3 sa zs ∧ Byt w3 va es ∧ Below w.heap.size w w3 ∧ w3.heap[P]? = some (.cells #[Value.slice va es.length vc, Value.int IntKind.i64 m] 40 (0, 0)) ∧ txtB zs 40 = true ∧ U < 2 ^ m) := ⟨hoc.byt, HI.out.1.below hb3 (Nat.le_refl _), HI.out.2.1.below hb3 (Nat.le_refl _), HI.out.2.2.1.trans (hb3.mono HI.out.2.2.1.size), (hb3.block P hPl).trans HP0.out, HI.out.2.2.2⟩
  clear hoc hb3 HI HP0 hPl
  generalize W0.heap.size = cg at *
  have hn3 := SI.new w3 w3.heap.size (Nat.le_refl _)
  have HW3 : Hid (Below w3.heap.size w3 (w3.alloc (.cells #[.slice none 0 0, .int .i64 0] 40))) := (Below.refl _ _).alloc (Nat.le_refl _) _
  have hP1 := hn3.putPn zs.length 8 (by omega) (by omega) (by omega)
  clear hn3
  go_wp2_with fail
  refine hP1.mono ?_
  clear hP1
  rintro e w4 ⟨rfl, hsi, hb4, hk4⟩
  rw [Nat.zero_add, Nat.pow_zero, Nat.mul_one, Nat.zero_add] at hsi
  have hb34 : Below w3.heap.size w3 w4 := HW3.out.trans hb4
  have hPR : P < w3.heap.size := (Array.getElem?_eq_some_iff.1 HC3.out.2.2.2.2.1).1
  have HC4 : Hid (Ins w4 (some ⟨cg, 0, none⟩) (cnts zs 40) ∧ SI w4 w3.heap.size w3.heap.size 8 zs.length ∧ Below w3.heap.size w3 w4 ∧ w4.heap[P]? = some (.cells #[Value.slice va es.length vc, Value.int IntKind.i64 m] 40 (0, 0))) := ⟨HC3.out.1.below hb34 (Nat.le_refl _), hsi, hb34, (hb34.block P (Array.getElem?_eq_some_iff.1 HC3.out.2.2.2.2.1).1).trans HC3.out.2.2.2.2.1⟩
  have hw3 : w.heap.size ≤ w3.heap.size := HC3.out.2.2.2.1.size
  have hRl : w3.heap.size < w4.heap.size := by obtain ⟨_, h, _⟩ := hsi; exact (Array.getElem?_eq_some_iff.1 h).1
  clear hsi hb4 hk4 hb34 HW3
  have HR0 : Hid (∃ R : Nat, R = w3.heap.size) := ⟨_, rfl⟩
  obtain ⟨R, hR⟩ := HR0.out
  rw [← hR] at hPR hw3 hRl HC4 ⊢
  have HRE : Hid (w3.heap.size = R ∧ True) := ⟨hR.symm, trivial⟩
  clear hR HR0
  rcases hmo with rfl | rfl
  · have HL := l2lens_any (some ⟨cg, 0, none⟩) 40 (cnts zs 40) 12 w4 HC4.out.1 (cnts_lens HC3.out.2.2.2.2.2.1 hl1)
    rw [cnts_len] at HL
    go_wp2_with fail
    refine HL.mono ?_
    clear HL
    rintro e w5 ⟨⟨g, rfl, hog⟩, hb5⟩
    have hgl := hog.lt
    have hgR : g ≠ R := by omega
    have hR5 : RowT w5 g (tL zs) := hog.rowT
    obtain ⟨hok1, hok2⟩ := tL_ok HC3.out.2.2.2.2.2.1 hl1
    have hle := byL_le HC3.out.2.2.2.2.2.1 hl1 8 zs.length
    have HTL : Hid (lensB (tL zs) = true ∧ coded (tL zs) zs ∧ (tL zs).length = 40 ∧ (lpG (tL zs) 8 zs.length).1 ≤ 8 + 280 ∧ hN (tL zs) zs zs.length ≤ 12 * zs.length) := ⟨hok1, hok2, tL_len zs, hle.1, hle.2⟩
    have HB5 : Hid (Below R w3 w5) := HC4.out.2.2.1.trans (hb5.mono (by omega))
    have hP2 := l2putLens_t g 40 (tL zs) R R 8 zs.length w5 hR5 hgR (HC4.out.2.1.stay hb5) (by omega) (by rw [tL_len]; omega) (lensB_okH hok1).2.2
    rw [tL_len] at hP2
    clear hog hb5 hle hok1 hok2
    go_wp2_with fail
    refine hP2.mono ?_
    clear hP2
    rintro e w6 ⟨rfl, hs6, hb6, hk6⟩
    have hP3 := l2put_t g 40 (tL zs) sa sc zs R R (lpG (tL zs) 8 zs.length).1 (lpG (tL zs) 8 zs.length).2 w3 w6 hs6 (hR5.kp hk6 hgR) hgR HC3.out.2.1 HRE.out.1 (HB5.out.trans hb6) (by rw [tL_len]; omega) (lensB_okH HTL.out.1).2.2 (by omega) (fun z hz => by rw [tL_len]; have := HC3.out.2.2.2.2.2.1; simp only [txtB, decide_eq_true_eq] at this; exact this.2.2.2 z hz) (by have := HTL.out.2.2.2.1; omega)
    rw [tL_len] at hP3
    have HB6 : Hid (Below R w3 w6) := HB5.out.trans hb6
    clear hs6 hb6 hk6 HB5 hR5
    go_wp2_with fail
    refine hP3.mono ?_
    clear hP3
    rintro e w7 ⟨rfl, hs7, hb7, -⟩
    obtain ⟨xa, xc, x0, x1, hxb, hxV, hxl, -, z0, z1⟩ := hs7.parts
    have hQ7 := (hb7.block P hPR).trans HC3.out.2.2.2.2.1
    have q0 : w7.cell? ⟨P, 0, none⟩ = some (.slice va es.length vc) := cellR (j := 0) hQ7 rfl
    have q1 : w7.cell? ⟨P, 1, none⟩ = some (.int .i64 m) := cellR (j := 1) hQ7 rfl
    have hV3 := put_lt _ _ m U hxV HC3.out.2.2.2.2.2.2
    have HJ := l1join_any xa xc _ va vc es _ _ m U w7 hxb (HC3.out.2.2.1.below hb7 (by have := HRE.out.1; omega)) rfl HES.out.1.symm hxV HC3.out.2.2.2.2.2.2 (by have := HTL.out.2.2.2; omega)
    have HB7 : Hid (Below R w3 w7) := hb7
    have HNV : Hid (∃ N V, N = (lpG (tL zs) 8 zs.length).1 + hN (tL zs) zs zs.length + m ∧ V = (lpG (tL zs) 8 zs.length).2 + hV (tL zs) (crun (tL zs) (sbL (tL zs) 12)).2.2 zs zs.length * 2 ^ (lpG (tL zs) 8 zs.length).1 + U * 2 ^ ((lpG (tL zs) 8 zs.length).1 + hN (tL zs) zs zs.length)) := ⟨_, _, rfl, rfl⟩
    obtain ⟨N, V, hNe, hVe⟩ := HNV.out
    rw [← hNe, ← hVe] at HJ hV3
    have HNE : Hid (N = (enB 2 zs m U).1 ∧ V = (enB 2 zs m U).2) := ⟨hNe, hVe⟩
    have hN4 : N ≤ 2000 := by have := HLE.out; rw [HNE.out.1]; exact this
    clear hs7 hb7 hQ7 hxb hxV hNe hVe HNV
    go_wp2_with fail
    refine HJ.mono ?_
    clear HJ
    rintro e w8 ⟨ja, jc, rfl, hmj, hb8⟩
    have y0 := keep hb8 hxl x0
    have y1 := keep hb8 hxl x1
    have f0 : w8.frozen? ⟨R, 0, none⟩ = false := (hb8.frozen (p := ⟨R, 0, none⟩) hxl).trans z0
    have f1 : w8.frozen? ⟨R, 1, none⟩ = false := (hb8.frozen (p := ⟨R, 1, none⟩) hxl).trans z1
    have hb83 : Below R w3 w8 := HB7.out.trans (hb8.mono (by omega))
    have HSE : Hid (SealE w w8 R ja jc N V) := SealE.mk' y0 y1 (by have := hb8.size; omega) hmj hxl hV3 (by omega) (HC3.out.2.2.2.1.trans (hb83.mono hw3)) hw3
    have k0 := HSE.out.c0
    have k1 := HSE.out.c1
    have hb8s := hb8.size
    clear hmj hb8 hb83 q0 q1 x0 x1 z0 z1 HB6 HB7 hV3
    have hw8 : w.heap.size ≤ w8.heap.size := by have := hxl; have := hb8s; omega
    go_wp2_with fail
    refine (HSE.out.sl _ _ _).mono ?_
    rintro e w9 ⟨a9, c9, rfl, hby9, hb9⟩
    have hsz : ((w8.setCell ⟨R, 0, none⟩ (.slice ja (enc N V).length jc)).setCell ⟨R, 1, none⟩ (.int .i64 N)).heap.size = w8.heap.size := by simp
    have hov := (ovb_one ((w8.setCell ⟨R, 0, none⟩ (.slice ja (enc N V).length jc)).setCell ⟨R, 1, none⟩ (.int .i64 N)) w.heap.size 2 (by rw [hsz]; omega) (by omega)).below hb9
    rw [hsz] at hov
    have hb9w : Below w.heap.size w w9 := (HSE.out.bel _ _ _).trans (hb9.mono (HSE.out.bel _ _ _).size)
    have hsq : sqB 2 ys = enc (N + 1) (V + 2 ^ N) := by rw [HEQ.out, HNE.out.1, HNE.out.2]
    rw [← hsq] at hby9
    have hle9 : (enc (N + 1) (V + 2 ^ N)).length = (sqB 2 ys).length := by rw [hsq]
    rw [hle9]
    have hlq := HLQ.out
    have HBW : Hid (Below w.heap.size w w9) := hb9w
    have hz9 := hb9w.size
    clear hb9 hb9w hsz hsq hle9 f0 f1 y0 y1 k0 k1
    go_wp2_with (at_builtin; (refine wpList_append_byt rfl (.tmp 50) (.tmp 52) rfl w.heap.size _ [2] rfl hov a9 c9 (sqB 2 ys) rfl hby9 (by simp; omega) hz9 ?_); intro v4 w4 hown hgrow)
    have hF := grown_pk HBW.out hw8 hown hgrow
    obtain ⟨⟨a4, c4, rfl, hm4⟩, hb4⟩ := hF
    have HFin : Hid (Mine w4 w.heap.size w4.heap.size a4 c4 (2 :: sqB 2 ys) ∧ Below w.heap.size w w4) := ⟨hm4, hb4⟩
    clear hown hgrow hm4 hb4 hov hby9
    go_wp2
    go_ret
    exact ⟨⟨a4, c4, rfl, HFin.out.1⟩, HFin.out.2⟩
  · have HL := l3norm_any (some ⟨cg, 0, none⟩) 40 (cnts zs 40) w4 HC4.out.1 (cnts_cnt (n := 40) HC3.out.2.2.2.2.2.1) (tS_roomy HC3.out.2.2.2.2.2.1 hl1)
    rw [cnts_len] at HL
    go_wp2_with fail
    refine HL.mono ?_
    clear HL
    rintro e w5 ⟨rfl, hog, hb5⟩
    have hgl := hog.lt
    have hgR : w4.heap.size ≠ R := by omega
    have hR5 : RowT w5 w4.heap.size (tS zs) := hog.rowT
    obtain ⟨hok1, hok2, hok3⟩ := tS_ok HC3.out.2.2.2.2.2.1 hl1
    have hle := byT_le HC3.out.2.2.2.2.2.1 hl1 8
    have hfs := fpS_ok (tT_ok HC3.out.2.2.2.2.2.1 hl1) (ts := zs) (fun k hk => by rw [hok2]; exact txtB_get HC3.out.2.2.2.2.2.1 k hk) zs.length (Nat.le_refl _) (fun j hj => hok3 _ (by omega))
    have hfV : fV (tT zs) zs < 2 ^ fN (tT zs) zs := put_lt _ _ 6 _ hfs.2.2 (by have := hfs.1; omega)
    have hfN : fN (tT zs) zs ≤ 6 * zs.length + 6 := by unfold fN; have := hfs.2.1; omega
    have HTL : Hid (normB (tS zs) = true ∧ shd (tS zs) zs ∧ (tS zs).length = 40 ∧ nbG (tS zs) 8 40 ≤ 8 + 280 ∧ fV (tT zs) zs < 2 ^ fN (tT zs) zs ∧ fN (tT zs) zs ≤ 6 * zs.length + 6) := ⟨hok1, hok3, hok2, hle, hfV, hfN⟩
    have HB5 : Hid (Below R w3 w5) := HC4.out.2.2.1.trans (hb5.mono (by omega))
    have hP2 := l3putNorm_t w4.heap.size 40 (tS zs) R R 8 zs.length w5 hR5 hgR (HC4.out.2.1.stay hb5) (by omega) hok1
    rw [hok2] at hP2
    clear hog hb5 hle hok1 hok2 hok3 hfs hfV hfN
    generalize w4.heap.size = g at *
    go_wp2_with fail
    refine hP2.mono ?_
    clear hP2
    rintro e w6 ⟨rfl, hs6, hb6, hk6⟩
    have hb36 : Below R w3 w6 := HB5.out.trans hb6
    have hQ6 := (hb36.block P hPR).trans HC3.out.2.2.2.2.1
    have p1 : w6.cell? ⟨P, 1, none⟩ = some (.int .i64 m) := cellR (j := 1) hQ6 rfl
    have hP3 := hs6.putPn m 9 (by omega) (by omega) (by have := HTL.out.2.2.2.1; omega)
    have HB6 : Hid (Below R w3 w6 ∧ RowT w6 g (tS zs)) := ⟨hb36, hR5.kp hk6 hgR⟩
    clear hs6 hb6 hk6 HB5 hR5 hb36 hQ6
    go_wp2_with fail
    refine hP3.mono ?_
    clear hP3
    rintro e w7 ⟨rfl, hs7, hb7', hk7⟩
    have hb7 : Below R w3 w7 := HB6.out.1.trans hb7'
    have hR7 : RowT w7 g (tS zs) := HB6.out.2.kp hk7 hgR
    obtain ⟨xa, xc, x0, x1, hxb, hxV, hxl, -, z0, z1⟩ := hs7.parts
    have hQ7 := (hb7.block P hPR).trans HC3.out.2.2.2.2.1
    have q0 : w7.cell? ⟨P, 0, none⟩ = some (.slice va es.length vc) := cellR (j := 0) hQ7 rfl
    have q1 : w7.cell? ⟨P, 1, none⟩ = some (.int .i64 m) := cellR (j := 1) hQ7 rfl
    have hV2 := put_lt _ _ m U hxV HC3.out.2.2.2.2.2.2
    have HJ := l1join_any xa xc _ va vc es _ _ m U w7 hxb (HC3.out.2.2.1.below hb7 (by have := HRE.out.1; omega)) rfl HES.out.1.symm hxV HC3.out.2.2.2.2.2.2 (by have := HTL.out.2.2.2; omega)
    have HB7 : Hid (Below R w3 w7 ∧ RowT w7 g (tS zs)) := ⟨hb7, hR7⟩
    have HNV : Hid (∃ N V, N = nbG (tS zs) 8 40 + 9 + m ∧ V = vbG (tS zs) 8 zs.length 40 + m * 2 ^ nbG (tS zs) 8 40 + U * 2 ^ (nbG (tS zs) 8 40 + 9)) := ⟨_, _, rfl, rfl⟩
    obtain ⟨N2, V2, hNe, hVe⟩ := HNV.out
    rw [← hNe, ← hVe] at HJ hV2
    have HNE2 : Hid (N2 = nbG (tS zs) 8 40 + 9 + m ∧ V2 = vbG (tS zs) 8 zs.length 40 + m * 2 ^ nbG (tS zs) 8 40 + U * 2 ^ (nbG (tS zs) 8 40 + 9) ∧ V2 < 2 ^ N2) := ⟨hNe, hVe, hV2⟩
    clear hs7 hb7 hb7' hk7 hQ7 hxb hxV hNe hVe HNV hV2 hR7 p1
    go_wp2_with fail
    refine HJ.mono ?_
    clear HJ
    rintro e w71 ⟨ja1, jc1, rfl, hmj1, hb71⟩
    have hR71 : RowT w71 g (tS zs) := HB7.out.2.kp (Kp.below (R := R) hb71) hgR
    have hb37 : Below R w3 w71 := HB7.out.1.trans (hb71.mono (by omega))
    have HFP := l3put_any (some ⟨g, 0, none⟩) 40 (tS zs) sa sc zs (tT zs) w71 (hR71.ins (fun z hz => by have := (normB_sum HTL.out.1).2 z hz; omega)) (HC3.out.2.1.below hb37 (by have := HRE.out.1; omega)) HTL.out.1 rfl (by omega) (fun k hk => by rw [HTL.out.2.2.1]; exact txtB_get HC3.out.2.2.2.2.2.1 k hk) HTL.out.2.1
    rw [HTL.out.2.2.1] at HFP
    have X0 := keep hb71 hxl x0
    have X1 := keep hb71 hxl x1
    have F0 : w71.frozen? ⟨R, 0, none⟩ = false := (hb71.frozen (p := ⟨R, 0, none⟩) hxl).trans z0
    have F1 : w71.frozen? ⟨R, 1, none⟩ = false := (hb71.frozen (p := ⟨R, 1, none⟩) hxl).trans z1
    have hxl7 : R < w71.heap.size := by have := hb71.size; omega
    have H71 : Hid (Below R w3 w71 ∧ Byt w71 ja1 (enc N2 V2)) := ⟨hb37, hmj1.byt⟩
    clear hmj1 hb71 hR71 hb37 q0 q1 x0 x1 z0 z1 HB6 HB7 hxl
    go_wp2_with fail
    refine HFP.mono ?_
    clear HFP
    rintro e w72 ⟨ja2, jc2, rfl, hmj2, hb72⟩
    have hV3 := put_lt _ _ (fN (tT zs) zs) (fV (tT zs) zs) HNE2.out.2.2 HTL.out.2.2.2.2.1
    have HJ := l1join_any ja1 jc1 (enc N2 V2) ja2 jc2 (enc (fN (tT zs) zs) (fV (tT zs) zs)) N2 V2 (fN (tT zs) zs) (fV (tT zs) zs) w72 (H71.out.2.below hb72 (Nat.le_refl _)) hmj2.byt rfl rfl HNE2.out.2.2 HTL.out.2.2.2.2.1 (by have := HTL.out.2.2.2; have := HNE2.out.1; omega)
    have HNV : Hid (∃ N V, N = N2 + fN (tT zs) zs ∧ V = V2 + fV (tT zs) zs * 2 ^ N2) := ⟨_, _, rfl, rfl⟩
    obtain ⟨N, V, hNe, hVe⟩ := HNV.out
    rw [← hNe, ← hVe] at HJ hV3
    have HNE : Hid (N = (enB 3 zs m U).1 ∧ V = (enB 3 zs m U).2) := ⟨by rw [hNe, HNE2.out.1]; rfl, by rw [hVe, HNE2.out.2.1, HNE2.out.1]; rfl⟩
    have hN4 : N ≤ 2000 := by have := HLE.out; rw [HNE.out.1]; exact this
    have x0 := keep hb72 hxl7 X0
    have x1 := keep hb72 hxl7 X1
    have z0 : w72.frozen? ⟨R, 0, none⟩ = false := (hb72.frozen (p := ⟨R, 0, none⟩) hxl7).trans F0
    have z1 : w72.frozen? ⟨R, 1, none⟩ = false := (hb72.frozen (p := ⟨R, 1, none⟩) hxl7).trans F1
    have hxl : R < w72.heap.size := by have := hb72.size; omega
    have HB7 : Hid (Below R w3 w72) := H71.out.1.trans (hb72.mono (by omega))
    clear hmj2 hb72 X0 X1 F0 F1 hNe hVe HNV H71 hxl7
    go_wp2_with fail
    refine HJ.mono ?_
    clear HJ
    rintro e w8 ⟨ja, jc, rfl, hmj, hb8⟩
    have y0 := keep hb8 hxl x0
    have y1 := keep hb8 hxl x1
    have f0 : w8.frozen? ⟨R, 0, none⟩ = false := (hb8.frozen (p := ⟨R, 0, none⟩) hxl).trans z0
    have f1 : w8.frozen? ⟨R, 1, none⟩ = false := (hb8.frozen (p := ⟨R, 1, none⟩) hxl).trans z1
    have hb83 : Below R w3 w8 := HB7.out.trans (hb8.mono (by omega))
    have HSE : Hid (SealE w w8 R ja jc N V) := SealE.mk' y0 y1 (by have := hb8.size; omega) hmj hxl hV3 (by omega) (HC3.out.2.2.2.1.trans (hb83.mono hw3)) hw3
    have k0 := HSE.out.c0
    have k1 := HSE.out.c1
    have hb8s := hb8.size
    clear hmj hb8 hb83 x0 x1 z0 z1 HB7 hV3
    have hw8 : w.heap.size ≤ w8.heap.size := by have := hxl; have := hb8s; omega
    go_wp2_with fail
    refine (HSE.out.sl _ _ _).mono ?_
    rintro e w9 ⟨a9, c9, rfl, hby9, hb9⟩
    have hsz : ((w8.setCell ⟨R, 0, none⟩ (.slice ja (enc N V).length jc)).setCell ⟨R, 1, none⟩ (.int .i64 N)).heap.size = w8.heap.size := by simp
    have hov := (ovb_one ((w8.setCell ⟨R, 0, none⟩ (.slice ja (enc N V).length jc)).setCell ⟨R, 1, none⟩ (.int .i64 N)) w.heap.size 3 (by rw [hsz]; omega) (by omega)).below hb9
    rw [hsz] at hov
    have hb9w : Below w.heap.size w w9 := (HSE.out.bel _ _ _).trans (hb9.mono (HSE.out.bel _ _ _).size)
    have hsq : sqB 3 ys = enc (N + 1) (V + 2 ^ N) := by rw [HEQ.out, HNE.out.1, HNE.out.2]
    rw [← hsq] at hby9
    have hle9 : (enc (N + 1) (V + 2 ^ N)).length = (sqB 3 ys).length := by rw [hsq]
    rw [hle9]
    have hlq := HLQ.out
    have HBW : Hid (Below w.heap.size w w9) := hb9w
    have hz9 := hb9w.size
    clear hb9 hb9w hsz hsq hle9 f0 f1 y0 y1 k0 k1
    go_wp2_with (at_builtin; (refine wpList_append_byt rfl (.tmp 50) (.tmp 52) rfl w.heap.size _ [3] rfl hov a9 c9 (sqB 3 ys) rfl hby9 (by simp; omega) hz9 ?_); intro v4 w4 hown hgrow)
    have hF := grown_pk HBW.out hw8 hown hgrow
    obtain ⟨⟨a4, c4, rfl, hm4⟩, hb4⟩ := hF
    have HFin : Hid (Mine w4 w.heap.size w4.heap.size a4 c4 (3 :: sqB 3 ys) ∧ Below w.heap.size w w4) := ⟨hm4, hb4⟩
    clear hown hgrow hm4 hb4 hov hby9
    go_wp2
    go_ret
    exact ⟨⟨a4, c4, rfl, HFin.out.1⟩, HFin.out.2⟩
/-- The shortest blob of the modes up to k, of alike ones the first. -/
def enK (ys : List Int) : Nat → List Int
  | 0 => 0 :: ys
  | k + 1 => match pkO ((k + 1 : Nat) : Int) ys with
    | some b => if b.length < (enK ys k).length then b else enK ys k
    | none => enK ys k
/-- What Encode answers. -/
def enO (ys : List Int) : Option (List Int) := if ys.length = 64 then some (enK ys 3) else none
theorem enK_none {ys : List Int} {k : Nat} (h : pkO ((k + 1 : Nat) : Int) ys = none) : enK ys (k + 1) = enK ys k := by
  rw [enK, h]
theorem enK_some {ys : List Int} {k : Nat} {b : List Int} (h : pkO ((k + 1 : Nat) : Int) ys = some b) : enK ys (k + 1) = if b.length < (enK ys k).length then b else enK ys k := by
  rw [enK, h]
theorem enK_len {ys : List Int} (hn : ys.length = 64) : ∀ k, (enK ys k).length ≤ 65
  | 0 => by simp [enK]; omega
  | k + 1 => by
    have ih := enK_len hn k
    cases h : pkO ((k + 1 : Nat) : Int) ys with
    | none => rw [enK_none h]; exact ih
    | some b =>
      rw [enK_some h]
      split <;> omega
theorem pkO_len {ys : List Int} {x : Int} {b : List Int} (hr : ∀ z ∈ ys, 0 ≤ z ∧ z ≤ 255) (h : pkO x ys = some b) : b.length ≤ 601 := by
  unfold pkO at h
  split at h
  · cases h
  · rename_i hn
    have hn' : ys.length = 64 := by omega
    have hs := syF_all hn' hr
    have h2 := sqB_len hs 2
    have h3 := sqB_len hs 3
    split at h
    · simp only [Option.some.injEq] at h; subst h; simp; omega
    · split at h
      · split at h
        · simp only [Option.some.injEq] at h; subst h; simp
        · cases h
      · split at h
        · simp only [Option.some.injEq] at h; subst h; simp; omega
        · split at h
          · simp only [Option.some.injEq] at h; subst h; simp; omega
          · cases h

set_option maxRecDepth 20000 in
set_option maxHeartbeats 8000000 in
theorem encode_abs (K : Nat → List Int) (O : Nat → Option (List Int)) (n : Nat) (a : Option Addr) (c : Nat) (w : World) (h0 : O 0 = some (K 0)) (hno : ∀ k, O (k + 1) = none → K (k + 1) = K k) (hso : ∀ k b, O (k + 1) = some b → K (k + 1) = if b.length < (K k).length then b else K k) (hKl : ∀ k, (K k).length ≤ 65) (hOl : ∀ k b, O k = some b → b.length ≤ 601)
    (hP : ∀ (k : Nat) (W : World), Below w.heap.size w W → Calls Tryz.prog 27 #[.slice a n c, .int .i64 (k : Nat)] W fun e w' => pkA W w' (O k) e) :
    Calls Tryz.prog 31 #[.slice a n c] w fun e w' => pkA w w' (some (K 3)) e := by
  have HP : Hid (∀ (k : Nat) (W : World), Below w.heap.size w W → Calls Tryz.prog 27 #[.slice a n c, .int .i64 (k : Nat)] W fun e w' => pkA W w' (O k) e) := hP
  have HK : Hid ((∀ k, O (k + 1) = none → K (k + 1) = K k) ∧ (∀ k b, O (k + 1) = some b → K (k + 1) = if b.length < (K k).length then b else K k) ∧ (∀ k, (K k).length ≤ 65) ∧ (∀ k b, O k = some b → b.length ≤ 601)) := ⟨hno, hso, hKl, hOl⟩
  have hP0 : Calls Tryz.prog 27 #[.slice a n c, .int .i64 0] w fun e w' => pkA w w' (O 0) e := hP 0 w (Below.refl _ _)
  rw [h0] at hP0
  clear hP hno hso hKl hOl h0
  · skip
    go_enter Tryz.func31, Tryz.ntmps31
    go_wp2_with fail
    refine hP0.mono ?_
    clear hP0
    rintro e w1 ⟨⟨a1, c1, rfl, hm1⟩, hb1⟩
    have H1 : Hid (Mine w1 w.heap.size w1.heap.size a1 c1 (K 0) ∧ Below w.heap.size w w1) := ⟨hm1, hb1⟩
    clear hm1 hb1
    simp only [Option.getD_some, Option.isSome_some]
    go_wp2
    go_loopw [4, 6] (fun bv mv W => ∃ (k : Nat) (a' : Option Addr) (c' : Nat), k ≤ 3 ∧ mv = .int .i64 ((k + 1 : Nat) : Int) ∧ bv = .slice a' (K k).length c' ∧ Mine W w.heap.size W.heap.size a' c' (K k) ∧ Below w.heap.size w W) (fun _ mv _ => 4 - (intOf mv).toNat)
    case atStart => exact ⟨0, a1, c1, by omega, rfl, rfl, H1.out⟩
    case round =>
      clear H1
      obtain ⟨k, a', c', hk, rfl, rfl, hm, hbel⟩ := hrel
      have HR : Hid (Mine wr w.heap.size wr.heap.size a' c' (K k) ∧ Below w.heap.size w wr) := ⟨hm, hbel⟩
      have hlen := HK.out.2.2.1 k
      clear hm hbel
      by_cases hlt : k < 3
      · have hlt2 : ((k + 1 : Nat) : Int) ≤ 3 := by omega
        have hlt3 : (k : Int) + 1 ≤ 3 := by omega
        have hP := HP.out (k + 1) wr HR.out.2
        cases ho : O (k + 1) with
        | none =>
          have HE := HK.out.1 k ho
          rw [ho] at hP
          have HEQ : Hid (K (k + 1) = K k ∧ True) := ⟨HE, trivial⟩
          clear HE ho
          go_wp2_with fail
          refine hP.mono ?_
          clear hP
          rintro e w2 ⟨⟨a2, c2, rfl, -⟩, hb2⟩
          have HR2 : Hid (Mine w2 w.heap.size w2.heap.size a' c' (K (k + 1)) ∧ Below w.heap.size w w2 ∧ (K (k + 1)).length = (K k).length) := by
            unfold Hid
            rw [HEQ.out.1]
            exact ⟨(HR.out.1.below hb2).mono (Nat.le_refl _) hb2.size, HR.out.2.trans (hb2.mono HR.out.2.size), rfl⟩
          clear hb2 HR
          simp only [Option.getD_none, Option.isSome_none, List.length_nil]
          go_wp2
          go_roundw
          case rel => exact ⟨k + 1, a', c', by omega, by go_num, by rw [HR2.out.2.2], HR2.out.1, HR2.out.2.1⟩
          case measure => simp [intOf]; omega
        | some b =>
          have HE := HK.out.2.1 k _ ho
          have hbl := HK.out.2.2.2 _ _ ho
          rw [ho] at hP
          by_cases hlb : b.length < (K k).length
          · rw [if_pos hlb] at HE
            have HEQ : Hid (K (k + 1) = b ∧ True) := ⟨HE, trivial⟩
            have hd : (b.length : Int) < ((K k).length : Int) := by omega
            clear HE ho
            go_wp2_with fail
            refine hP.mono ?_
            clear hP
            rintro e w2 ⟨⟨a2, c2, rfl, hm2⟩, hb2⟩
            have HR2 : Hid (Mine w2 w.heap.size w2.heap.size a2 c2 (K (k + 1)) ∧ Below w.heap.size w w2 ∧ (K (k + 1)).length = b.length) := by
              unfold Hid
              rw [HEQ.out.1]
              exact ⟨hm2.mono HR.out.2.size (Nat.le_refl _), HR.out.2.trans (hb2.mono HR.out.2.size), rfl⟩
            clear hb2 HR hm2
            simp only [Option.getD_some, Option.isSome_some]
            go_wp2
            go_roundw
            case rel => exact ⟨k + 1, a2, c2, by omega, by go_num, by rw [HR2.out.2.2], HR2.out.1, HR2.out.2.1⟩
            case measure => simp [intOf]; omega
          · rw [if_neg hlb] at HE
            have HEQ : Hid (K (k + 1) = K k ∧ True) := ⟨HE, trivial⟩
            have hd : ¬ (b.length : Int) < ((K k).length : Int) := by omega
            clear HE ho
            go_wp2_with fail
            refine hP.mono ?_
            clear hP
            rintro e w2 ⟨⟨a2, c2, rfl, -⟩, hb2⟩
            have HR2 : Hid (Mine w2 w.heap.size w2.heap.size a' c' (K (k + 1)) ∧ Below w.heap.size w w2 ∧ (K (k + 1)).length = (K k).length) := by
              unfold Hid
              rw [HEQ.out.1]
              exact ⟨(HR.out.1.below hb2).mono (Nat.le_refl _) hb2.size, HR.out.2.trans (hb2.mono HR.out.2.size), rfl⟩
            clear hb2 HR
            simp only [Option.getD_some, Option.isSome_some]
            go_wp2
            go_roundw
            case rel => exact ⟨k + 1, a', c', by omega, by go_num, by rw [HR2.out.2.2], HR2.out.1, HR2.out.2.1⟩
            case measure => simp [intOf]; omega
      · have hk3 : k = 3 := by omega
        subst hk3
        go_wp2
        go_ret2
        exact ⟨⟨a', c', rfl, HR.out.1⟩, HR.out.2⟩

theorem implEncode_any (a : Option Addr) (c : Nat) (ys : List Int) (w : World) (hb : Byt w a ys) (hcap : ys.length ≤ c) (hs : SentE w) :
    Calls Tryz.prog 31 #[.slice a ys.length c] w fun e w' => pkA w w' (enO ys) e := by
  by_cases hn : ys.length = 64
  · have h := encode_abs (enK ys) (fun k => pkO (k : Nat) ys) ys.length a c w (by show pkO 0 ys = _; unfold pkO; rw [if_neg (by simpa using hn), if_pos rfl]; rfl) (fun k h => enK_none h) (fun k b h => enK_some h) (fun k => enK_len hn k) (fun k b h => pkO_len hb.1 h) (fun k W hW => implPacked_any a c ys k W (hb.below hW (Nat.le_refl _)) hcap (hs.below hW))
    unfold enO
    rw [if_pos hn]
    exact h
  · have hP0 := implPacked_any a c ys 0 w hb hcap hs
    have HL : Hid (enO ys = none) := by unfold Hid enO; rw [if_neg hn]
    have h00 : pkO 0 ys = none := by unfold pkO; rw [if_pos hn]
    rw [h00] at hP0
    rw [HL.out]
    clear h00 hb hs
    go_enter Tryz.func31, Tryz.ntmps31
    go_wp2_with fail
    refine hP0.mono ?_
    clear hP0
    rintro e w1 ⟨⟨a1, c1, rfl, hm1⟩, hb1⟩
    have HF : Hid (Below w.heap.size w w1) := hb1
    clear hm1 hb1
    simp only [Option.getD_none, Option.isSome_none, List.length_nil]
    go_wp2
    go_ret2
    exact pkA.no HF.out
theorem sqB_pos (mode : Nat) (ys : List Int) : 1 ≤ (sqB mode ys).length := by
  unfold sqB
  rw [enc_len]
  omega
theorem enK_alike {ys : List Int} (hn : ys.length = 64) (h : alikeB ys = true) : enK ys 3 = [1, ys.getD 0 0] := by
  have h1 : enK ys 1 = [1, ys.getD 0 0] := by
    have e : pkO ((0 + 1 : Nat) : Int) ys = some [1, ys.getD 0 0] := by
      unfold pkO
      rw [if_neg (by simpa using hn), if_neg (by decide), if_pos (by rfl), if_pos h]
    rw [enK_some e, if_pos]
    show 2 < (0 :: ys).length
    simp only [List.length_cons]
    omega
  have h2 : enK ys 2 = [1, ys.getD 0 0] := by
    have e : pkO ((1 + 1 : Nat) : Int) ys = some (2 :: sqB 2 ys) := by
      unfold pkO
      rw [if_neg (by simpa using hn), if_neg (by decide), if_neg (by decide), if_pos (by rfl)]
    rw [enK_some e, h1, if_neg]
    have := sqB_pos 2 ys
    simp only [List.length_cons, List.length_nil]
    omega
  have e : pkO ((2 + 1 : Nat) : Int) ys = some (3 :: sqB 3 ys) := by
    unfold pkO
    rw [if_neg (by simpa using hn), if_neg (by decide), if_neg (by decide), if_neg (by decide), if_pos (by rfl)]
  rw [enK_some e, h2, if_neg]
  have := sqB_pos 3 ys
  simp only [List.length_cons, List.length_nil]
  omega
theorem enO_alike {ys : List Int} (hn : ys.length = 64) (h : alikeB ys = true) : enO ys = some [1, ys.getD 0 0] := by
  unfold enO
  rw [if_pos hn, enK_alike hn h]
theorem enO_noughts : enO (List.replicate 64 0) = some [1, 0] := enO_alike (by simp) (by simp [alikeB])
/-- The bytes ahead of the last one, which is the bit b of the last byte t. -/
def openY (zs : List Int) (L b : Nat) (t : Nat) : List Int := if b = 0 then zs.take L else zs.set L ((t - 2 ^ b : Nat) : Int)

theorem mask_low (t j : Nat) (hj : j < 8) (h1 : 2 ^ j ≤ t) (h2 : t < 2 ^ (j + 1)) : bits .and .u8 (t : Int) ((2 ^ j - 1) % 256) = ((t - 2 ^ j : Nat) : Int) := by
  have hp : 2 ^ j ≤ 2 ^ 7 := Nat.pow_le_pow_right (by omega) (by omega)
  have hp0 : 0 < 2 ^ j := Nat.pow_pos (by omega)
  rw [Nat.pow_succ] at h2
  have e : (((2 : Int) ^ j - 1) % 256) = ((2 ^ j - 1 : Nat) : Int) := by
    have : ((2 : Int) ^ j) = ((2 ^ j : Nat) : Int) := by simp
    rw [this]
    omega
  rw [e, u8_and_nat t (2 ^ j - 1) (by omega) (by omega), Nat.and_two_pow_sub_one_eq_mod]
  congr 1
  rw [Nat.mod_eq_sub_mod h1, Nat.mod_eq_of_lt (by omega)]

theorem and1_zero : bits .and .u8 0 1 = 0 := by decide
theorem and1_one : bits .and .u8 1 1 = 1 := by decide

theorem keepF {B : Nat} {w w' : World} (h : Below B w w') {b o : Nat} (hb : b < B) (hf : w.frozen? ⟨b, o, none⟩ = false) : w'.frozen? ⟨b, o, none⟩ = false := (h.frozen (p := ⟨b, o, none⟩) hb).trans hf
theorem keepAF {w : World} (ob : Obj) {b o : Nat} (hb : b < w.heap.size) (hf : w.frozen? ⟨b, o, none⟩ = false) : (w.alloc ob).frozen? ⟨b, o, none⟩ = false := keepF ((Below.refl w.heap.size w).alloc (Nat.le_refl _) ob) hb hf

theorem after2 {w w1 : World} {x0 x1 : Value} {T : TypeId} {o2 : Obj} {row : Option Nat} (h : ((w.alloc (.cells #[x0, x1] T)).alloc o2).grownBy w1 row) (hr : row = some (w.heap.size + 1)) :
    w1.cell? ⟨w.heap.size, 0, none⟩ = some x0 ∧ w1.cell? ⟨w.heap.size, 1, none⟩ = some x1 ∧ w1.frozen? ⟨w.heap.size, 0, none⟩ = false ∧ w1.frozen? ⟨w.heap.size, 1, none⟩ = false ∧ Below w.heap.size w w1 ∧ w.heap.size + 1 < w1.heap.size := by
  subst hr
  have hb : Below (w.heap.size + 1) ((w.alloc (.cells #[x0, x1] T)).alloc o2) w1 :=
    ⟨h.os, h.tape, h.output, h.size, fun k hk => h.block k (by simp; omega) (by simp; omega)⟩
  have f : ∀ j, ((w.alloc (.cells #[x0, x1] T)).alloc o2).frozen? ⟨w.heap.size, j, none⟩ = false := fun j =>
    (((Below.refl (w.alloc (.cells #[x0, x1] T)).heap.size _).alloc (Nat.le_refl _) o2).frozen (p := ⟨w.heap.size, j, none⟩) (by simp)).trans (by simp)
  have hs := h.size
  simp at hs
  refine ⟨keep hb (by omega) (keepA _ (by simp) (by simp)), keep hb (by omega) (keepA _ (by simp) (by simp)), (hb.frozen (p := ⟨w.heap.size, 0, none⟩) (by simp)).trans (f 0), (hb.frozen (p := ⟨w.heap.size, 1, none⟩) (by simp)).trans (f 1), ?_, by omega⟩
  exact (((Below.refl w.heap.size w).alloc (Nat.le_refl _) _).alloc (by simp) _).trans (hb.mono (by omega))

theorem Mine.allocM {w : World} {B U : Nat} {a : Option Addr} {cap : Nat} {zs : List Int} (h : Mine w B U a cap zs) (o : Obj) : Mine (w.alloc o) B U a cap zs := h.below ((Below.refl w.heap.size w).alloc (Nat.le_refl _) o)
theorem Mine.setC {w : World} {B U : Nat} {a : Option Addr} {cap : Nat} {zs : List Int} (h : Mine w B U a cap zs) {p : Addr} (hp : p.block < B) (u : Value) : Mine (w.setCell p u) B U a cap zs :=
  h.only (Only.setCell (Only.refl (fun b => b = p.block) w) (.inl rfl) u) (fun b h1 _ => by omega)

theorem openY_len (zs : List Int) (L b t : Nat) (hL : zs.length = L + 1) : (openY zs L b t).length = (8 * L + b + 7) / 8 ∨ 8 ≤ b := by
  by_cases hb : b = 0
  · left
    rw [openY, if_pos hb, List.length_take, hL, hb]
    omega
  · by_cases h8 : b < 8
    · left
      rw [openY, if_neg hb, List.length_set, hL]
      omega
    · right; omega

theorem okB_open (zs : List Int) (L b t : Nat) (hL : zs.length = L + 1) (h1 : 2 ^ b ≤ t) (h2 : t < 2 ^ (b + 1)) (hb : b < 8) :
    okB ((8 * L + b : Nat) : Int) (openY zs L b t) = decide (8 * L + b ≤ 4096) := by
  have hlen : (openY zs L b t).length = (8 * L + b + 7) / 8 := (openY_len zs L b t hL).resolve_right (by omega)
  by_cases hn : 8 * L + b ≤ 4096
  · rw [decide_eq_true hn]
    by_cases hb0 : b = 0
    · subst hb0
      exact okB_full (by omega) (by omega) (by rw [hlen]; omega) (by omega)
    · rw [okB_last (by omega) (by omega) (by rw [hlen]; omega) (by omega), hlen]
      rw [show (8 * L + b + 7) / 8 - 1 = L from by omega, show (((8 * L + b : Nat) : Int) % 8).toNat = b from by omega]
      have hg : (openY zs L b t).getD L 0 = ((t - 2 ^ b : Nat) : Int) := by
        rw [openY, if_neg hb0]
        simp [hL]
      rw [hg]
      have hz : (t - 2 ^ b) / 2 ^ b = 0 := by
        rw [Nat.pow_succ] at h2
        exact Nat.div_eq_of_lt (by omega)
      have e : (((t - 2 ^ b : Nat) : Int) / 2 ^ b) = (((t - 2 ^ b) / 2 ^ b : Nat) : Int) := by
        have : ((2 : Int) ^ b) = ((2 ^ b : Nat) : Int) := by simp
        rw [this]; rfl
      rw [e, hz]
      rfl
  · rw [decide_eq_false hn]
    exact okB_big (by omega)

end Go.Proofs.YtfeokafkhnbdiaaGreatDoor
