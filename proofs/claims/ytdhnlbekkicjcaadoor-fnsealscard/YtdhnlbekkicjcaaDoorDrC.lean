/-
  The draws of bits: some that may be bent.
-/
import Derived.Test.YtdhnlbekkicjcaaDoorDrB
import Derived.Test.YtdhnlbekkicjcaaDoorBApp
namespace Go.Proofs.YtdhnlbekkicjcaaDoor
open Go.RowKit
set_option linter.unusedVariables false

/-- Bits at X: whatever bytes of the call's own, from block C on, and a number. -/
structure BV (w : World) (C X : Nat) (a : Option Addr) (c : Nat) (ys : List Int) (N : Int) : Prop where
  hX : w.heap[X]? = some (.cells #[.slice a ys.length c, .int .i64 N] 24 (0, 0))
  own : OVB w C (.slice a ys.length c) ys
theorem Mine.ovb {w : World} {B U : Nat} {a : Option Addr} {c : Nat} {zs : List Int} (h : Mine w B U a c zs) : OVB w B (.slice a zs.length c) zs := by
  rcases h with ⟨rfl, rfl, rfl⟩ | ⟨g, rfl, _, _, h⟩
  · exact OVB.nil _ _
  · exact h
theorem BV.only {w w' : World} {C X : Nat} {a : Option Addr} {c : Nat} {ys : List Int} {N : Int} {S : Nat → Prop} (h : BV w C X a c ys N) (ho : Only S w w') (hX : C ≤ X) (hs : ∀ k, C ≤ k → ¬ S k) : BV w' C X a c ys N :=
  ⟨(ho.block X (Array.getElem?_eq_some_iff.1 h.hX).1 (hs X hX)).trans h.hX, h.own.stay ho hs⟩
theorem BV.mine {w : World} {C X : Nat} {a : Option Addr} {c : Nat} {ys : List Int} {N : Int} (h : BV w C X a c ys N) : Mine w C w.heap.size a c ys := by
  obtain ⟨a', c', e, hm⟩ := h.own.mine
  obtain ⟨rfl, rfl⟩ : a = a' ∧ c = c' := by simpa using e
  exact hm
theorem rowStayV {w w' : World} {B : Nat} {T : TypeId} {sz : Nat} {v : Value} {n : Nat} {xs : List Value} {S : Nat → Prop} (h : w.ownsRow B T sz v n xs) (ho : Only S w w') (hs : ∀ k, v.ownBlock = some k → ¬ S k) : w'.ownsRow B T sz v n xs := by
  refine ⟨h.1, ?_⟩
  rcases h.2 with h' | ⟨g, cap, cur, rfl, hg, hh, r⟩
  · exact .inl h'
  · exact .inr ⟨g, cap, cur, rfl, hg, (ho.block g (Array.getElem?_eq_some_iff.1 hh).1 (hs g rfl)).trans hh, r⟩
theorem only_chain {w w1 w2 : World} {R P : Nat} (h1 : Only (fun k => k = R) w w1) (hP : w.heap.size ≤ P) (h2 : Only (fun k => P ≤ k) w1 w2) : Only (fun k => k = R) w w2 :=
  ⟨h2.os.trans h1.os, h2.tape.trans h1.tape, h2.output.trans h1.output, Nat.le_trans h1.size h2.size, fun j hj hs => (h2.block j (Nat.lt_of_lt_of_le hj h1.size) (by omega)).trans (h1.block j hj hs)⟩

/-- The end of the draw: what is at X goes into the answer's place P. -/
theorem bent_end {w w0 wr : World} {B R : Nat} {a : Option Addr} {bs : List Int} {cap X : Nat} {a' : Option Addr} {c' : Nat} {ys : List Int} {N : Int} (hR : R < w.heap.size) (hBw : B ≤ w.heap.size) (hv : BV wr (w.heap.size + 1) X a' c' ys N) (hd : Dr w0 wr B R a bs cap) (ho : Only (fun k => k = R) w wr) (v0 v1 : Value) :
    Mine ((wr.setCell ⟨w.heap.size, 0, none⟩ v0).setCell ⟨w.heap.size, 1, none⟩ v1) w.heap.size ((wr.setCell ⟨w.heap.size, 0, none⟩ v0).setCell ⟨w.heap.size, 1, none⟩ v1).heap.size a' c' ys ∧ Dr w0 ((wr.setCell ⟨w.heap.size, 0, none⟩ v0).setCell ⟨w.heap.size, 1, none⟩ v1) B R a bs cap ∧ Only (fun k => k = R) w ((wr.setCell ⟨w.heap.size, 0, none⟩ v0).setCell ⟨w.heap.size, 1, none⟩ v1) := by
  have hdo : Only (fun b => b = w.heap.size) wr ((wr.setCell ⟨w.heap.size, 0, none⟩ v0).setCell ⟨w.heap.size, 1, none⟩ v1) := ((Only.refl (fun b => b = w.heap.size) wr).setCell (p := ⟨w.heap.size, 0, none⟩) (.inl rfl) _).setCell (p := ⟨w.heap.size, 1, none⟩) (.inl rfl) _
  refine ⟨mine_out _ _ hv.mine (by omega) (Nat.le_refl _), hd.other hdo (by omega) (fun k hk => by omega), ?_⟩
  exact only_chain ho (Nat.le_refl _) (hdo.mono (fun k _ hk => by omega))

set_option maxRecDepth 20000 in
set_option maxHeartbeats 16000000 in
theorem Dr.bent {w0 w : World} {B R : Nat} {a : Option Addr} {bs : List Int} {cap : Nat} (h : Dr w0 w B R a bs cap) :
    Calls Tryd.prog 42 #[.pointer (some ⟨R, 0, none⟩)] w fun e w' => (∃ (a' : Option Addr) (c' : Nat) (ys : List Int) (N : Int), e = .returned (.agg #[.slice a' ys.length c', .int .i64 N]) ∧ ys.length ≤ 600 ∧ -1 ≤ N ∧ N ≤ 4097 ∧ Mine w' w.heap.size w'.heap.size a' c' ys) ∧ Dr w0 w' B R a bs cap ∧ Only (fun k => k = R) w w' := by
  obtain ⟨i0, hi, hz0, hz1, hz2⟩ := info_parts Tryd.infoU8
  have hRl := h.cur.lt
  have hBw : B ≤ w.heap.size := by have := h.bel.size; have := h.hB; omega
  have HD0 : Hid (Dr w0 (w.alloc (Obj.cells #[Value.slice none 0 0, Value.int IntKind.i64 0] 24)) B R a bs cap) := h.other ((Only.refl (fun _ => False) w).alloc _) (by simp) (by simp)
  have HP0 : Hid ((w.alloc (Obj.cells #[Value.slice none 0 0, Value.int IntKind.i64 0] 24)).heap[w.heap.size]? = some (.cells #[Value.slice none 0 0, Value.int IntKind.i64 0] 24 (0, 0))) := heap_alloc_new w _
  have HO0 : Hid (Only (fun k => k = R) w (w.alloc (Obj.cells #[Value.slice none 0 0, Value.int IntKind.i64 0] 24))) := (Only.refl (fun k => k = R) w).alloc _
  have HZ0 : Hid ((w.alloc (Obj.cells #[Value.slice none 0 0, Value.int IntKind.i64 0] 24)).heap.size = w.heap.size + 1) := by simp [Hid]
  clear h
  go_enter Tryd.func42, Tryd.ntmps42
  go_wp2_with fail
  generalize w.alloc (Obj.cells #[Value.slice none 0 0, Value.int IntKind.i64 0] 24) = W at *
  refine HD0.out.bits.mono ?_
  rintro e w1 ⟨⟨a1, c1, n, V, rfl, hn, hV, hm1⟩, hd1, ho1⟩
  have hel := enc_len n V
  have hyl : (enc n V).length ≤ 20 := by omega
  rw [HZ0.out] at hm1
  generalize enc n V = ys at *
  have hz1s : w.heap.size + 1 ≤ w1.heap.size := by have h1 := ho1.size; have h2 := HZ0.out; omega
  have HV1 : Hid (BV (w1.alloc (Obj.cells #[Value.slice a1 ys.length c1, Value.int IntKind.i64 n] 24)) (w.heap.size + 1) w1.heap.size a1 c1 ys n) := ⟨heap_alloc_new w1 _, hm1.ovb.alloc _⟩
  have HD1 : Hid (Dr w0 (w1.alloc (Obj.cells #[Value.slice a1 ys.length c1, Value.int IntKind.i64 n] 24)) B R a bs cap) := hd1.other ((Only.refl (fun _ => False) w1).alloc _) (by simp) (by simp)
  have HP1 : Hid ((w1.alloc (Obj.cells #[Value.slice a1 ys.length c1, Value.int IntKind.i64 n] 24)).heap[w.heap.size]? = some (.cells #[Value.slice none 0 0, Value.int IntKind.i64 0] 24 (0, 0))) := (Below.heap_alloc _ _ _ (by omega)).trans ((ho1.block _ (Array.getElem?_eq_some_iff.1 HP0.out).1 (by omega)).trans HP0.out)
  have HO1 : Hid (Only (fun k => k = R) w (w1.alloc (Obj.cells #[Value.slice a1 ys.length c1, Value.int IntKind.i64 n] 24))) := (HO0.out.trans ho1).alloc _
  clear hd1 ho1 hm1 hV hel HD0 HP0 HO0 HZ0
  go_wp2_with fail
  generalize w1.alloc (Obj.cells #[Value.slice a1 ys.length c1, Value.int IntKind.i64 n] 24) = W1 at *
  generalize w1.heap.size = X at *
  have hXW : X < W1.heap.size := (Array.getElem?_eq_some_iff.1 HV1.out.hX).1
  refine (HD1.out.once 9 (by omega) (by omega)).mono ?_
  rintro e w2 ⟨⟨b, rfl⟩, hd2, ho2⟩
  have HV2 : Hid (BV w2 (w.heap.size + 1) X a1 c1 ys n) := HV1.out.only ho2 (by omega) (fun k hk => by omega)
  have HD2 : Hid (Dr w0 w2 B R a bs cap) := hd2
  have HP2 : Hid (w2.heap[w.heap.size]? = some (.cells #[Value.slice none 0 0, Value.int IntKind.i64 0] 24 (0, 0))) := (ho2.block _ (Array.getElem?_eq_some_iff.1 HP1.out).1 (by omega)).trans HP1.out
  have HO2 : Hid (Only (fun k => k = R) w w2) := HO1.out.trans ho2
  have hXs : X < w2.heap.size := Nat.lt_of_lt_of_le hXW ho2.size
  clear hd2 ho2 HV1 HD1 HP1 HO1 hXW
  have fin : ∀ (wr : World) (a' : Option Addr) (c' : Nat) (ys' : List Int) (N' : Int), BV wr (w.heap.size + 1) X a' c' ys' N' → Dr w0 wr B R a bs cap → Only (fun k => k = R) w wr → wr.heap[w.heap.size]? = some (.cells #[Value.slice none 0 0, Value.int IntKind.i64 0] 24 (0, 0)) → True := fun _ _ _ _ _ _ _ _ _ => trivial
  clear fin
  cases b
  · have x0 : w2.cell? ⟨X, 0, none⟩ = some (.slice a1 ys.length c1) := cellC (j := 0) HV2.out.hX rfl
    have x1 : w2.cell? ⟨X, 1, none⟩ = some (.int .i64 n) := cellC (j := 1) HV2.out.hX rfl
    have p0 : w2.cell? ⟨w.heap.size, 0, none⟩ = some (.slice none 0 0) := cellC (j := 0) HP2.out rfl
    have p1 : w2.cell? ⟨w.heap.size, 1, none⟩ = some (.int .i64 0) := cellC (j := 1) HP2.out rfl
    have q0 : w2.frozen? ⟨w.heap.size, 0, none⟩ = false := frozen_of_row w2 _ 0 _ _ HP2.out
    have q1 : w2.frozen? ⟨w.heap.size, 1, none⟩ = false := frozen_of_row w2 _ 1 _ _ HP2.out
    go_wp2
    obtain ⟨e1, e2, e3⟩ := bent_end hRl.2 hBw HV2.out HD2.out HO2.out (.slice a1 ys.length c1) (.int .i64 n)
    refine bodyPost_ret (v := .agg #[.slice a1 ys.length c1, .int .i64 n]) (by simp [results, Tryd.results42, go_sem, p0, p1]) rfl ⟨⟨a1, c1, ys, n, rfl, by omega, by omega, by omega, e1⟩, e2, e3⟩
  · go_wp2_with fail
    refine (HD2.out.below 4 (by omega) (by omega)).mono ?_
    rintro e w3 ⟨⟨y, hy1, hy2, rfl⟩, hd3, ho3⟩
    have HV3 : Hid (BV w3 (w.heap.size + 1) X a1 c1 ys n) := HV2.out.only ho3 (by omega) (fun k hk => by omega)
    have HD3 : Hid (Dr w0 w3 B R a bs cap) := hd3
    have HP3 : Hid (w3.heap[w.heap.size]? = some (.cells #[Value.slice none 0 0, Value.int IntKind.i64 0] 24 (0, 0))) := (ho3.block _ (Array.getElem?_eq_some_iff.1 HP2.out).1 (by omega)).trans HP2.out
    have HO3 : Hid (Only (fun k => k = R) w w3) := HO2.out.trans ho3
    have hX3 : X < w3.heap.size := Nat.lt_of_lt_of_le hXs ho3.size
    clear hd3 ho3 HV2 HD2 HP2 HO2 hXs
    have x0 : w3.cell? ⟨X, 0, none⟩ = some (.slice a1 ys.length c1) := cellC (j := 0) HV3.out.hX rfl
    have x1 : w3.cell? ⟨X, 1, none⟩ = some (.int .i64 n) := cellC (j := 1) HV3.out.hX rfl
    have y0 : w3.frozen? ⟨X, 0, none⟩ = false := frozen_of_row w3 _ 0 _ _ HV3.out.hX
    have y1 : w3.frozen? ⟨X, 1, none⟩ = false := frozen_of_row w3 _ 1 _ _ HV3.out.hX
    have hcase : y = 0 ∨ y = 1 ∨ y = 2 ∨ y = 3 := by omega
    clear hy1 hy2
    have hPX : w.heap.size ≠ X := by omega
    have hXP : X ≠ w.heap.size := by omega
    have p0 : w3.cell? ⟨w.heap.size, 0, none⟩ = some (.slice none 0 0) := cellC (j := 0) HP3.out rfl
    have p1 : w3.cell? ⟨w.heap.size, 1, none⟩ = some (.int .i64 0) := cellC (j := 1) HP3.out rfl
    have q0 : w3.frozen? ⟨w.heap.size, 0, none⟩ = false := frozen_of_row w3 _ 0 _ _ HP3.out
    have q1 : w3.frozen? ⟨w.heap.size, 1, none⟩ = false := frozen_of_row w3 _ 1 _ _ HP3.out
    have hP3 : w.heap.size < w3.heap.size := (Array.getElem?_eq_some_iff.1 HP3.out).1
    rcases hcase with rfl | rfl | rfl | rfl
    · have HIN : Hid (∀ T, Ins (w3.alloc (.cells #[.int .i64 (-1), .int .i64 ((n : Int) + 1), .int .i64 4097] T)) (some ⟨w3.heap.size, 0, none⟩) [-1, (n : Int) + 1, 4097]) := fun T => by
        have := ins_newB w3 T [-1, (n : Int) + 1, 4097] (by intro z hz; simp at hz; omega)
        simpa using this
      go_wp2_with fail
      refine ((HD3.out.other (S := fun _ => False) ((Only.refl (fun _ => False) w3).alloc _) (by simp) (by simp)).pick w3.heap.size 3 [-1, (n : Int) + 1, 4097] (HIN.out _) (by omega) (by simp) (by simp)).mono ?_
      rintro e w4 ⟨⟨t, ht, rfl⟩, hd4, ho4'⟩
      have ho4 : Only (fun k => k = R) w3 w4 := ((Only.refl (fun k => k = R) w3).alloc _).trans ho4'
      have hv4 : BV w4 (w.heap.size + 1) X a1 c1 ys n := HV3.out.only ho4 (by omega) (fun k hk => by omega)
      have hp4 : w4.heap[w.heap.size]? = some (.cells #[Value.slice none 0 0, Value.int IntKind.i64 0] 24 (0, 0)) := (ho4.block _ hP3 (by omega)).trans HP3.out
      have HTR : Hid (-1 ≤ t ∧ t ≤ 4097) := by unfold Hid; simp at ht; omega
      clear x0 x1 y0 y1 p0 p1 q0 q1 ht
      have x0 : w4.cell? ⟨X, 0, none⟩ = some (.slice a1 ys.length c1) := cellC (j := 0) hv4.hX rfl
      have x1 : w4.cell? ⟨X, 1, none⟩ = some (.int .i64 n) := cellC (j := 1) hv4.hX rfl
      have y1 : w4.frozen? ⟨X, 1, none⟩ = false := frozen_of_row w4 _ 1 _ _ hv4.hX
      have p0 : w4.cell? ⟨w.heap.size, 0, none⟩ = some (.slice none 0 0) := cellC (j := 0) hp4 rfl
      have p1 : w4.cell? ⟨w.heap.size, 1, none⟩ = some (.int .i64 0) := cellC (j := 1) hp4 rfl
      have q0 : w4.frozen? ⟨w.heap.size, 0, none⟩ = false := frozen_of_row w4 _ 0 _ _ hp4
      have q1 : w4.frozen? ⟨w.heap.size, 1, none⟩ = false := frozen_of_row w4 _ 1 _ _ hp4
      have hon5 : Only (fun k => k = X) w4 (w4.setCell ⟨X, 1, none⟩ (.int .i64 t)) := (Only.refl (fun k => k = X) w4).setCell (p := ⟨X, 1, none⟩) (.inl rfl) _
      have hneX : some X ≠ (Value.slice a1 ys.length c1).ownBlock := hv4.own.blk_ne hv4.hX (by decide)
      have HV5 : Hid (BV (w4.setCell ⟨X, 1, none⟩ (.int .i64 t)) (w.heap.size + 1) X a1 c1 ys t) := by
        refine ⟨?_, ⟨rowStayV hv4.own.1 hon5 (fun k hk e => hneX (by rw [hk, e])), hv4.own.2⟩⟩
        rw [heap_setCell_same _ X 1 _ _ _ hv4.hX]
        simp
      have HD5 : Hid (Dr w0 (w4.setCell ⟨X, 1, none⟩ (.int .i64 t)) B R a bs cap) := hd4.other hon5 (by omega) (fun k hk => by omega)
      have HO5 : Hid (Only (fun k => k = R) w (w4.setCell ⟨X, 1, none⟩ (.int .i64 t))) := only_chain (P := w.heap.size) (HO3.out.trans ho4) (Nat.le_refl _) (hon5.mono (fun k _ hk => by omega))
      clear hv4 hp4 hd4 ho4 ho4' hon5 hneX HV3 HD3 HP3 HO3 HIN
      go_wp2
      obtain ⟨e1, e2, e3⟩ := bent_end hRl.2 hBw HV5.out HD5.out HO5.out (.slice a1 ys.length c1) (.int .i64 t)
      refine bodyPost_ret (v := .agg #[.slice a1 ys.length c1, .int .i64 t]) (by simp [results, Tryd.results42, go_sem, p0, p1]) rfl ⟨⟨a1, c1, ys, t, rfl, by omega, HTR.out.1, HTR.out.2, e1⟩, e2, e3⟩
    · have hXA : (w3.alloc (Obj.cells #[Value.int .u8 0] 5)).heap[X]? = some (.cells #[.slice a1 ys.length c1, .int .i64 n] 24 (0, 0)) := (Below.heap_alloc _ _ _ hX3).trans HV3.out.hX
      have hPA : (w3.alloc (Obj.cells #[Value.int .u8 0] 5)).heap[w.heap.size]? = some (.cells #[Value.slice none 0 0, Value.int IntKind.i64 0] 24 (0, 0)) := (Below.heap_alloc _ _ _ hP3).trans HP3.out
      have HXA : Hid _ := hXA
      have HPA : Hid _ := hPA
      have HOA : Hid (OVB (w3.alloc (Obj.cells #[Value.int .u8 0] 5)) (w.heap.size + 1) (.slice a1 ys.length c1) ys) := HV3.out.own.alloc _
      have HYA : Hid (Byt (w3.alloc (Obj.cells #[Value.int .u8 0] 5)) (some ⟨w3.heap.size, 0, none⟩) [0]) := byt_one w3 0 (by omega)
      have hza : w.heap.size + 1 ≤ (w3.alloc (Obj.cells #[Value.int .u8 0] 5)).heap.size := by simp; omega
      clear hXA hPA
      go_wp2_with (at_builtin; (refine wpList_append_byt rfl (.tmp 32) (.tmp 33) rfl (w.heap.size + 1) (.slice a1 ys.length c1) ys rfl HOA.out (some ⟨w3.heap.size, 0, none⟩) 1 [0] rfl HYA.out (by simp; omega) hza ?_; intro v1 w4 hov1 hgr1; obtain ⟨a2, c2, rfl⟩ := hov1.form; have hX4 := grown_blk hgr1 HXA.out (HOA.out.blk_ne HXA.out (by decide)); have hP4 := grown_blk hgr1 HPA.out (HOA.out.blk_ne HPA.out (by decide)); have u0 : w4.cell? ⟨X, 0, none⟩ = some (.slice a1 ys.length c1) := cellC (j := 0) hX4 rfl; have u1 : w4.cell? ⟨X, 1, none⟩ = some (.int .i64 n) := cellC (j := 1) hX4 rfl; have g0 : w4.frozen? ⟨X, 0, none⟩ = false := frozen_of_row w4 _ 0 _ _ hX4; have m0 : w4.cell? ⟨w.heap.size, 0, none⟩ = some (.slice none 0 0) := cellC (j := 0) hP4 rfl; have m1 : w4.cell? ⟨w.heap.size, 1, none⟩ = some (.int .i64 0) := cellC (j := 1) hP4 rfl; have k0 : w4.frozen? ⟨w.heap.size, 0, none⟩ = false := frozen_of_row w4 _ 0 _ _ hP4; have k1 : w4.frozen? ⟨w.heap.size, 1, none⟩ = false := frozen_of_row w4 _ 1 _ _ hP4))
      generalize hE : ys ++ [0] = E at *
      have hEl : E.length = ys.length + 1 := by rw [← hE]; simp
      rw [hEl] at hov1
      have hneX : some X ≠ (Value.slice a2 (ys.length + 1) c2).ownBlock := hov1.blk_ne hX4 (by decide)
      have hon5 : Only (fun k => k = X) w4 (w4.setCell ⟨X, 0, none⟩ (.slice a2 (ys.length + 1) c2)) := (Only.refl (fun k => k = X) w4).setCell (p := ⟨X, 0, none⟩) (.inl rfl) _
      have ho4 : Only (fun k => w.heap.size + 1 ≤ k) w3 w4 := ((Only.refl (fun k => w.heap.size + 1 ≤ k) w3).alloc _).grown hgr1 (fun k hk => .inl (HOA.out.blk hk))
      have HV5 : BV (w4.setCell ⟨X, 0, none⟩ (.slice a2 (ys.length + 1) c2)) (w.heap.size + 1) X a2 c2 E n := by
        refine ⟨?_, by rw [hEl]; exact ⟨rowStayV hov1.1 hon5 (fun k hk e => hneX (by rw [hk, e])), hov1.2⟩⟩
        rw [heap_setCell_same _ X 0 _ _ _ hX4, hEl]
        simp
      have HD5 : Dr w0 (w4.setCell ⟨X, 0, none⟩ (.slice a2 (ys.length + 1) c2)) B R a bs cap := (HD3.out.other ho4 (by omega) (fun k hk => by omega)).other hon5 (by omega) (fun k hk => by omega)
      have HO5 : Only (fun k => k = R) w (w4.setCell ⟨X, 0, none⟩ (.slice a2 (ys.length + 1) c2)) := only_chain (P := w.heap.size) (only_chain (P := w.heap.size) HO3.out (Nat.le_refl _) (ho4.mono (fun k _ hk => by omega))) (Nat.le_refl _) (hon5.mono (fun k _ hk => by omega))
      obtain ⟨e1, e2, e3⟩ := bent_end hRl.2 hBw HV5 HD5 HO5 (.slice a2 (ys.length + 1) c2) (.int .i64 n)
      refine bodyPost_ret (v := .agg #[.slice a2 (ys.length + 1) c2, .int .i64 n]) (by simp [results, Tryd.results42, go_sem, m0, m1]) rfl ⟨⟨a2, c2, E, n, by rw [hEl], by omega, by omega, by omega, e1⟩, e2, e3⟩
    · by_cases hy0 : 0 < ys.length
      · obtain ⟨g, hag, hog⟩ : ∃ g, a1 = some ⟨g, 0, none⟩ ∧ Own w3 (w.heap.size + 1) g c1 ys := by
          rcases HV3.out.mine with ⟨_, h', _⟩ | ⟨g, h1, _, _, h4⟩
          · rw [h'] at hy0; simp at hy0
          · exact ⟨g, h1, h4⟩
        subst hag
        obtain ⟨L, hL⟩ : ∃ L, ys.length = L + 1 := ⟨ys.length - 1, by omega⟩
        have hgl := hog.lt
        have hgX : g ≠ X := fun e => (HV3.out.own.blk_ne HV3.out.hX (by decide)) (by simp [Value.ownBlock, e])
        have z0 := hog.cell L (by omega)
        have zf := hog.frozen L
        have hst := hog.store L 255 (by omega)
        have hon5 : Only (fun k => k = g) w3 (w3.setCell ⟨g, L, none⟩ (.int .u8 255)) := (Only.refl (fun k => k = g) w3).setCell (p := ⟨g, L, none⟩) (.inl rfl) _
        have hsl : (ys.set L 255).length = L + 1 := by rw [List.length_set]; exact hL
        have HV5 : Hid (BV (w3.setCell ⟨g, L, none⟩ (.int .u8 255)) (w.heap.size + 1) X (some ⟨g, 0, none⟩) c1 (ys.set L 255) n) := by
          refine ⟨?_, hst⟩
          rw [hsl, ← hL, Below.heap_setCell _ _ _ _ (by simpa using hgX.symm)]
          exact HV3.out.hX
        have HD5 : Hid (Dr w0 (w3.setCell ⟨g, L, none⟩ (.int .u8 255)) B R a bs cap) := HD3.out.other hon5 (by omega) (fun k hk => by omega)
        have HO5 : Hid (Only (fun k => k = R) w (w3.setCell ⟨g, L, none⟩ (.int .u8 255))) := only_chain (P := w.heap.size) HO3.out (Nat.le_refl _) (hon5.mono (fun k _ hk => by omega))
        have HSL : Hid ((ys.set L 255).length = L + 1) := hsl
        have hgP : g ≠ w.heap.size := by omega
        have hgP' : w.heap.size ≠ g := by omega
        have hgX' : X ≠ g := hgX.symm
        clear hst hon5 hog HV3 HD3 HP3 HO3 hsl
        rw [hL] at x0
        generalize ys.getD L 0 = old at *
        go_wp2
        obtain ⟨e1, e2, e3⟩ := bent_end hRl.2 hBw HV5.out HD5.out HO5.out (.slice (some ⟨g, 0, none⟩) (L + 1) c1) (.int .i64 n)
        refine bodyPost_ret (v := .agg #[.slice (some ⟨g, 0, none⟩) (L + 1) c1, .int .i64 n]) (by simp [results, Tryd.results42, go_sem, p0, p1]) rfl ⟨⟨some ⟨g, 0, none⟩, c1, ys.set L 255, n, by rw [HSL.out], by rw [HSL.out]; omega, by omega, by omega, e1⟩, e2, e3⟩
      · have hl0 : ys.length = 0 := by omega
        rw [hl0] at x0
        have HV5 : Hid (BV w3 (w.heap.size + 1) X a1 c1 ys n) := HV3.out
        go_wp2
        obtain ⟨e1, e2, e3⟩ := bent_end hRl.2 hBw HV5.out HD3.out HO3.out (.slice a1 0 c1) (.int .i64 n)
        refine bodyPost_ret (v := .agg #[.slice a1 0 c1, .int .i64 n]) (by simp [results, Tryd.results42, go_sem, p0, p1]) rfl ⟨⟨a1, c1, ys, n, by rw [hl0], by omega, by omega, by omega, e1⟩, e2, e3⟩
    · go_wp2_with fail
      refine (HD3.out.below 9 (by omega) (by omega)).mono ?_
      rintro e w4 ⟨⟨t, ht1, ht2, rfl⟩, hd4, ho4⟩
      have hv4 : BV w4 (w.heap.size + 1) X a1 c1 ys n := HV3.out.only ho4 (by omega) (fun k hk => by omega)
      have hp4 : w4.heap[w.heap.size]? = some (.cells #[Value.slice none 0 0, Value.int IntKind.i64 0] 24 (0, 0)) := (ho4.block _ hP3 (by omega)).trans HP3.out
      clear x0 x1 y0 y1 p0 p1 q0 q1
      have HX4 : Hid _ := hv4.hX
      have HP4 : Hid _ := hp4
      have x0 : w4.cell? ⟨X, 0, none⟩ = some (.slice a1 ys.length c1) := cellC (j := 0) hv4.hX rfl
      have x1 : w4.cell? ⟨X, 1, none⟩ = some (.int .i64 n) := cellC (j := 1) hv4.hX rfl
      have y0 : w4.frozen? ⟨X, 0, none⟩ = false := frozen_of_row w4 _ 0 _ _ hv4.hX
      have y1 : w4.frozen? ⟨X, 1, none⟩ = false := frozen_of_row w4 _ 1 _ _ hv4.hX
      have HD4 : Hid (Dr w0 w4 B R a bs cap) := hd4
      have HO4 : Hid (Only (fun k => k = R) w w4) := HO3.out.trans ho4
      have hX4s : X < w4.heap.size := Nat.lt_of_lt_of_le hX3 ho4.size
      have hz4 : w.heap.size + 1 ≤ w4.heap.size := by omega
      obtain ⟨q, hq⟩ : ∃ q : Nat, (4096 - t + 7) / 8 = (q : Int) := ⟨((4096 - t + 7) / 8).toNat, by omega⟩
      have hqb : q ≤ 512 := by omega
      have HQ : Hid ((4096 - t + 7) / 8 = (q : Int)) := hq
      have HTR : Hid (0 ≤ t ∧ t < 9) := ⟨ht1, ht2⟩
      clear hv4 hp4 hd4 ho4 HV3 HD3 HP3 HO3
      have hXb : (w4.setCell ⟨X, 1, none⟩ (.int .i64 (4096 - t))).heap[X]? = some (.cells #[.slice a1 ys.length c1, .int .i64 (4096 - t)] 24 (0, 0)) := by
        rw [heap_setCell_same _ X 1 _ _ _ HX4.out]
        simp
      have HXB : Hid _ := hXb
      have HPB : Hid ((w4.setCell ⟨X, 1, none⟩ (.int .i64 (4096 - t))).heap[w.heap.size]? = some (.cells #[Value.slice none 0 0, Value.int IntKind.i64 0] 24 (0, 0))) := (Below.heap_setCell _ _ _ _ (by simpa using hPX)).trans HP4.out
      have hon4 : Only (fun k => k = X) w4 (w4.setCell ⟨X, 1, none⟩ (.int .i64 (4096 - t))) := (Only.refl (fun k => k = X) w4).setCell (p := ⟨X, 1, none⟩) (.inl rfl) _
      have HDB : Hid (Dr w0 (w4.setCell ⟨X, 1, none⟩ (.int .i64 (4096 - t))) B R a bs cap) := HD4.out.other hon4 (by omega) (fun k hk => by omega)
      have HOB : Hid (Only (fun k => k = R) w (w4.setCell ⟨X, 1, none⟩ (.int .i64 (4096 - t)))) := only_chain (P := w.heap.size) HO4.out (Nat.le_refl _) (hon4.mono (fun k _ hk => by omega))
      have hzb : w.heap.size + 1 ≤ (w4.setCell ⟨X, 1, none⟩ (.int .i64 (4096 - t))).heap.size := Nat.le_trans hz4 hon4.size
      clear hXb hon4 HD4 HO4 HP4 HX4 hq
      go_wp2_with (at_make; refine wpList_make_full _ rfl _ _ 22 rfl (w.heap.size + 1) 5 i0 (.int .u8 0) 1 Tryd.underlying22 hi hz0 hz1 .i64 .i64 _ _ q rfl rfl HQ.out HQ.out (by rw [hz2]; omega) (by unfold maxLen; omega) hzb ?_; intro w5 hown hgrow; have hX5 := grown_blk hgrow HXB.out (by simp); have hP5 := grown_blk hgrow HPB.out (by simp); have u0 : w5.cell? ⟨X, 0, none⟩ = some (.slice a1 ys.length c1) := cellC (j := 0) hX5 rfl; have u1 : w5.cell? ⟨X, 1, none⟩ = some (.int .i64 (4096 - t)) := cellC (j := 1) hX5 rfl; have g0 : w5.frozen? ⟨X, 0, none⟩ = false := frozen_of_row w5 _ 0 _ _ hX5; have m0 : w5.cell? ⟨w.heap.size, 0, none⟩ = some (.slice none 0 0) := cellC (j := 0) hP5 rfl; have m1 : w5.cell? ⟨w.heap.size, 1, none⟩ = some (.int .i64 0) := cellC (j := 1) hP5 rfl; have k0 : w5.frozen? ⟨w.heap.size, 0, none⟩ = false := frozen_of_row w5 _ 0 _ _ hP5; have k1 : w5.frozen? ⟨w.heap.size, 1, none⟩ = false := frozen_of_row w5 _ 1 _ _ hP5)
      have hov : OVB w5 (w.heap.size + 1) (.slice (some ⟨w4.heap.size, 0, none⟩) (List.replicate q (0 : Int)).length q) (List.replicate q 0) := by
        refine ⟨?_, by intro z hz; simp at hz; omega⟩
        rw [made_zero] at hown
        simpa using hown
      have hlr : (List.replicate q (0 : Int)).length = q := by simp
      generalize List.replicate q (0 : Int) = E at *
      rw [hlr] at hov
      have hneX : some X ≠ (Value.slice (some ⟨w4.heap.size, 0, none⟩) q q).ownBlock := hov.blk_ne hX5 (by decide)
      have hon5 : Only (fun k => k = X) w5 (w5.setCell ⟨X, 0, none⟩ (.slice (some ⟨w4.heap.size, 0, none⟩) q q)) := (Only.refl (fun k => k = X) w5).setCell (p := ⟨X, 0, none⟩) (.inl rfl) _
      have ho5 : Only (fun k => w.heap.size + 1 ≤ k) (w4.setCell ⟨X, 1, none⟩ (.int .i64 (4096 - t))) w5 := (Only.refl (fun k => w.heap.size + 1 ≤ k) _).grown hgrow (fun k hk => by cases hk)
      have HV5 : BV (w5.setCell ⟨X, 0, none⟩ (.slice (some ⟨w4.heap.size, 0, none⟩) q q)) (w.heap.size + 1) X (some ⟨w4.heap.size, 0, none⟩) q E (4096 - t) := by
        refine ⟨?_, by rw [hlr]; exact ⟨rowStayV hov.1 hon5 (fun k hk e => hneX (by rw [hk, e])), hov.2⟩⟩
        rw [heap_setCell_same _ X 0 _ _ _ hX5, hlr]
        simp
      have HD5 : Dr w0 (w5.setCell ⟨X, 0, none⟩ (.slice (some ⟨w4.heap.size, 0, none⟩) q q)) B R a bs cap := (HDB.out.other ho5 (by omega) (fun k hk => by omega)).other hon5 (by omega) (fun k hk => by omega)
      have HO5 : Only (fun k => k = R) w (w5.setCell ⟨X, 0, none⟩ (.slice (some ⟨w4.heap.size, 0, none⟩) q q)) := only_chain (P := w.heap.size) (only_chain (P := w.heap.size) HOB.out (Nat.le_refl _) (ho5.mono (fun k _ hk => by omega))) (Nat.le_refl _) (hon5.mono (fun k _ hk => by omega))
      obtain ⟨e1, e2, e3⟩ := bent_end hRl.2 hBw HV5 HD5 HO5 (.slice (some ⟨w4.heap.size, 0, none⟩) q q) (.int .i64 (4096 - t))
      refine bodyPost_ret (v := .agg #[.slice (some ⟨w4.heap.size, 0, none⟩) q q, .int .i64 (4096 - t)]) (by simp [results, Tryd.results42, go_sem, m0, m1]) rfl ⟨⟨some ⟨w4.heap.size, 0, none⟩, q, E, 4096 - t, by rw [hlr], by omega, by have := HTR.out; omega, by have := HTR.out; omega, e1⟩, e2, e3⟩
end Go.Proofs.YtdhnlbekkicjcaaDoor
