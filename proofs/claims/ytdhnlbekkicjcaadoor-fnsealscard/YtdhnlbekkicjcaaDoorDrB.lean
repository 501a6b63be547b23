/-
  The draws of bits: numbers below a great bound, widths, some bits.
-/
import Derived.Test.YtdhnlbekkicjcaaDoorDraw2
import Derived.Test.YtdhnlbekkicjcaaDoorWCells
namespace Go.Proofs.YtdhnlbekkicjcaaDoor
open Go.RowKit
set_option linter.unusedVariables false

set_option maxHeartbeats 1600000 in
theorem Dr.belowBig {w0 w : World} {B R : Nat} {a : Option Addr} {bs : List Int} {cap : Nat} (h : Dr w0 w B R a bs cap) (n : Int) (hn : 0 < n) (hn2 : n ≤ 2147483648) :
    Calls Tryd.prog 41 #[.pointer (some ⟨R, 0, none⟩), .int .i64 n] w fun e w' => (∃ x : Int, 0 ≤ x ∧ x < n ∧ e = .returned (.int .i64 x)) ∧ Dr w0 w' B R a bs cap ∧ Only (fun k => k = R) w w' := by
  by_cases h256 : n ≤ 256
  · exact h.below n hn h256
  · have H : Hid (Dr w0 w B R a bs cap) := h
    clear h
    go_enter Tryd.func41, Tryd.ntmps41
    go_wp2_with fail
    refine H.out.byte.mono ?_
    rintro e w1 ⟨⟨x1, a1, b1, rfl⟩, hd1, ho1⟩
    have HD1 : Hid _ := hd1
    clear hd1 H
    go_wp2_with fail
    refine HD1.out.byte.mono ?_
    rintro e w2 ⟨⟨x2, a2, b2, rfl⟩, hd2, ho2⟩
    have HD2 : Hid _ := hd2
    have HO2 : Hid (Only (fun k => k = R) w w2) := ho1.trans ho2
    clear hd2 HD1 ho1 ho2
    go_wp2_with fail
    refine HD2.out.byte.mono ?_
    rintro e w3 ⟨⟨x3, a3, b3, rfl⟩, hd3, ho3⟩
    have HD3 : Hid _ := hd3
    have HO3 : Hid (Only (fun k => k = R) w w3) := HO2.out.trans ho3
    clear hd3 HD2 ho3 HO2
    go_wp2_with fail
    refine HD3.out.byte.mono ?_
    rintro e w4 ⟨⟨x4, a4, b4, rfl⟩, hd4, ho4⟩
    have HD4 : Hid _ := hd4
    have HO4 : Hid (Only (fun k => k = R) w w4) := HO3.out.trans ho4
    clear hd4 HD3 ho4 HO3
    go_wp2
    go_ret
    refine ⟨⟨_, ?_, ?_, rfl⟩, HD4.out, HO4.out⟩
    · exact Int.emod_nonneg _ (by omega)
    · exact Int.emod_lt_of_pos _ hn

theorem ins_newB (w : World) (T : TypeId) (l : List Int) (hr : ∀ z ∈ l, -9223372036854775808 ≤ z ∧ z ≤ 9223372036854775807) : Ins (w.alloc (.cells (l.map (Value.int .i64)).toArray T)) (some ⟨w.heap.size, 0, none⟩) l := by
  refine ⟨hr, fun _ => ⟨w.heap.size, 0, rfl, by simp, fun i hi => ?_⟩⟩
  rw [Nat.zero_add, cell_of_row _ _ _ _ _ _ (heap_alloc_new w (.cells (l.map (Value.int .i64)).toArray T))]
  simp [List.getElem?_eq_getElem hi]

set_option maxHeartbeats 800000 in
theorem Dr.width {w0 w : World} {B R : Nat} {a : Option Addr} {bs : List Int} {cap : Nat} (h : Dr w0 w B R a bs cap) :
    Calls Tryd.prog 39 #[.pointer (some ⟨R, 0, none⟩)] w fun e w' => (∃ x : Int, -1 ≤ x ∧ x ≤ 31 ∧ e = .returned (.int .i64 x)) ∧ Dr w0 w' B R a bs cap ∧ Only (fun k => k = R) w w' := by
  have H : Hid (Dr w0 w B R a bs cap) := h
  have hR := h.cur.lt.2
  clear h
  have HIN : Hid (∀ T, Ins (w.alloc (.cells #[.int .i64 0, .int .i64 1, .int .i64 3, .int .i64 8, .int .i64 13, .int .i64 30, .int .i64 31, .int .i64 (-1)] T)) (some ⟨w.heap.size, 0, none⟩) [0, 1, 3, 8, 13, 30, 31, -1]) := fun T => by
    have := ins_newB w T [0, 1, 3, 8, 13, 30, 31, -1] (by intro z hz; simp at hz; omega)
    simpa using this
  go_enter Tryd.func39, Tryd.ntmps39
  go_wp2_with fail
  refine ((H.out.other (S := fun _ => False) ((Only.refl (fun _ => False) w).alloc _) (by simp) (by simp)).pick w.heap.size 8 [0, 1, 3, 8, 13, 30, 31, -1] (HIN.out _) (by omega) (by simp) (by simp)).mono ?_
  rintro e w1 ⟨⟨x, hx, rfl⟩, hd, ho⟩
  have HD : Hid _ := hd
  have HO : Hid (Only (fun k => k = R) w w1) := ((Only.refl (fun k => k = R) w).alloc _).trans ho
  have HX : Hid (-1 ≤ x ∧ x ≤ 31) := by unfold Hid; simp at hx; omega
  clear hd ho hx H
  go_wp2
  go_ret
  exact ⟨⟨x, HX.out.1, HX.out.2, rfl⟩, HD.out, HO.out⟩

theorem SI.only {w w' : World} {B R n V : Nat} {S : Nat → Prop} (h : SI w B R n V) (ho : Only S w w') (hs : ∀ k, B ≤ k → ¬ S k) : SI w' B R n V := by
  obtain ⟨v, hR, hv, hV, hBR, hB⟩ := h
  refine ⟨v, (ho.block R (Array.getElem?_eq_some_iff.1 hR).1 (hs R hBR)).trans hR, ⟨⟨hv.1.1, ?_⟩, hv.2⟩, hV, hBR, Nat.le_trans hB ho.size⟩
  rcases hv.1.2 with h' | ⟨g, cap, cur, h', hg, hh, r⟩
  · exact .inl h'
  · exact .inr ⟨g, cap, cur, h', hg, (ho.block g (Array.getElem?_eq_some_iff.1 hh).1 (hs g hg)).trans hh, r⟩
theorem below_only {w w' : World} {B : Nat} (h : Below B w w') : Only (fun k => B ≤ k) w w' := ⟨h.os, h.tape, h.output, h.size, fun k hk hs => h.block k (by omega)⟩
theorem wpowB (k : Nat) (h : k ≤ 31) : wrap64 (2 ^ k) = ((2 ^ k : Nat) : Int) := by
  have h2 : 2 ^ k ≤ 2 ^ 31 := Nat.pow_le_pow_right (by omega) h
  have e : ((2 : Int) ^ k) = ((2 ^ k : Nat) : Int) := by simp
  rw [e]
  generalize 2 ^ k = P at *
  exact IntWalk.wrap64_in _ (by omega)

set_option maxRecDepth 20000 in
set_option maxHeartbeats 4000000 in
theorem Dr.bits {w0 w : World} {B R : Nat} {a : Option Addr} {bs : List Int} {cap : Nat} (h : Dr w0 w B R a bs cap) :
    Calls Tryd.prog 50 #[.pointer (some ⟨R, 0, none⟩)] w fun e w' => (∃ (a' : Option Addr) (c' n V : Nat), e = .returned (.agg #[.slice a' (enc n V).length c', .int .i64 n]) ∧ n ≤ 88 ∧ V < 2 ^ n ∧ Mine w' w.heap.size w'.heap.size a' c' (enc n V)) ∧ Dr w0 w' B R a bs cap ∧ Only (fun k => k = R) w w' := by
  have hRl := h.cur.lt
  have hBw : B ≤ w.heap.size := by have := h.bel.size; have := h.hB; omega
  have hA : Only (fun _ => False) w ((w.alloc (Obj.cells #[Value.slice none 0 0, Value.int IntKind.i64 0] 24)).alloc (Obj.cells #[Value.slice none 0 0, Value.int IntKind.i64 0] 24)) := ((Only.refl (fun _ => False) w).alloc _).alloc _
  have HD0 : Hid (Dr w0 ((w.alloc (Obj.cells #[Value.slice none 0 0, Value.int IntKind.i64 0] 24)).alloc (Obj.cells #[Value.slice none 0 0, Value.int IntKind.i64 0] 24)) B R a bs cap) := h.other hA (by simp) (by simp)
  have hS0 := SI.new (w.alloc (Obj.cells #[Value.slice none 0 0, Value.int IntKind.i64 0] 24)) (w.heap.size + 1) (by simp)
  simp only [World.size_alloc] at hS0
  have HS0 : Hid (SI ((w.alloc (Obj.cells #[Value.slice none 0 0, Value.int IntKind.i64 0] 24)).alloc (Obj.cells #[Value.slice none 0 0, Value.int IntKind.i64 0] 24)) (w.heap.size + 1) (w.heap.size + 1) 0 0) := hS0
  have HP0 : Hid (((w.alloc (Obj.cells #[Value.slice none 0 0, Value.int IntKind.i64 0] 24)).alloc (Obj.cells #[Value.slice none 0 0, Value.int IntKind.i64 0] 24)).heap[w.heap.size]? = some (.cells #[Value.slice none 0 0, Value.int IntKind.i64 0] 24 (0, 0))) := (Below.heap_alloc _ _ _ (by simp)).trans (heap_alloc_new w _)
  have HO0 : Hid (Only (fun k => k = R) w ((w.alloc (Obj.cells #[Value.slice none 0 0, Value.int IntKind.i64 0] 24)).alloc (Obj.cells #[Value.slice none 0 0, Value.int IntKind.i64 0] 24))) := ((Only.refl (fun k => k = R) w).alloc _).alloc _
  clear hA hS0 h
  go_enter Tryd.func50, Tryd.ntmps50
  go_wp2_with fail
  generalize (w.alloc (Obj.cells #[Value.slice none 0 0, Value.int IntKind.i64 0] 24)).alloc (Obj.cells #[Value.slice none 0 0, Value.int IntKind.i64 0] 24) = W at *
  refine (HD0.out.below 9 (by omega) (by omega)).mono ?_
  rintro e w1 ⟨⟨m, hm1, hm2, rfl⟩, hd1, ho1⟩
  obtain ⟨M, rfl⟩ := Int.eq_ofNat_of_zero_le hm1
  have HD1 : Hid (Dr w0 w1 B R a bs cap) := hd1
  have HS1 : Hid (SI w1 (w.heap.size + 1) (w.heap.size + 1) 0 0) := HS0.out.only ho1 (fun k hk => by omega)
  have HP1 : Hid (w1.heap[w.heap.size]? = some (.cells #[Value.slice none 0 0, Value.int IntKind.i64 0] 24 (0, 0))) := (ho1.block _ (Array.getElem?_eq_some_iff.1 HP0.out).1 (by omega)).trans HP0.out
  have HO1 : Hid (Only (fun k => k = R) w w1) := HO0.out.trans ho1
  clear hd1 ho1 HD0 HS0 HP0 HO0 hm1
  go_wp2
  go_loopw [5] (fun i wr => ∃ (k n V : Nat), k ≤ M ∧ i = .int .i64 k ∧ n ≤ 11 * k ∧ SI wr (w.heap.size + 1) (w.heap.size + 1) n V ∧ Dr w0 wr B R a bs cap ∧ wr.heap[w.heap.size]? = some (.cells #[Value.slice none 0 0, Value.int IntKind.i64 0] 24 (0, 0)) ∧ Only (fun k => k = R) w wr) (fun i _ => M - (intOf i).toNat)
  case atStart => exact ⟨0, 0, 0, Nat.zero_le _, rfl, Nat.le_refl _, HS1.out, HD1.out, HP1.out, HO1.out⟩
  case round =>
    clear HD1 HS1 HP1 HO1
    obtain ⟨k, n, V, hk, rfl, hnk, hsi, hdr, hp, hon⟩ := hrel
    have HS : Hid (SI wr (w.heap.size + 1) (w.heap.size + 1) n V) := hsi
    have HD : Hid (Dr w0 wr B R a bs cap) := hdr
    have HP : Hid (wr.heap[w.heap.size]? = some (.cells #[Value.slice none 0 0, Value.int IntKind.i64 0] 24 (0, 0))) := hp
    have HO : Hid (Only (fun k => k = R) w wr) := hon
    have hzw : w.heap.size < wr.heap.size := (Array.getElem?_eq_some_iff.1 hp).1
    clear hsi hdr hp hon
    by_cases hlt : k < M
    · go_wp2_with fail
      refine (HD.out.below 12 (by omega) (by omega)).mono ?_
      rintro e w2 ⟨⟨y, hy1, hy2, rfl⟩, hd2, ho2⟩
      obtain ⟨Y, rfl⟩ := Int.eq_ofNat_of_zero_le hy1
      have HD2 : Hid _ := hd2
      have HS2 : Hid (SI w2 (w.heap.size + 1) (w.heap.size + 1) n V) := HS.out.only ho2 (fun k hk => by omega)
      have HP2 : Hid (w2.heap[w.heap.size]? = some (.cells #[Value.slice none 0 0, Value.int IntKind.i64 0] 24 (0, 0))) := (ho2.block _ hzw (by omega)).trans HP.out
      have HO2 : Hid (Only (fun k => k = R) w w2) := HO.out.trans ho2
      have hz2 : w.heap.size < w2.heap.size := Nat.lt_of_lt_of_le hzw ho2.size
      have HWP := wpowB Y (by omega)
      have hpb : 2 ^ Y ≤ 2 ^ 11 := Nat.pow_le_pow_right (by omega) (by omega)
      have hpp : 0 < 2 ^ Y := Nat.pow_pos (by omega)
      have HPW : Hid (((2 : Int) ^ (Y : Int).toNat) = ((2 ^ Y : Nat) : Int)) := by unfold Hid; simp
      have HBB := HD2.out.belowBig (wrap64 (2 ^ Y)) (by rw [HWP]; omega) (by rw [HWP]; omega)
      have HWP' : Hid _ := HWP
      clear hd2 ho2 HD HS HP HO hy1 HWP
      go_wp2_with fail
      refine HBB.mono ?_
      clear HBB
      rintro e w3 ⟨⟨x, hx1, hx2, rfl⟩, hd3, ho3⟩
      rw [HWP'.out] at hx2
      have HD3 : Hid _ := hd3
      have hS3 : SI w3 (w.heap.size + 1) (w.heap.size + 1) n V := HS2.out.only ho3 (fun k hk => by omega)
      have HP3 : Hid (w3.heap[w.heap.size]? = some (.cells #[Value.slice none 0 0, Value.int IntKind.i64 0] 24 (0, 0))) := (ho3.block _ hz2 (by omega)).trans HP2.out
      have HO3 : Hid (Only (fun k => k = R) w w3) := HO2.out.trans ho3
      have hz3 : w.heap.size < w3.heap.size := Nat.lt_of_lt_of_le hz2 ho3.size
      have HPUT := hS3.put x (Y : Int) hx1 (by omega) (by omega) (by rw [HPW.out]; exact hx2) (by omega)
      clear hd3 ho3 hS3 HS2 HD2 HP2 HO2
      go_wp2_with fail
      refine HPUT.mono ?_
      clear HPUT
      rintro e w4 ⟨rfl, hs4, hb4⟩
      have ho4 := below_only hb4
      have HS4 : Hid (SI w4 (w.heap.size + 1) (w.heap.size + 1) (n + Y) (V + x.toNat * 2 ^ n)) := by simpa [Hid] using hs4
      have HD4 : Hid (Dr w0 w4 B R a bs cap) := HD3.out.other ho4 (by omega) (fun k hk => by omega)
      have HP4 : Hid (w4.heap[w.heap.size]? = some (.cells #[Value.slice none 0 0, Value.int IntKind.i64 0] 24 (0, 0))) := (ho4.block _ hz3 (by omega)).trans HP3.out
      have HO4 : Hid (Only (fun k => k = R) w w4) := by
        have h3 := HO3.out
        exact ⟨ho4.os.trans h3.os, ho4.tape.trans h3.tape, ho4.output.trans h3.output, Nat.le_trans h3.size ho4.size, fun j hj hs => (ho4.block j (Nat.lt_of_lt_of_le hj h3.size) (by omega)).trans (h3.block j hj hs)⟩
      clear hs4 hb4 ho4 HD3 HP3 HO3
      go_wp2
      go_roundw
      case rel => exact ⟨k + 1, n + Y, _, by omega, by go_num, by omega, HS4.out, HD4.out, HP4.out, HO4.out⟩
      case measure => simp [intOf]; omega
    · have hkm : k = M := by omega
      subst hkm
      obtain ⟨a', c', x0, x1, hmn⟩ := HS.out.cells
      have hVn : V < 2 ^ n := by obtain ⟨v, _, _, h, _⟩ := HS.out; exact h
      have p0 : wr.cell? ⟨w.heap.size, 0, none⟩ = some (.slice none 0 0) := cellC (j := 0) HP.out rfl
      have p1 : wr.cell? ⟨w.heap.size, 1, none⟩ = some (.int .i64 0) := cellC (j := 1) HP.out rfl
      have q0 : wr.frozen? ⟨w.heap.size, 0, none⟩ = false := frozen_of_row wr _ 0 _ _ HP.out
      have q1 : wr.frozen? ⟨w.heap.size, 1, none⟩ = false := frozen_of_row wr _ 1 _ _ HP.out
      have HMN : Hid (Mine wr (w.heap.size + 1) wr.heap.size a' c' (enc n V)) := hmn
      have HVN : Hid (V < 2 ^ n) := hVn
      have hdo : ∀ (v0 v1 : Value), Only (fun b => b = w.heap.size) wr ((wr.setCell ⟨w.heap.size, 0, none⟩ v0).setCell ⟨w.heap.size, 1, none⟩ v1) := fun v0 v1 => ((Only.refl (fun b => b = w.heap.size) wr).setCell (p := ⟨w.heap.size, 0, none⟩) (.inl rfl) _).setCell (p := ⟨w.heap.size, 1, none⟩) (.inl rfl) _
      have HDO : Hid _ := hdo
      clear hmn hVn HS hdo
      go_wp2
      refine bodyPost_ret (v := .agg #[.slice a' (enc n V).length c', .int .i64 n]) (by simp [results, Tryd.results50, go_sem, p0, p1]) rfl ⟨⟨a', c', n, V, rfl, by omega, HVN.out, mine_out _ _ HMN.out (by omega) (Nat.le_refl _)⟩, ?_, ?_⟩
      · exact HD.out.other (HDO.out _ _) (by omega) (fun k hk => by omega)
      · have h3 := HO.out
        have ho4 := HDO.out (.slice a' (enc n V).length c') (.int .i64 n)
        exact ⟨ho4.os.trans h3.os, ho4.tape.trans h3.tape, ho4.output.trans h3.output, Nat.le_trans h3.size ho4.size, fun j hj hs => (ho4.block j (Nat.lt_of_lt_of_le hj h3.size) (by omega)).trans (h3.block j hj hs)⟩
end Go.Proofs.YtdhnlbekkicjcaaDoor
