/-
  What DrawBitsSeal and DrawBitsJoin draw.
-/
import Derived.Test.YtdhnlbekkicjcaaDoorDrC
import Derived.Test.YtdhnlbekkicjcaaDoorOpenY
namespace Go.Proofs.YtdhnlbekkicjcaaDoor
open Go.RowKit
set_option linter.unusedVariables false

set_option maxRecDepth 20000 in
set_option maxHeartbeats 2000000 in
theorem drawBitsSeal_any (a : Option Addr) (bs : List Int) (cap : Nat) (w : World) (hb : Byt w a bs) (hl : bs.length ≤ maxLen) :
    Calls Tryd.prog 16 #[.slice a bs.length cap] w fun e w' => ∃ (a' : Option Addr) (c' : Nat) (ys : List Int) (N : Int), e = .returned (.agg #[.slice a' ys.length c', .int .i64 N]) ∧ ys.length ≤ 600 ∧ -1 ≤ N ∧ N ≤ 4097 ∧ Mine w' w.heap.size w'.heap.size a' c' ys ∧ Below w.heap.size w w' := by
  have hw : Below w.heap.size w (w.alloc (Obj.cells #[Value.slice none 0 0, Value.int IntKind.i64 0] 24)) := (Below.refl _ _).alloc (Nat.le_refl _) _
  have HP0 : Hid ((w.alloc (Obj.cells #[Value.slice none 0 0, Value.int IntKind.i64 0] 24)).heap[w.heap.size]? = some (.cells #[Value.slice none 0 0, Value.int IntKind.i64 0] 24 (0, 0))) := heap_alloc_new w _
  have HZ0 : Hid ((w.alloc (Obj.cells #[Value.slice none 0 0, Value.int IntKind.i64 0] 24)).heap.size = w.heap.size + 1) := by simp [Hid]
  have HNW := l1New_any a bs cap _ (hb.below hw (Nat.le_refl _)) hl
  have HBW : Hid _ := hw
  clear hw
  go_enter Tryd.func16, Tryd.ntmps16
  go_wp2_with fail
  generalize w.alloc (Obj.cells #[Value.slice none 0 0, Value.int IntKind.i64 0] 24) = W at *
  refine HNW.mono ?_
  clear HNW
  rintro e w1 ⟨rfl, hd1⟩
  have HD1 : Hid (Dr W w1 W.heap.size W.heap.size a bs cap) := hd1
  clear hd1 hb
  generalize hB : W.heap.size = B at *
  have hBw : w.heap.size < B := by have := HZ0.out; omega
  have HBB : Hid (W.heap.size = B) := hB
  clear hB
  go_wp2_with fail
  refine HD1.out.bent.mono ?_
  rintro e w5 ⟨⟨a', c', ys, N, rfl, hyl, hN1, hN2, hm5⟩, hdr5, ho5⟩
  have hp5 : w5.heap[w.heap.size]? = some (.cells #[Value.slice none 0 0, Value.int IntKind.i64 0] 24 (0, 0)) := (hdr5.bel.block _ hBw).trans HP0.out
  have p0 : w5.cell? ⟨w.heap.size, 0, none⟩ = some (.slice none 0 0) := cellC (j := 0) hp5 rfl
  have p1 : w5.cell? ⟨w.heap.size, 1, none⟩ = some (.int .i64 0) := cellC (j := 1) hp5 rfl
  have q0 : w5.frozen? ⟨w.heap.size, 0, none⟩ = false := frozen_of_row w5 _ 0 _ _ hp5
  have q1 : w5.frozen? ⟨w.heap.size, 1, none⟩ = false := frozen_of_row w5 _ 1 _ _ hp5
  have hB4 : B ≤ w1.heap.size := by have h1 := HD1.out.cur.lt.2; omega
  have HM5 : Hid (Mine w5 B w5.heap.size a' c' ys) := hm5.mono hB4 (Nat.le_refl _)
  have HB5 : Hid (Below w.heap.size w w5) := HBW.out.trans (hdr5.bel.mono (by omega))
  clear hm5 hdr5 ho5 hp5 HD1 hB4
  go_wp2
  refine bodyPost_ret (v := .agg #[.slice a' ys.length c', .int .i64 N]) (by simp [results, Tryd.results16, go_sem, p0, p1]) rfl ⟨a', c', ys, N, rfl, hyl, hN1, hN2, mine_out _ _ HM5.out hBw (Nat.le_refl _), (HB5.out.setCell (by simp) _).setCell (by simp) _⟩

set_option maxRecDepth 20000 in
set_option maxHeartbeats 4000000 in
theorem drawBitsJoin_any (a : Option Addr) (bs : List Int) (cap : Nat) (w : World) (hb : Byt w a bs) (hl : bs.length ≤ maxLen) :
    Calls Tryd.prog 23 #[.slice a bs.length cap] w fun e w' => ∃ (a1 : Option Addr) (c1 : Nat) (xs : List Int) (N : Int) (a2 : Option Addr) (c2 : Nat) (ys : List Int) (M : Int), e = .returned (.tuple #[.agg #[.slice a1 xs.length c1, .int .i64 N], .agg #[.slice a2 ys.length c2, .int .i64 M]]) ∧ xs.length ≤ 600 ∧ -1 ≤ N ∧ N ≤ 4097 ∧ ys.length ≤ 600 ∧ -1 ≤ M ∧ M ≤ 4097 ∧ Byt w' a1 xs ∧ Byt w' a2 ys ∧ Below w.heap.size w w' := by
  have hw : Below w.heap.size w ((w.alloc (Obj.cells #[Value.slice none 0 0, Value.int IntKind.i64 0] 24)).alloc (Obj.cells #[Value.slice none 0 0, Value.int IntKind.i64 0] 24)) := ((Below.refl _ _).alloc (Nat.le_refl _) _).alloc (by simp) _
  have HP0 : Hid (((w.alloc (Obj.cells #[Value.slice none 0 0, Value.int IntKind.i64 0] 24)).alloc (Obj.cells #[Value.slice none 0 0, Value.int IntKind.i64 0] 24)).heap[w.heap.size]? = some (.cells #[Value.slice none 0 0, Value.int IntKind.i64 0] 24 (0, 0))) := (Below.heap_alloc _ _ _ (by simp)).trans (heap_alloc_new w _)
  have HQ0 : Hid (((w.alloc (Obj.cells #[Value.slice none 0 0, Value.int IntKind.i64 0] 24)).alloc (Obj.cells #[Value.slice none 0 0, Value.int IntKind.i64 0] 24)).heap[w.heap.size + 1]? = some (.cells #[Value.slice none 0 0, Value.int IntKind.i64 0] 24 (0, 0))) := by
    have := heap_alloc_new (w.alloc (Obj.cells #[Value.slice none 0 0, Value.int IntKind.i64 0] 24)) (Obj.cells #[Value.slice none 0 0, Value.int IntKind.i64 0] 24)
    simpa [Hid] using this
  have HZ0 : Hid (((w.alloc (Obj.cells #[Value.slice none 0 0, Value.int IntKind.i64 0] 24)).alloc (Obj.cells #[Value.slice none 0 0, Value.int IntKind.i64 0] 24)).heap.size = w.heap.size + 1 + 1) := by simp [Hid]
  have HNW := l1New_any a bs cap _ (hb.below hw (Nat.le_refl _)) hl
  have HBW : Hid _ := hw
  clear hw
  go_enter Tryd.func23, Tryd.ntmps23
  go_wp2_with fail
  generalize (w.alloc (Obj.cells #[Value.slice none 0 0, Value.int IntKind.i64 0] 24)).alloc (Obj.cells #[Value.slice none 0 0, Value.int IntKind.i64 0] 24) = W at *
  refine HNW.mono ?_
  clear HNW
  rintro e w1 ⟨rfl, hd1⟩
  have HD1 : Hid (Dr W w1 W.heap.size W.heap.size a bs cap) := hd1
  clear hd1 hb
  generalize hB : W.heap.size = B at *
  have hBw : w.heap.size + 1 < B := by have := HZ0.out; omega
  have HBB : Hid (W.heap.size = B) := hB
  clear hB
  go_wp2_with fail
  refine HD1.out.bent.mono ?_
  rintro e w2 ⟨⟨a1, c1, xs, N, rfl, hxl, hN1, hN2, hm2⟩, hdr2, ho2⟩
  have hR1 := HD1.out.cur.lt.2
  have HV2 : Hid (OVB w2 w1.heap.size (.slice a1 xs.length c1) xs) := hm2.ovb
  have HD2 : Hid (Dr W w2 B B a bs cap) := hdr2
  clear hm2 hdr2 ho2 HD1
  go_wp2_with fail
  refine HD2.out.bent.mono ?_
  rintro e w5 ⟨⟨a2, c2, ys, M, rfl, hyl, hM1, hM2, hm5⟩, hdr5, ho5⟩
  have hv5 : OVB w5 w1.heap.size (.slice a1 xs.length c1) xs := HV2.out.stay ho5 (fun k hk => by omega)
  obtain ⟨a1', c1', e1, hmx⟩ := hv5.mine
  obtain ⟨rfl, rfl⟩ : a1 = a1' ∧ c1 = c1' := by simpa using e1
  have hp5 : w5.heap[w.heap.size]? = some (.cells #[Value.slice none 0 0, Value.int IntKind.i64 0] 24 (0, 0)) := (hdr5.bel.block _ (by omega)).trans HP0.out
  have hq5 : w5.heap[w.heap.size + 1]? = some (.cells #[Value.slice none 0 0, Value.int IntKind.i64 0] 24 (0, 0)) := (hdr5.bel.block _ hBw).trans HQ0.out
  have p0 : w5.cell? ⟨w.heap.size, 0, none⟩ = some (.slice none 0 0) := cellC (j := 0) hp5 rfl
  have p1 : w5.cell? ⟨w.heap.size, 1, none⟩ = some (.int .i64 0) := cellC (j := 1) hp5 rfl
  have q0 : w5.frozen? ⟨w.heap.size, 0, none⟩ = false := frozen_of_row w5 _ 0 _ _ hp5
  have q1 : w5.frozen? ⟨w.heap.size, 1, none⟩ = false := frozen_of_row w5 _ 1 _ _ hp5
  have r0 : w5.cell? ⟨w.heap.size + 1, 0, none⟩ = some (.slice none 0 0) := cellC (j := 0) hq5 rfl
  have r1 : w5.cell? ⟨w.heap.size + 1, 1, none⟩ = some (.int .i64 0) := cellC (j := 1) hq5 rfl
  have s0 : w5.frozen? ⟨w.heap.size + 1, 0, none⟩ = false := frozen_of_row w5 _ 0 _ _ hq5
  have s1 : w5.frozen? ⟨w.heap.size + 1, 1, none⟩ = false := frozen_of_row w5 _ 1 _ _ hq5
  have hB4 : B ≤ w2.heap.size := by have h1 := HD2.out.cur.lt.2; omega
  have HM5 : Hid (Mine w5 B w5.heap.size a2 c2 ys) := hm5.mono hB4 (Nat.le_refl _)
  have HX5 : Hid (Mine w5 B w5.heap.size a1 c1 xs) := hmx.mono (by omega) (Nat.le_refl _)
  have HB5 : Hid (Below w.heap.size w w5) := HBW.out.trans (hdr5.bel.mono (by omega))
  clear hm5 hdr5 ho5 hp5 hq5 hmx hv5 e1 HD2 hB4 HV2
  go_wp2
  have fr : ∀ (t : Option Addr) (ct : Nat) (ts : List Int), Mine w5 B w5.heap.size t ct ts → Byt ((((w5.setCell ⟨w.heap.size, 0, none⟩ (.slice a1 xs.length c1)).setCell ⟨w.heap.size, 1, none⟩ (.int .i64 N)).setCell ⟨w.heap.size + 1, 0, none⟩ (.slice a2 ys.length c2)).setCell ⟨w.heap.size + 1, 1, none⟩ (.int .i64 M)) t ts := fun t ct ts hm =>
    ((((hm.setC (p := ⟨w.heap.size, 0, none⟩) (by simp; omega) _).setC (p := ⟨w.heap.size, 1, none⟩) (by simp; omega) _).setC (p := ⟨w.heap.size + 1, 0, none⟩) (by simp; omega) _).setC (p := ⟨w.heap.size + 1, 1, none⟩) (by simp; omega) _).byt
  refine bodyPost_ret (v := .tuple #[.agg #[.slice a1 xs.length c1, .int .i64 N], .agg #[.slice a2 ys.length c2, .int .i64 M]]) (by simp [results, Tryd.results23, go_sem, p0, p1, r0, r1]) rfl ⟨a1, c1, xs, N, a2, c2, ys, M, rfl, hxl, hN1, hN2, hyl, hM1, hM2, fr _ _ _ HX5.out, fr _ _ _ HM5.out, (((HB5.out.setCell (by simp) _).setCell (by simp) _).setCell (by simp) _).setCell (by simp) _⟩
end Go.Proofs.YtdhnlbekkicjcaaDoor
