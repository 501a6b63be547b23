/-
  The program's putCode; what a text comes to.
-/
import Derived.Test.YtkjebacpmmfflaaDoorPut4
import Derived.Test.YtkjebacpmmfflaaDoorIParts
import Derived.Test.YtkjebacpmmfflaaDoorRev2
import Derived.Test.YtkjebacpmmfflaaDoorCodes1
namespace Go.Proofs.YtkjebacpmmfflaaDoor
open Go.RowKit
set_option linter.unusedVariables false

theorem OwnV.blk {w : World} {B : Nat} {v : Value} {zs : List Int} (h : OwnV w B v zs) {k : Nat} (hk : v.ownBlock = some k) : B ≤ k := by
  rcases h.1.2 with ⟨rfl, h0⟩ | ⟨g, cap, cur, rfl, hg, _⟩
  · simp [Value.ownBlock] at hk
  · simp [Value.ownBlock] at hk
    omega

/-- The program's writer at R has n bits, the number V, in a row of its own; room for 4096. -/
def WI (w : World) (B R n V : Nat) : Prop := ∃ v, w.heap[R]? = some (.cells #[v, .int .i64 n, .int .i64 4096] 75 (0, 0)) ∧ OwnV w B v (enc n V) ∧ V < 2 ^ n ∧ B ≤ R ∧ B ≤ w.heap.size
/-- The model's bits at R. -/
def SI (w : World) (B R n V : Nat) : Prop := ∃ v, w.heap[R]? = some (.cells #[v, .int .i64 n] 36 (0, 0)) ∧ OwnV w B v (enc n V) ∧ V < 2 ^ n ∧ B ≤ R ∧ B ≤ w.heap.size

theorem WI.put {w : World} {B R n V : Nat} (h : WI w B R n V) (x width : Int) (hx : 0 ≤ x) (h1 : 0 ≤ width) (h2 : width ≤ 30) (hxw : x < 2 ^ width.toNat) (h3 : width ≤ 4096 - n) (hn : n ≤ 4096) :
    Calls Tryd.prog 66 #[.pointer (some ⟨R, 0, none⟩), .int .i64 x, .int .i64 width] w fun e w' => e = .returned .nilIface ∧ WI w' B R (n + width.toNat) (V + x.toNat * 2 ^ n) ∧ Below B w w' := by
  obtain ⟨v, hR, hv, hV, hBR, hB⟩ := h
  refine (wput_yes R B v n V x width 4096 w hR hv hV hB hx h1 h2 hxw h3 (by omega) (by omega)).mono ?_
  rintro e w' ⟨rfl, v', hR', hv', ho, _⟩
  have hb : Below B w w' := ho.below hB (fun k hk => by
    rcases hk with hk | hk
    · omega
    · exact hv.blk hk)
  refine ⟨rfl, ⟨v', hR', hv', ?_, hBR, Nat.le_trans hB hb.size⟩, hb⟩
  refine put_lt n V width.toNat x.toNat hV ?_
  have e : ((2 : Int) ^ width.toNat) = ((2 ^ width.toNat : Nat) : Int) := by simp
  rw [e] at hxw
  omega

theorem SI.put {w : World} {B R n V : Nat} (h : SI w B R n V) (x width : Int) (hx : 0 ≤ x) (h1 : 0 ≤ width) (h2 : width ≤ 30) (hxw : x < 2 ^ width.toNat) (hn : n ≤ 4096) :
    Calls Tryd.prog 68 #[.pointer (some ⟨R, 0, none⟩), .int .i64 x, .int .i64 width] w fun e w' => e = .returned (.tuple #[]) ∧ SI w' B R (n + width.toNat) (V + x.toNat * 2 ^ n) ∧ Below B w w' := by
  obtain ⟨v, hR, hv, hV, hBR, hB⟩ := h
  have e : ((2 : Int) ^ width.toNat) = ((2 ^ width.toNat : Nat) : Int) := by simp
  rw [e] at hxw
  have hp : 2 ^ width.toNat ≤ 2 ^ 30 := Nat.pow_le_pow_right (by omega) (by omega)
  refine (l1put_any R B v n V x width w hR hv hV hB hx (by omega) h1 h2 (by omega)).mono ?_
  rintro e w' ⟨rfl, v', hR', hv', ho, _⟩
  rw [Nat.mod_eq_of_lt (by omega)] at hv'
  have hb : Below B w w' := ho.below hB (fun k hk => by
    rcases hk with hk | hk
    · omega
    · exact hv.blk hk)
  exact ⟨rfl, ⟨v', hR', hv', put_lt n V width.toNat x.toNat hV (by omega), hBR, Nat.le_trans hB hb.size⟩, hb⟩

theorem WI.drewN {w : World} {B R n V : Nat} (h : WI w B R n V) (m : Nat) : WI (w.drewN m) B R n V := h
theorem SI.drewN {w : World} {B R n V : Nat} (h : SI w B R n V) (m : Nat) : SI (w.drewN m) B R n V := h
theorem enc_zero : enc 0 0 = [] := by
  have := enc_len 0 0
  exact List.eq_nil_of_length_eq_zero (by simpa using this)
/-- New bits: nothing. -/
theorem SI.new (w : World) (B : Nat) (hB : B ≤ w.heap.size) : SI (w.alloc (.cells #[.slice none 0 0, .int .i64 0] 36)) B w.heap.size 0 0 := by
  refine ⟨.slice none 0 0, by simpa using heap_alloc_new w (.cells #[.slice none 0 0, .int .i64 0] 36), ?_, by simp, hB, by simp; omega⟩
  rw [enc_zero]
  exact ⟨⟨rfl, .inl ⟨rfl, rfl⟩⟩, by simp⟩
theorem WI.new {w : World} {B R g : Nat} (hR : w.heap[R]? = some (.cells #[.slice (some ⟨g, 0, none⟩) ([] : List Int).length ([] : List Int).length, .int .i64 0, .int .i64 4096] 75 (0, 0))) (ho : Own w B g ([] : List Int).length []) (hBR : B ≤ R) (hB : B ≤ w.heap.size) : WI w B R 0 0 := by
  refine ⟨_, by simpa using hR, ?_, by simp, hBR, hB⟩
  rw [enc_zero]
  exact ho.v
theorem put_at (V0 V x n0 N : Nat) : V0 + V * 2 ^ n0 + x * 2 ^ (n0 + N) = V0 + (V + x * 2 ^ N) * 2 ^ n0 := by
  rw [Nat.add_mul, Nat.add_assoc, Nat.mul_assoc, ← Nat.pow_add, Nat.add_comm N n0]
theorem OwnV.neP {w : World} {B k R : Nat} {v : Value} {zs : List Int} {cur : Array Value} {T : TypeId} (h : OwnV w B v zs) (hk : v.ownBlock = some k) (hR : w.heap[R]? = some (.cells cur T (0, 0))) (hT : T ≠ 5) : k ≠ R := by
  rcases h.1.2 with ⟨rfl, h2⟩ | ⟨g, cap, cur', rfl, hg, hh, r⟩
  · simp [Value.ownBlock] at hk
  · simp [Value.ownBlock] at hk
    subst hk
    rintro rfl
    rw [hR] at hh
    simp at hh
    exact hT hh.2
theorem OwnV.stayP {w w' : World} {B : Nat} {v : Value} {zs : List Int} (h : OwnV w B v zs) (hb : Below w.heap.size w w') : OwnV w' B v zs := by
  rcases h.1.2 with ⟨h1, h2⟩ | ⟨g, cap, cur, rfl, hg, hh, r⟩
  · exact ⟨⟨h.1.1, .inl ⟨h1, h2⟩⟩, h.2⟩
  · exact ⟨⟨h.1.1, .inr ⟨g, cap, cur, rfl, hg, (hb.block g (Array.getElem?_eq_some_iff.1 hh).1).trans hh, r⟩⟩, h.2⟩
theorem WI.stay {w w' : World} {B R n V : Nat} (h : WI w B R n V) (hb : Below w.heap.size w w') : WI w' B R n V := by
  obtain ⟨v, h1, h2, h3, h4, h5⟩ := h
  exact ⟨v, (hb.block R (Array.getElem?_eq_some_iff.1 h1).1).trans h1, h2.stayP hb, h3, h4, Nat.le_trans h5 hb.size⟩
theorem SI.stay {w w' : World} {B R n V : Nat} (h : SI w B R n V) (hb : Below w.heap.size w w') : SI w' B R n V := by
  obtain ⟨v, h1, h2, h3, h4, h5⟩ := h
  exact ⟨v, (hb.block R (Array.getElem?_eq_some_iff.1 h1).1).trans h1, h2.stayP hb, h3, h4, Nat.le_trans h5 hb.size⟩
/-- A put leaves a block of another type as it was. -/
theorem WI.putG {w : World} {B R n V : Nat} (h : WI w B R n V) {g : Nat} {cur : Array Value} {T : TypeId} (hg : w.heap[g]? = some (.cells cur T (0, 0))) (hT : T ≠ 5) (hgR : g ≠ R) (x width : Nat) (h2 : width ≤ 30) (hxw : x < 2 ^ width) (h3 : n + width ≤ 4096) :
    Calls Tryd.prog 66 #[.pointer (some ⟨R, 0, none⟩), .int .i64 (x : Int), .int .i64 (width : Int)] w fun e w' => e = .returned .nilIface ∧ WI w' B R (n + width) (V + x * 2 ^ n) ∧ Below B w w' ∧ w'.heap[g]? = some (.cells cur T (0, 0)) := by
  obtain ⟨v, hR, hv, hV, hBR, hB⟩ := h
  have hxi : (x : Int) < 2 ^ ((width : Int)).toNat := by
    have e : ((2 : Int) ^ width) = ((2 ^ width : Nat) : Int) := by simp
    rw [Int.toNat_natCast, e]
    exact Int.ofNat_lt.2 hxw
  refine (wput_yes R B v n V x width 4096 w hR hv hV hB (by omega) (by omega) (by omega) hxi (by omega) (by omega) (by omega)).mono ?_
  rintro e w' ⟨rfl, v', hR', hv', ho, _⟩
  have hb : Below B w w' := ho.below hB (fun k hk => by
    rcases hk with hk | hk
    · omega
    · exact hv.blk hk)
  simp only [Int.toNat_natCast] at hR' hv'
  refine ⟨rfl, ⟨v', hR', hv', put_lt n V width x hV hxw, hBR, Nat.le_trans hB hb.size⟩, hb, ?_⟩
  refine (ho.block g (Array.getElem?_eq_some_iff.1 hg).1 ?_).trans hg
  rintro (hk | hk)
  · exact hgR hk
  · exact hv.neP hk hg hT rfl
theorem OwI.blockG {w w' : World} {B g cap : Nat} {zs : List Int} (h : OwI w B g cap zs) : ∃ cur, w.heap[g]? = some (.cells cur 3 (0, 0)) ∧ (w'.heap[g]? = some (.cells cur 3 (0, 0)) → OwI w' B g cap zs) := by
  rcases h.1.2 with ⟨h', _⟩ | ⟨g', cap', cur, h', hg, hh, r⟩
  · simp at h'
  · have e : g' = g := by simp at h'; exact h'.1.symm
    subst e
    exact ⟨cur, hh, fun hk => ⟨⟨h.1.1, .inr ⟨g', cap', cur, h', hg, hk, r⟩⟩, h.2⟩⟩
theorem below_dH {B : Nat} {a b : World} (h : Below B a b) (n : Nat) : Below B a (b.drewN n) := ⟨h.os, h.tape, h.output, h.size, h.block⟩
theorem turned (c L : Nat) (h : L ≤ 12) : rvp (c % 65536) 16 16 / 2 ^ (16 - L) = rvp c L L := by
  rw [rvp_shift _ L (by omega), show 65536 = 2 ^ 16 from rfl, rvp_mod c L 16 (by omega)]

set_option maxHeartbeats 1600000 in
theorem putCode_yes (w : World) (B R n V c L : Nat) (h : WI w B R n V) (h1 : 1 ≤ L) (h2 : L ≤ 12) (hc : c ≤ 8192000) (hn : n + L ≤ 4096) :
    Calls Tryd.prog 62 #[.pointer (some ⟨R, 0, none⟩), .int .i64 (c : Nat), .int .i64 (L : Nat)] w fun e w' => e = .returned .nilIface ∧ WI w' B R (n + L) (V + rvp c L L * 2 ^ n) ∧ Below B w w' := by
  have H : Hid (WI w B R n V) := h
  have HT : Hid (rvp (c % 65536) 16 16 / 2 ^ (16 - L) = rvp c L L) := turned c L h2
  have hlt := rvp_lt (c % 65536) 16 16
  have hlt2 := rvp_lt c L L
  have e1 : IntKind.u16.wrap (c : Int) = ((c % 65536 : Nat) : Int) := by
    show (c : Int) % 65536 = _
    omega
  have hc16 : c % 65536 < 65536 := by omega
  clear h
  generalize c % 65536 = d at *
  go_enter Tryd.func62, Tryd.ntmps62
  go_wp2_with fail
  refine (rev16_rvp d w hc16).mono ?_
  rintro e w1 ⟨rfl, m1, rfl⟩
  generalize hr : rvp d 16 16 = r at *
  clear hr
  go_wp2_with fail
  have e2 : wrap64 ((r : Int) / 2 ^ (16 - L)) = ((rvp c L L : Nat) : Int) := by
    rw [show ((r : Int) / 2 ^ (16 - L)) = ((r / 2 ^ (16 - L) : Nat) : Int) from by simp, HT.out]
    have h12 : 2 ^ L ≤ 2 ^ 12 := Nat.pow_le_pow_right (by omega) h2
    exact IntWalk.wrap64_in _ (by omega)
  rw [e2]
  have hxw : ((rvp c L L : Nat) : Int) < 2 ^ ((L : Nat) : Int).toNat := by
    have e : ((2 : Int) ^ ((L : Nat) : Int).toNat) = ((2 ^ L : Nat) : Int) := by simp
    rw [e]
    omega
  refine ((H.out.drewN m1).put ((rvp c L L : Nat) : Int) ((L : Nat) : Int) (by omega) (by omega) (by omega) hxw (by omega) (by omega)).mono ?_
  rintro e w2 ⟨rfl, hw2, hb2⟩
  have HW2 : Hid (WI w2 B R (n + L) (V + rvp c L L * 2 ^ n)) := by simpa [Hid] using hw2
  have HB2 : Hid (Below B w w2) := (below_dH (Below.refl B w) m1).trans hb2
  clear hw2 hb2 hxw e2 HT
  go_wp2
  go_ret
  exact ⟨rfl, HW2.out, HB2.out⟩

set_option maxHeartbeats 1600000 in
theorem putCode_yesG (w : World) (B R n V c L g : Nat) (cur : Array Value) (T : TypeId) (h : WI w B R n V) (hg : w.heap[g]? = some (.cells cur T (0, 0))) (hT : T ≠ 5) (hgR : g ≠ R) (h1 : 1 ≤ L) (h2 : L ≤ 12) (hc : c ≤ 8192000) (hn : n + L ≤ 4096) :
    Calls Tryd.prog 62 #[.pointer (some ⟨R, 0, none⟩), .int .i64 (c : Nat), .int .i64 (L : Nat)] w fun e w' => e = .returned .nilIface ∧ WI w' B R (n + L) (V + rvp c L L * 2 ^ n) ∧ Below B w w' ∧ w'.heap[g]? = some (.cells cur T (0, 0)) := by
  have H : Hid (WI w B R n V ∧ w.heap[g]? = some (.cells cur T (0, 0))) := ⟨h, hg⟩
  have HT : Hid (rvp (c % 65536) 16 16 / 2 ^ (16 - L) = rvp c L L) := turned c L h2
  have hlt := rvp_lt (c % 65536) 16 16
  have hlt2 := rvp_lt c L L
  have e1 : IntKind.u16.wrap (c : Int) = ((c % 65536 : Nat) : Int) := by
    show (c : Int) % 65536 = _
    omega
  have hc16 : c % 65536 < 65536 := by omega
  clear h hg
  generalize c % 65536 = d at *
  go_enter Tryd.func62, Tryd.ntmps62
  go_wp2_with fail
  refine (rev16_rvp d w hc16).mono ?_
  rintro e w1 ⟨rfl, m1, rfl⟩
  generalize hr : rvp d 16 16 = r at *
  clear hr
  go_wp2_with fail
  have e2 : wrap64 ((r : Int) / 2 ^ (16 - L)) = ((rvp c L L : Nat) : Int) := by
    rw [show ((r : Int) / 2 ^ (16 - L)) = ((r / 2 ^ (16 - L) : Nat) : Int) from by simp, HT.out]
    have h12 : 2 ^ L ≤ 2 ^ 12 := Nat.pow_le_pow_right (by omega) h2
    exact IntWalk.wrap64_in _ (by omega)
  rw [e2]
  refine ((H.out.1.drewN m1).putG (w := w.drewN m1) H.out.2 hT hgR (rvp c L L) L (by omega) hlt2 hn).mono ?_
  rintro e w2 ⟨rfl, hw2, hb2, hg2⟩
  have HW2 : Hid (WI w2 B R (n + L) (V + rvp c L L * 2 ^ n)) := by simpa [Hid] using hw2
  have HB2 : Hid (Below B w w2 ∧ w2.heap[g]? = some (.cells cur T (0, 0))) := ⟨(below_dH (Below.refl B w) m1).trans hb2, hg2⟩
  clear hw2 hb2 hg2 e2 HT
  go_wp2
  go_ret
  exact ⟨rfl, HW2.out, HB2.out.1, HB2.out.2⟩

/-- Bits and number of the first k symbols of a text. -/
def hN (ls ts : List Int) : Nat → Nat
  | 0 => 0
  | k + 1 => hN ls ts k + zN ls (ts.getD k 0)
def hV (ls cs ts : List Int) : Nat → Nat
  | 0 => 0
  | k + 1 => hV ls cs ts k + rvp (cs.getD (ts.getD k 0).toNat 0).toNat (zN ls (ts.getD k 0)) (zN ls (ts.getD k 0)) * 2 ^ hN ls ts k
theorem hN_le {ls ts : List Int} (h : ∀ z ∈ ls, 0 ≤ z ∧ z ≤ 12) (k : Nat) : hN ls ts k ≤ 12 * k := by
  induction k with
  | zero => simp [hN]
  | succ k ih =>
    have h1 : zN ls (ts.getD k 0) ≤ 12 := by
      unfold zN
      by_cases hi : (ts.getD k 0).toNat < ls.length
      · have := h _ (getD_mem hi); omega
      · rw [List.getD_eq_getElem?_getD, List.getElem?_eq_none (by omega)]; simp
    simp only [hN]
    omega
end Go.Proofs.YtkjebacpmmfflaaDoor
