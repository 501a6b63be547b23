/-
  Drawn counts.
-/
import Derived.Test.YtkjebacpmmfflaaDoorWCells
import Derived.Test.YtkjebacpmmfflaaDoorIBase
import Derived.Laws.BitsAllLaws
import Derived.BigQuiet
import Derived.Test.YtkjebacpmmfflaaDoorILensC
namespace Go.Proofs.YtkjebacpmmfflaaDoor
open Go.RowKit
set_option linter.unusedVariables false

theorem xor8 (a b : Int) : 0 ≤ bits .xor .u8 a b ∧ bits .xor .u8 a b ≤ 255 := by
  have h : bits .xor .u8 a b = IntKind.u8.wrap ((BitVec.ofInt 8 a ^^^ BitVec.ofInt 8 b).toNat : Int) := rfl
  have h2 := (BitVec.ofInt 8 a ^^^ BitVec.ofInt 8 b).isLt
  rw [h, IntWalk.u8_in _ (by omega)]
  omega
/-- Bits at X: the bytes ys of the call's own at g, and a number. -/
structure BX (w : World) (X g c L : Nat) (N : Nat) : Prop where
  hX : w.heap[X]? = some (.cells #[.slice (some ⟨g, 0, none⟩) L c, .int .i64 N] 36 (0, 0))
  own : ∃ ys : List Int, ys.length = L ∧ Own w X g c ys
theorem BX.only {w w' : World} {X g c L N : Nat} {S : Nat → Prop} (h : BX w X g c L N) (ho : Only S w w') (hs : ∀ k, X ≤ k → ¬ S k) : BX w' X g c L N := by
  obtain ⟨hX, ys, hl, ho'⟩ := h
  exact ⟨(ho.block X (Array.getElem?_eq_some_iff.1 hX).1 (hs X (Nat.le_refl _))).trans hX, ys, hl, ho'.only ho (hs g ho'.lt.1)⟩
theorem BX.ne {w : World} {X g c L N : Nat} (h : BX w X g c L N) : g ≠ X ∧ X ≤ g ∧ g < w.heap.size ∧ X < w.heap.size := by
  obtain ⟨hX, ys, hl, ho'⟩ := h
  exact ⟨ho'.ne hX (by decide), ho'.lt.1, ho'.lt.2, (Array.getElem?_eq_some_iff.1 hX).1⟩
theorem BX.byte {w : World} {X g c L N : Nat} (h : BX w X g c L N) (i : Nat) (hi : i < L) : ∃ z, w.cell? ⟨g, i, none⟩ = some (.int .u8 z) := by
  obtain ⟨hX, ys, hl, ho'⟩ := h
  exact ⟨_, ho'.cell i (by omega)⟩
theorem BX.frz {w : World} {X g c L N : Nat} (h : BX w X g c L N) (i : Nat) : w.frozen? ⟨g, i, none⟩ = false := by
  obtain ⟨hX, ys, hl, ho'⟩ := h
  exact ho'.frozen i
theorem BX.store {w : World} {X g c L N : Nat} (h : BX w X g c L N) (i : Nat) (z : Int) (hz : 0 ≤ z ∧ z ≤ 255) : BX (w.setCell ⟨g, i, none⟩ (.int .u8 z)) X g c L N := by
  have hne := h.ne
  obtain ⟨hX, ys, hl, ho'⟩ := h
  refine ⟨?_, ys.set i z, by simpa using hl, ho'.store i z hz⟩
  rw [Below.heap_setCell _ _ _ _ (by simpa using hne.1.symm)]
  exact hX
theorem and255 (y : Int) : 0 ≤ bits .and .i64 y 255 ∧ bits .and .i64 y 255 ≤ 255 := by
  have h : bits .and .i64 y 255 = IntKind.i64.wrap ((BitVec.ofInt 64 y &&& BitVec.ofInt 64 255).toNat : Int) := rfl
  rw [h, BitVec.toNat_and]
  have h2 : (BitVec.ofInt 64 y).toNat &&& (BitVec.ofInt 64 255).toNat ≤ 255 := Nat.le_trans Nat.and_le_right (by decide)
  generalize (BitVec.ofInt 64 y).toNat &&& (BitVec.ofInt 64 255).toNat = q at *
  rw [IntWalk.i64_in _ (by omega)]
  omega

/-- A cursor at R over the bytes that lie at a. -/
def Cur (w : World) (B R : Nat) (a : Option Addr) (L cap : Nat) : Prop := ∃ i h : Int, w.heap[R]? = some (.cells #[.slice a L cap, .int .i64 i, .int .i64 h] 91 (0, 0)) ∧ 0 ≤ i ∧ i ≤ L ∧ B ≤ R ∧ B ≤ w.heap.size
theorem cellC {w : World} {R j : Nat} {cur : Array Value} {T : TypeId} {v : Value} (hR : w.heap[R]? = some (.cells cur T (0, 0))) (hv : cur[j]? = some v) : w.cell? ⟨R, j, none⟩ = some v := by
  rw [cell_of_row w R j cur T (0, 0) hR]; exact hv
theorem Cur.only {w w' : World} {B R : Nat} {a : Option Addr} {L cap : Nat} {S : Nat → Prop} (h : Cur w B R a L cap) (ho : Only S w w') (hs : ¬ S R) : Cur w' B R a L cap := by
  obtain ⟨i, x, hR, h1, h2, h3, h4⟩ := h
  exact ⟨i, x, (ho.block R (Array.getElem?_eq_some_iff.1 hR).1 hs).trans hR, h1, h2, h3, Nat.le_trans h4 ho.size⟩
theorem Cur.lt {w : World} {B R : Nat} {a : Option Addr} {L cap : Nat} (h : Cur w B R a L cap) : B ≤ R ∧ R < w.heap.size := by
  obtain ⟨i, x, hR, h1, h2, h3, h4⟩ := h
  exact ⟨h3, (Array.getElem?_eq_some_iff.1 hR).1⟩
theorem only_below {w w' : World} {B R : Nat} (h : Only (fun k => k = R) w w') (hB : B ≤ w.heap.size) (hR : B ≤ R) : Below B w w' := h.below hB (fun k hk => by rw [hk]; exact hR)

set_option maxHeartbeats 1600000 in
theorem l1Byte_any (R B : Nat) (a : Option Addr) (bs : List Int) (cap : Nat) (w0 w : World) (hb : Byt w0 a bs) (hB : w0.heap.size = B) (hl : bs.length ≤ maxLen) (hbel : Below B w0 w) (hc : Cur w B R a bs.length cap) :
    Calls Tryd.prog 69 #[.pointer (some ⟨R, 0, none⟩)] w fun e w' => (∃ x : Int, 0 ≤ x ∧ x ≤ 255 ∧ e = .returned (.int .i64 x)) ∧ Cur w' B R a bs.length cap ∧ Only (fun k => k = R) w w' := by
  obtain ⟨i, h, hR, hi0, hi1, hBR, hBw⟩ := hc
  have hRl : R < w.heap.size := (Array.getElem?_eq_some_iff.1 hR).1
  have c0 := cellC (j := 0) hR rfl
  have c1 := cellC (j := 1) hR rfl
  have c2 := cellC (j := 2) hR rfl
  have f2 : w.frozen? ⟨R, 2, none⟩ = false := frozen_of_row w R 2 _ _ hR
  have HR : Hid (w.heap[R]? = some (.cells #[.slice a bs.length cap, .int .i64 i, .int .i64 h] 91 (0, 0))) := hR
  clear hR
  unfold maxLen at hl
  go_enter Tryd.func69, Tryd.ntmps69
  go_wp2
  clear c0 c1 c2 f2
  generalize wrap64 (wrap64 (h * 6364136223846793005) + 1442695040888963407) = h2
  have hR2 : (w.setCell ⟨R, 2, none⟩ (.int .i64 h2)).heap[R]? = some (.cells #[.slice a bs.length cap, .int .i64 i, .int .i64 h2] 91 (0, 0)) := by
    rw [heap_setCell_same _ R 2 _ _ _ HR.out]; simp
  have hO : Only (fun k => k = R) w (w.setCell ⟨R, 2, none⟩ (.int .i64 h2)) := Only.setCell (Only.refl (fun k => k = R) w) (p := ⟨R, 2, none⟩) (.inl rfl) _
  generalize w.setCell ⟨R, 2, none⟩ (.int .i64 h2) = W at *
  have hbW : Below B w0 W := hbel.trans (only_below hO hBw hBR)
  have c0 := cellC (j := 0) hR2 rfl
  have c1 := cellC (j := 1) hR2 rfl
  have c2 := cellC (j := 2) hR2 rfl
  have f1 : W.frozen? ⟨R, 1, none⟩ = false := frozen_of_row W R 1 _ _ hR2
  have HR2 : Hid (W.heap[R]? = some (.cells #[.slice a bs.length cap, .int .i64 i, .int .i64 h2] 91 (0, 0))) := hR2
  have HO : Hid (Only (fun k => k = R) w W) := hO
  have hsW := hO.size
  clear hR2 hO HR
  generalize hx : bits .and .i64 (bits .xor .i64 (h2 / 2 ^ 33) (h2 / 2 ^ 45)) 255 = x0
  by_cases hlt : i < bs.length
  · obtain ⟨q, rfl⟩ := Int.eq_ofNat_of_zero_le hi0
    obtain ⟨b1, o1, rfl, hb1, hc1⟩ := (hb.below hbW (by omega)).len_pos q (by omega)
    have hs1 := hc1 q (by omega)
    have hz := getD_rng hb.1 q
    clear hc1
    generalize bs.getD q 0 = z at *
    go_wp2
    go_quiet (fail)
    go_wp2
    go_quiet (fail)
    go_wp2
    go_quiet (fail)
    go_wp2
    go_ret
    have hB2 : B ≤ W.heap.size := by omega
    refine ⟨⟨_, (and255 _).1, (and255 _).2, rfl⟩, ⟨(q : Int) + 1, h2, by rw [heap_setCell_same _ R 1 _ _ _ (by exact HR2.out)]; simp, by omega, by omega, hBR, ?_⟩, ?_⟩
    · simp [World.setCell]; exact hB2
    · refine Only.setCell (S := fun k => k = R) (p := ⟨R, 1, none⟩) ?_ (.inl rfl) _
      have H := HO.out
      exact ⟨H.os, H.tape, H.output, H.size, H.block⟩
  · go_wp2
    go_quiet (fail)
    go_wp2
    go_quiet (fail)
    go_wp2
    go_ret
    have H := HO.out
    exact ⟨⟨_, (and255 _).1, (and255 _).2, rfl⟩, ⟨i, h2, HR2.out, hi0, hi1, hBR, by have := hsW; show B ≤ W.heap.size; omega⟩, ⟨H.os, H.tape, H.output, H.size, H.block⟩⟩
/-- What a draw finds and leaves. -/
structure Dr (w0 w : World) (B R : Nat) (a : Option Addr) (bs : List Int) (cap : Nat) : Prop where
  byt : Byt w0 a bs
  hB : w0.heap.size = B
  hl : bs.length ≤ maxLen
  bel : Below B w0 w
  cur : Cur w B R a bs.length cap
theorem Dr.step {w0 w w' : World} {B R : Nat} {a : Option Addr} {bs : List Int} {cap : Nat} (h : Dr w0 w B R a bs cap) (hc : Cur w' B R a bs.length cap) (ho : Only (fun k => k = R) w w') : Dr w0 w' B R a bs cap :=
  ⟨h.byt, h.hB, h.hl, h.bel.trans (only_below ho (by have := h.bel.size; have := h.hB; omega) h.cur.lt.1), hc⟩
theorem Dr.byte {w0 w : World} {B R : Nat} {a : Option Addr} {bs : List Int} {cap : Nat} (h : Dr w0 w B R a bs cap) :
    Calls Tryd.prog 69 #[.pointer (some ⟨R, 0, none⟩)] w fun e w' => (∃ x : Int, 0 ≤ x ∧ x ≤ 255 ∧ e = .returned (.int .i64 x)) ∧ Dr w0 w' B R a bs cap ∧ Only (fun k => k = R) w w' := by
  refine (l1Byte_any R B a bs cap w0 w h.byt h.hB h.hl h.bel h.cur).mono ?_
  rintro e w' ⟨hx, hc, ho⟩
  exact ⟨hx, h.step hc ho, ho⟩
/-- Another part of the heap has turned; the cursor stays. -/
theorem Dr.other {w0 w w' : World} {B R : Nat} {a : Option Addr} {bs : List Int} {cap : Nat} {S : Nat → Prop} (h : Dr w0 w B R a bs cap) (ho : Only S w w') (hs : ¬ S R) (hb : ∀ k, S k → B ≤ k) : Dr w0 w' B R a bs cap :=
  ⟨h.byt, h.hB, h.hl, h.bel.trans (ho.below (by have := h.bel.size; have := h.hB; omega) hb), h.cur.only ho hs⟩

set_option maxHeartbeats 800000 in
theorem Dr.below {w0 w : World} {B R : Nat} {a : Option Addr} {bs : List Int} {cap : Nat} (h : Dr w0 w B R a bs cap) (n : Int) (hn : 0 < n) (hn2 : n ≤ 256) :
    Calls Tryd.prog 52 #[.pointer (some ⟨R, 0, none⟩), .int .i64 n] w fun e w' => (∃ x : Int, 0 ≤ x ∧ x < n ∧ e = .returned (.int .i64 x)) ∧ Dr w0 w' B R a bs cap ∧ Only (fun k => k = R) w w' := by
  have H : Hid (Dr w0 w B R a bs cap) := h
  clear h
  go_enter Tryd.func52, Tryd.ntmps52
  go_wp2_with fail
  refine H.out.byte.mono ?_
  rintro e w1 ⟨⟨x, h1, h2, rfl⟩, hd, ho⟩
  have HD : Hid _ := hd
  have HO : Hid _ := ho
  clear hd ho H
  go_wp2
  go_ret
  refine ⟨⟨_, ?_, ?_, rfl⟩, HD.out, HO.out⟩
  · exact Int.emod_nonneg _ (by omega)
  · exact Int.emod_lt_of_pos _ hn

set_option maxHeartbeats 800000 in
theorem Dr.once {w0 w : World} {B R : Nat} {a : Option Addr} {bs : List Int} {cap : Nat} (h : Dr w0 w B R a bs cap) (n : Int) (hn : 0 < n) (hn2 : n ≤ 256) :
    Calls Tryd.prog 35 #[.pointer (some ⟨R, 0, none⟩), .int .i64 n] w fun e w' => (∃ b : Bool, e = .returned (.bool b)) ∧ Dr w0 w' B R a bs cap ∧ Only (fun k => k = R) w w' := by
  have H : Hid (Dr w0 w B R a bs cap) := h
  clear h
  go_enter Tryd.func35, Tryd.ntmps35
  go_wp2_with fail
  refine (H.out.below n hn hn2).mono ?_
  rintro e w1 ⟨⟨x, h1, h2, rfl⟩, hd, ho⟩
  have HD : Hid _ := hd
  have HO : Hid _ := ho
  clear hd ho H
  go_wp2
  go_ret
  exact ⟨⟨_, rfl⟩, HD.out, HO.out⟩

set_option maxHeartbeats 800000 in
theorem Dr.pick {w0 w : World} {B R : Nat} {a : Option Addr} {bs : List Int} {cap : Nat} (h : Dr w0 w B R a bs cap) (b c : Nat) (l : List Int) (hl : Ins w (some ⟨b, 0, none⟩) l) (hb : b ≠ R) (h0 : 0 < l.length) (h1 : l.length ≤ 200) :
    Calls Tryd.prog 28 #[.pointer (some ⟨R, 0, none⟩), .slice (some ⟨b, 0, none⟩) l.length c] w fun e w' => (∃ x ∈ l, e = .returned (.int .i64 x)) ∧ Dr w0 w' B R a bs cap ∧ Only (fun k => k = R) w w' := by
  have H : Hid (Dr w0 w B R a bs cap) := h
  have HLL : Hid (Ins w (some ⟨b, 0, none⟩) l) := hl
  clear h hl
  generalize hq : l.length = m at *
  have HQ : Hid (l.length = m) := hq
  clear hq
  go_enter Tryd.func28, Tryd.ntmps28
  go_wp2_with fail
  refine (H.out.below (m : Nat) (by omega) (by omega)).mono ?_
  rintro e w1 ⟨⟨x, h2, h3, rfl⟩, hd, ho⟩
  obtain ⟨j, rfl⟩ := Int.eq_ofNat_of_zero_le h2
  obtain ⟨b', o', he, hbl, hc⟩ := HLL.out.len_pos j (by rw [HQ.out]; omega)
  obtain ⟨rfl, rfl⟩ : b = b' ∧ 0 = o' := by simpa using he
  have hs := ho.cell hbl (by simpa using hb) (hc j (by rw [HQ.out]; omega))
  simp only [Nat.zero_add] at hs
  have HMM : Hid (l.getD j 0 ∈ l) := by
    unfold Hid
    rw [List.getD_eq_getElem?_getD, List.getElem?_eq_getElem (by rw [HQ.out]; omega)]
    exact List.getElem_mem _
  have HD : Hid _ := hd
  have HO : Hid _ := ho
  clear hd ho H hc he HLL
  generalize l.getD j 0 = y at *
  go_wp2
  go_ret
  exact ⟨⟨y, HMM.out, rfl⟩, HD.out, HO.out⟩

set_option maxHeartbeats 1600000 in
theorem l1New_any (a : Option Addr) (bs : List Int) (cap : Nat) (w : World) (hb : Byt w a bs) (hl : bs.length ≤ maxLen) :
    Calls Tryd.prog 26 #[.slice a bs.length cap] w fun e w' => e = .returned (.pointer (some ⟨w.heap.size, 0, none⟩)) ∧ Dr w w' w.heap.size w.heap.size a bs cap := by
  have HLM : Hid (bs.length ≤ maxLen) := hl
  unfold maxLen at hl
  generalize hlen : bs.length = n at *
  have HL : Hid (bs.length = n) := hlen
  clear hlen
  go_enter Tryd.func26, Tryd.ntmps26
  go_wp2
  go_loop [3, 4] (fun x i => ∃ (k : Nat) (h : Int), k ≤ n ∧ k ≤ 4000 ∧ i = .int .i64 k ∧ x = .int .i64 h) (fun _ i => 4000 - (intOf i).toNat)
  case atStart => exact ⟨0, _, Nat.zero_le _, by omega, rfl, rfl⟩
  case round =>
    obtain ⟨k, h, hk, hk4, rfl, rfl⟩ := hrel
    by_cases hlt : k < n
    · by_cases h4 : k < 4000
      · obtain ⟨b1, o1, rfl, hb1, hc1⟩ := hb.len_pos k (by rw [HL.out]; exact hlt)
        have hs1 := hc1 k (by rw [HL.out]; exact hlt)
        have hz := getD_rng hb.1 k
        clear hc1
        generalize bs.getD k 0 = z at *
        have hd4 : decide ((k : Int) < 4000) = true := by simp; omega
        have H4 : Hid (k < 4000) := h4
        have HK4 : Hid (k ≤ 4000) := hk4
        clear h4 hk4
        go_wp2
        go_round
        case rel => exact ⟨k + 1, _, by omega, by have := H4.out; omega, by go_num, rfl⟩
        case measure => have := H4.out; simp [intOf]; omega
      · have hd4 : decide ((k : Int) < 4000) = false := by simp; omega
        go_wp2
        go_ret
        exact ⟨rfl, hb, rfl, by rw [HL.out]; exact HLM.out, (Below.refl _ _).alloc (Nat.le_refl _) _, 0, h, by rw [HL.out]; exact heap_alloc_new w _, by omega, by omega, Nat.le_refl _, by simp⟩
    · have hkn : k = n := by omega
      subst hkn
      go_wp2
      go_ret
      exact ⟨rfl, hb, rfl, by rw [HL.out]; exact HLM.out, (Below.refl _ _).alloc (Nat.le_refl _) _, 0, h, by rw [HL.out]; exact heap_alloc_new w _, by omega, by omega, Nat.le_refl _, by simp⟩
theorem ins_newN (W : World) (T : TypeId) (zs : List Int) (hr : ∀ z ∈ zs, -9223372036854775808 ≤ z ∧ z ≤ 9223372036854775807) : Ins (W.alloc (.cells (zs.map (Value.int .i64)).toArray T)) (some ⟨W.heap.size, 0, none⟩) zs := by
  refine ⟨hr, fun hp => ⟨W.heap.size, 0, rfl, by simp, fun i hi => ?_⟩⟩
  rw [Nat.zero_add, cell_of_row _ W.heap.size i _ T (0, 0) (heap_alloc_new W _)]
  simp [hi]
/-- A row of n counts at g, each at most m. -/
def Row (w : World) (B g n : Nat) (m : Int) : Prop := ∃ q : List Int, OwI w B g n q ∧ q.length = n ∧ ∀ z ∈ q, 0 ≤ z ∧ z ≤ m
theorem Row.only {w w' : World} {B g n : Nat} {m : Int} {S : Nat → Prop} (h : Row w B g n m) (ho : Only S w w') (hs : ¬ S g) : Row w' B g n m := by
  obtain ⟨q, h1, h2, h3⟩ := h
  exact ⟨q, h1.only ho hs, h2, h3⟩
theorem Row.store {w : World} {B g n : Nat} {m : Int} (h : Row w B g n m) (i : Nat) (z : Int) (hz : 0 ≤ z ∧ z ≤ m) (hm : m ≤ 1000000) : Row (w.setCell ⟨g, i, none⟩ (.int .i64 z)) B g n m := by
  obtain ⟨q, h1, h2, h3⟩ := h
  refine ⟨q.set i z, h1.store i z (by omega), by simpa using h2, fun y hy => ?_⟩
  rcases List.mem_or_eq_of_mem_set hy with hy | rfl
  · exact h3 y hy
  · exact hz
theorem Row.cell {w : World} {B g n : Nat} {m : Int} (h : Row w B g n m) (i : Nat) (hi : i < n) : ∃ v, w.cell? ⟨g, i, none⟩ = some (.int .i64 v) := by
  obtain ⟨q, h1, h2, h3⟩ := h
  exact ⟨_, h1.cell i (by omega)⟩
theorem Row.frozen {w : World} {B g n : Nat} {m : Int} (h : Row w B g n m) (i : Nat) : w.frozen? ⟨g, i, none⟩ = false := by
  obtain ⟨q, h1, h2, h3⟩ := h
  exact h1.frozen i
theorem Row.lt {w : World} {B g n : Nat} {m : Int} (h : Row w B g n m) : B ≤ g ∧ g < w.heap.size := by
  obtain ⟨q, h1, h2, h3⟩ := h
  exact h1.lt

set_option maxHeartbeats 3200000 in
theorem Dr.counts {w0 w : World} {B R : Nat} {a : Option Addr} {bs : List Int} {cap : Nat} (h : Dr w0 w B R a bs cap) :
    Calls Tryd.prog 27 #[.pointer (some ⟨R, 0, none⟩)] w fun e w' => ∃ n g : Nat, e = .returned (.slice (some ⟨g, 0, none⟩) n n) ∧ 1 ≤ n ∧ n ≤ 12 ∧ Row w' w.heap.size g n 1000 ∧ Dr w0 w' B R a bs cap ∧ Only (fun k => k = R) w w' := by
  obtain ⟨i0, hi, hz0, hz1, hz2⟩ := info_parts Tryd.infoI64
  have H : Hid (Dr w0 w B R a bs cap) := h
  have hRB := h.cur.lt
  have hwB : B ≤ w.heap.size := by omega
  clear h
  go_enter Tryd.func27, Tryd.ntmps27
  go_wp2_with fail
  refine (H.out.below 12 (by omega) (by omega)).mono ?_
  rintro e w1 ⟨⟨N, hN1, hN2, rfl⟩, hd, ho⟩
  obtain ⟨n, rfl⟩ := Int.eq_ofNat_of_zero_le hN1
  have HD : Hid (Dr w0 w1 B R a bs cap) := hd
  have HO : Hid (Only (fun k => k = R) w w1) := ho
  have hn : n < 12 := by omega
  have hs1 := ho.size
  clear hd ho H hN1 hN2
  have e1 : (1 : Int) + (n : Nat) = ((1 + n : Nat) : Int) := by simp
  have hn1 : 1 + n ≤ 12 := by omega
  have hn2 : 1 ≤ 1 + n := by omega
  generalize 1 + n = m at *
  go_wp2_with (at_make; refine wpList_make_full _ rfl _ _ 23 rfl w.heap.size 3 i0 (.int .i64 0) 1 Tryd.underlying23 hi hz0 hz1 .i64 .i64 _ _ m (by simp [Act.eval]; try omega) rfl rfl rfl (by rw [hz2]; omega) (by unfold maxLen; omega) hs1 ?_; intro w2 hown hgrow)
  have honly2 : Only (fun _ => False) w1 w2 := Only.grown (Only.refl _ w1) hgrow (fun k hk => by cases hk)
  have HR2 : Hid (Row w2 w.heap.size w1.heap.size m 1000) := by
    refine ⟨List.replicate m 0, ⟨?_, by intro z hz; simp at hz; omega⟩, by simp, by intro z hz; simp at hz; omega⟩
    rw [made_zeroI] at hown
    simpa using hown
  have HD2 : Hid (Dr w0 w2 B R a bs cap) := HD.out.other honly2 (by simp) (by simp)
  have HO2 : Hid (Only (fun k => k = R) w w2) := HO.out.trans (honly2.mono (by simp))
  clear hown hgrow honly2 hi hz0 hz1 hz2 HD HO e1 hn
  generalize w1.heap.size = g at *
  go_loopw [4] (fun i wr => ∃ k : Nat, k ≤ m ∧ i = .int .i64 k ∧ Row wr w.heap.size g m 1000 ∧ Dr w0 wr B R a bs cap ∧ Only (fun k => k = R) w wr) (fun i _ => m - (intOf i).toNat)
  case atStart => exact ⟨0, Nat.zero_le _, rfl, HR2.out, HD2.out, HO2.out⟩
  case round =>
    clear HR2 HD2 HO2
    obtain ⟨k, hk, rfl, hr, hd, ho⟩ := hrel
    have HR : Hid (Row wr w.heap.size g m 1000) := hr
    have HD : Hid (Dr w0 wr B R a bs cap) := hd
    have HO : Hid (Only (fun k => k = R) w wr) := ho
    clear hr hd ho
    by_cases hlt : k < m
    · go_wp2_with fail
      refine (HD.out.once 4 (by omega) (by omega)).mono ?_
      rintro e w3 ⟨⟨b, rfl⟩, hd3, ho3⟩
      have HR3 : Hid (Row w3 w.heap.size g m 1000) := HR.out.only ho3 (by omega)
      have HD3 : Hid (Dr w0 w3 B R a bs cap) := hd3
      have HO3 : Hid (Only (fun k => k = R) w w3) := HO.out.trans ho3
      clear hd3 ho3 HR HD HO
      cases b
      · go_wp2_with fail
        refine (HD3.out.below 90 (by omega) (by omega)).mono ?_
        rintro e w4 ⟨⟨x, hx1, hx2, rfl⟩, hd4, ho4⟩
        have HR4 : Hid (Row w4 w.heap.size g m 1000) := HR3.out.only ho4 (by omega)
        have HD4 : Hid (Dr w0 w4 B R a bs cap) := hd4
        have HO4 : Hid (Only (fun k => k = R) w w4) := HO3.out.trans ho4
        clear hd4 ho4 HR3 HD3 HO3
        have HIN : Hid (∀ T, Ins (w4.alloc (.cells #[.int .i64 1, .int .i64 1, .int .i64 2, .int .i64 3, .int .i64 10, .int .i64 1000, .int .i64 x] T)) (some ⟨w4.heap.size, 0, none⟩) [1, 1, 2, 3, 10, 1000, x]) := fun T => by
          have := ins_newN w4 T [1, 1, 2, 3, 10, 1000, x] (by intro z hz; simp at hz; omega)
          simpa using this
        have hz4 : R < w4.heap.size := HD4.out.cur.lt.2
        have hg4 : g < w4.heap.size := HR4.out.lt.2
        go_wp2_with fail
        have hoa : Only (fun _ => False) w4 (w4.alloc (Obj.cells #[.int .i64 1, .int .i64 1, .int .i64 2, .int .i64 3, .int .i64 10, .int .i64 1000, .int .i64 x] 3)) := (Only.refl _ w4).alloc _
        refine ((HD4.out.other hoa (by simp) (by simp)).pick w4.heap.size 7 [1, 1, 2, 3, 10, 1000, x] (HIN.out _) (by omega) (by simp) (by simp)).mono ?_
        rintro e w5 ⟨⟨y, hy, rfl⟩, hd5, ho5⟩
        have hyr : 0 ≤ y ∧ y ≤ 1000 := by simp at hy; omega
        have hr5 : Row w5 w.heap.size g m 1000 := (HR4.out.only hoa (by simp)).only ho5 (by omega)
        have ho5' : Only (fun k => k = R) w w5 := (HO4.out.trans (hoa.mono (by simp))).trans ho5
        obtain ⟨old, hdst⟩ := hr5.cell k hlt
        have hfz := hr5.frozen k
        have HR6 : Hid (Row (w5.setCell ⟨g, k, none⟩ (.int .i64 y)) w.heap.size g m 1000) := hr5.store k y hyr (by omega)
        have HO6 : Hid (Only (fun k => k = R) w (w5.setCell ⟨g, k, none⟩ (.int .i64 y))) := Only.setCell (S := fun k => k = R) ho5' (p := ⟨g, k, none⟩) (.inr hs1) _
        have HD6 : Hid (Dr w0 (w5.setCell ⟨g, k, none⟩ (.int .i64 y)) B R a bs cap) := hd5.other (S := fun b => b = g) (Only.setCell (Only.refl (fun b => b = g) w5) (p := ⟨g, k, none⟩) (.inl rfl) _) (by omega) (fun b hb => by omega)
        clear hr5 ho5' ho5 hd5 hoa HIN HR4 HD4 HO4 hy
        go_wp2
        go_roundw
        case rel => exact ⟨k + 1, by omega, by go_num, by simpa using HR6.out, by simpa using HD6.out, by simpa using HO6.out⟩
        case measure => simp [intOf]; omega
      · go_wp2
        go_roundw
        case rel => exact ⟨k + 1, by omega, by go_num, HR3.out, HD3.out, HO3.out⟩
        case measure => simp [intOf]; omega
    · go_wp2
      go_ret
      exact ⟨m, g, rfl, hn2, hn1, HR.out, HD.out, HO.out⟩
end Go.Proofs.YtkjebacpmmfflaaDoor
