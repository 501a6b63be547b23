/-
  The program's writer: newBitWriter and put.
-/
import Derived.WalkKit
import Derived.Laws.BitsAllLaws
import Derived.Test.YtojnomdlkihgmaaGreatDoorNum
import Derived.Test.YtojnomdlkihgmaaGreatDoorITxtI
import Derived.Laws.CopyOwn
namespace Go.Proofs.YtojnomdlkihgmaaGreatDoor
open Go.RowKit

theorem ofInt_i64 (a : Nat) (ha : a < 9223372036854775808) : (BitVec.ofInt 64 (a : Int)).toNat = a := by
  rw [BitVec.ofInt_natCast, BitVec.toNat_ofNat]; exact Nat.mod_eq_of_lt (by omega)

theorem i64_and_nat (a b : Nat) (ha : a < 9223372036854775808) (hb : b < 9223372036854775808) : bits .and .i64 (a : Int) (b : Int) = ((a &&& b : Nat) : Int) := by
  have hx : a &&& b < 2 ^ 63 := Nat.and_lt_two_pow _ (by omega)
  show IntKind.i64.wrap ((BitVec.ofInt 64 (a : Int) &&& BitVec.ofInt 64 (b : Int)).toNat : Int) = _
  rw [BitVec.toNat_and, ofInt_i64 a ha, ofInt_i64 b hb, IntKind.wrap_i64]
  omega

theorem i64_or_nat (a b : Nat) (ha : a < 9223372036854775808) (hb : b < 9223372036854775808) : bits .or .i64 (a : Int) (b : Int) = ((a ||| b : Nat) : Int) := by
  have hx : a ||| b < 2 ^ 63 := Nat.or_lt_two_pow (by omega) (by omega)
  show IntKind.i64.wrap ((BitVec.ofInt 64 (a : Int) ||| BitVec.ofInt 64 (b : Int)).toNat : Int) = _
  rw [BitVec.toNat_or, ofInt_i64 a ha, ofInt_i64 b hb, IntKind.wrap_i64]
  omega

/-- The bit k of a byte, as an int. -/
theorem bit64 (z : Int) (k : Nat) (h : 0 ≤ z ∧ z ≤ 255) : bits .and .i64 (wrap64 (z / 2 ^ k)) 1 = ((z.toNat / 2 ^ k % 2 : Nat) : Int) := by
  obtain ⟨n, rfl⟩ := Int.eq_ofNat_of_zero_le h.1
  have e : ((n : Int) / 2 ^ k) = ((n / 2 ^ k : Nat) : Int) := by simp
  have hle : n / 2 ^ k ≤ n := Nat.div_le_self _ _
  rw [e, Int.toNat_natCast]
  generalize n / 2 ^ k = m at *
  rw [IntWalk.wrap64_in _ (by omega)]
  have := i64_and_nat m 1 (by omega) (by omega)
  rw [show ((1 : Nat) : Int) = 1 from rfl] at this
  rw [this, nat_mask1]

/-- 'n | bit << i' where n has i bits. -/
theorem or_bit64 (n b i : Nat) (hn : n < 2 ^ i) (hb : b ≤ 1) (hi : i ≤ 31) : bits .or .i64 (n : Int) ((b * 2 ^ i : Nat) : Int) = ((n + b * 2 ^ i : Nat) : Int) := by
  have h1 : 2 ^ i ≤ 2 ^ 31 := Nat.pow_le_pow_right (by omega) hi
  have h2 : b * 2 ^ i ≤ 1 * 2 ^ i := Nat.mul_le_mul_right _ hb
  rw [i64_or_nat n (b * 2 ^ i) (by omega) (by omega)]
  congr 1
  rw [Nat.or_comm, nat_join i _ _ (by simp) hn, Nat.add_comm]

theorem or_step64 (X j k : Nat) (z : Int) (hz : 0 ≤ z ∧ z ≤ 255) (hx : X < 2 ^ j) (hj : j ≤ 31) :
    bits .or .i64 (X : Int) (wrap64 (bits .and .i64 (wrap64 (z / 2 ^ k)) 1 * 2 ^ j)) = ((X + z.toNat / 2 ^ k % 2 * 2 ^ j : Nat) : Int) := by
  rw [bit64 z k hz]
  have hb : z.toNat / 2 ^ k % 2 ≤ 1 := by omega
  generalize z.toNat / 2 ^ k % 2 = bt at *
  have e : ((bt : Nat) : Int) * 2 ^ j = ((bt * 2 ^ j : Nat) : Int) := by simp
  have h1 : 2 ^ j ≤ 2 ^ 31 := Nat.pow_le_pow_right (by omega) hj
  have h2 : bt * 2 ^ j ≤ 1 * 2 ^ j := Nat.mul_le_mul_right _ hb
  have h3 := or_bit64 X bt j hx hb hj
  rw [e]
  generalize bt * 2 ^ j = y at *
  rw [IntWalk.wrap64_in _ (by omega)]
  exact h3

/-- 'old | byte(x)' where old has u bits and x none of them. -/
theorem or_u8 (old x u : Nat) (ho : old < 2 ^ u) (hx : x % 2 ^ u = 0) (h8 : x < 256) (h9 : old < 256) : bits .or .u8 (old : Int) (x : Int) = ((old + x : Nat) : Int) := by
  rw [u8_or_nat old x h9 h8]
  congr 1
  rw [Nat.or_comm, nat_join u _ _ hx ho, Nat.add_comm]

set_option linter.unusedVariables false
/-- A slice value (nil, or a row of the call's own from block B on) that has the bytes zs. -/
def OwnV (w : World) (B : Nat) (v : Value) (zs : List Int) : Prop := w.ownsRow B 5 1 v zs.length (zs.map (Value.int .u8)) ∧ ∀ z ∈ zs, 0 ≤ z ∧ z ≤ 255

theorem OwnV.form {w : World} {B : Nat} {v : Value} {zs : List Int} (h : OwnV w B v zs) (hp : 0 < zs.length) : ∃ g cap, v = .slice (some ⟨g, 0, none⟩) zs.length cap ∧ Own w B g cap zs := by
  obtain ⟨g, cap, rfl, _, _⟩ := h.1.form hp
  exact ⟨g, cap, rfl, h⟩

theorem Own.v {w : World} {B g cap : Nat} {zs : List Int} (h : Own w B g cap zs) : OwnV w B (.slice (some ⟨g, 0, none⟩) zs.length cap) zs := h

/-- A block of another kind than a row of bytes is none. -/
theorem Own.ne {w : World} {B g cap R : Nat} {zs : List Int} {cur : Array Value} {T : TypeId} (h : Own w B g cap zs) (hR : w.heap[R]? = some (.cells cur T (0, 0))) (hT : T ≠ 5) : g ≠ R := by
  rintro rfl
  rcases h.1.2 with ⟨h', _⟩ | ⟨g', cap', cur', h', hg, hh, r⟩
  · simp at h'
  · have e : g' = g := by simp at h'; exact h'.1.symm
    subst e
    rw [hR] at hh
    simp at hh
    exact hT hh.2

theorem cellR {w : World} {R j : Nat} {cur : Array Value} {T : TypeId} {v : Value} (hR : w.heap[R]? = some (.cells cur T (0, 0))) (hv : cur[j]? = some v) : w.cell? ⟨R, j, none⟩ = some v := by
  rw [cell_of_row w R j cur T (0, 0) hR]; exact hv
theorem frozenR {w : World} {R j : Nat} {cur : Array Value} {T : TypeId} (hR : w.heap[R]? = some (.cells cur T (0, 0))) : w.frozen? ⟨R, j, none⟩ = false := frozen_of_row w R j cur T hR

/-- The byte that takes another bit. -/
theorem put_bit (old X k u : Nat) (hu : u < 8) (ho : old < 2 ^ u) (hX : X ≤ 1073741824) :
    bits .or .u8 (old : Int) (bits .and .i64 ((X : Int) / 2 ^ k) 1 % 256 * 2 ^ u % 256) = ((old + X / 2 ^ k % 2 * 2 ^ u : Nat) : Int) := by
  have e : ((X : Int) / 2 ^ k) = ((X / 2 ^ k : Nat) : Int) := by simp
  have hle : X / 2 ^ k ≤ X := Nat.div_le_self _ _
  have h1 := i64_and_nat (X / 2 ^ k) 1 (by omega) (by omega)
  rw [show ((1 : Nat) : Int) = 1 from rfl, nat_mask1] at h1
  rw [e, h1]
  have hb : X / 2 ^ k % 2 ≤ 1 := by omega
  generalize X / 2 ^ k % 2 = bt at *
  have h2 : 2 ^ u ≤ 2 ^ 7 := Nat.pow_le_pow_right (by omega) (by omega)
  have h3 : bt * 2 ^ u ≤ 1 * 2 ^ u := Nat.mul_le_mul_right _ hb
  have e2 : (((bt : Nat) : Int) % 256 * 2 ^ u % 256) = ((bt * 2 ^ u : Nat) : Int) := by
    have : ((bt : Nat) : Int) % 256 = (bt : Int) := by omega
    rw [this, show ((bt : Int) * 2 ^ u) = ((bt * 2 ^ u : Nat) : Int) from by simp]
    omega
  rw [e2]
  exact or_u8 old (bt * 2 ^ u) u ho (by simp) (by omega) (by omega)

theorem put_close {w W : World} {B g cap R q L : Nat} {v : Value} {Z Z' : List Int} {b : Int} (hR : W.heap[R]? = some (.cells #[.slice (some ⟨g, 0, none⟩) L cap, .int .i64 (q : Nat)] 80 (0, 0)))
    (hZ : Z.length = L) (hown : Own W B g cap Z) (hnext : Z' = Z.set (q / 8) b) (hb : 0 ≤ b ∧ b ≤ 255) (honly : Only (fun k => k = R ∨ v.ownBlock = some k) w W)
    (hrow : v.ownBlock = some g ∨ w.heap.size ≤ g) :
    ((W.setCell ⟨g, q / 8, none⟩ (.int .u8 b)).setCell ⟨R, 1, none⟩ (.int .i64 ((q : Int) + 1))).heap[R]? = some (.cells #[.slice (some ⟨g, 0, none⟩) L cap, .int .i64 ((q + 1 : Nat) : Int)] 80 (0, 0)) ∧
    OwnV ((W.setCell ⟨g, q / 8, none⟩ (.int .u8 b)).setCell ⟨R, 1, none⟩ (.int .i64 ((q : Int) + 1))) B (.slice (some ⟨g, 0, none⟩) L cap) Z' ∧
    Only (fun k => k = R ∨ v.ownBlock = some k) w ((W.setCell ⟨g, q / 8, none⟩ (.int .u8 b)).setCell ⟨R, 1, none⟩ (.int .i64 ((q : Int) + 1))) ∧ (Value.slice (some ⟨g, 0, none⟩) L cap).ownBlock = some g := by
  have hne := hown.ne hR (by decide)
  have h1 : (W.setCell ⟨g, q / 8, none⟩ (.int .u8 b)).heap[R]? = some (.cells #[.slice (some ⟨g, 0, none⟩) L cap, .int .i64 (q : Nat)] 80 (0, 0)) := by
    rw [Below.heap_setCell _ _ _ _ (by simpa using hne.symm)]; exact hR
  have h2 := hown.store (q / 8) b hb
  have h3 := Own.setCell_other h2 (p := ⟨R, 1, none⟩) (by simpa using hne.symm) (.int .i64 ((q : Int) + 1))
  refine ⟨?_, ?_, ?_, rfl⟩
  · rw [heap_setCell_same _ R 1 _ _ _ h1]; simp
  · rw [hnext]
    have hl : (Z.set (q / 8) b).length = L := by rw [List.length_set]; exact hZ
    have h4 := h3.v
    rw [hl] at h4
    exact h4
  · refine Only.setCell (Only.setCell honly ?_ _) (.inl (.inl rfl)) _
    rcases hrow with h | h
    · exact .inl (.inr h)
    · exact .inr h

theorem app_keep {wr w1 : World} {o b : Obj} {row : Option Nat} {R : Nat} (hg : (wr.alloc o).grownBy w1 row) (hR : wr.heap[R]? = some b) (hne : some R ≠ row) : w1.heap[R]? = some b := by
  have hlt : R < wr.heap.size := (Array.getElem?_eq_some_iff.1 hR).1
  rw [hg.block R (by simp; omega) hne, Below.heap_alloc wr o R hlt]
  exact hR

/-- Behind an append of a nought to the bytes at R, and the store of the new slice there. -/
theorem put_grown {w wr w1 : World} {o : Obj} {B R q g cap : Nat} {au : Option Addr} {cu : Nat} {v : Value} {Z : List Int} (hR : wr.heap[R]? = some (.cells #[.slice au (q / 8) cu, .int .i64 (q : Nat)] 80 (0, 0)))
    (hne : some R ≠ (Value.slice au (q / 8) cu).ownBlock) (hZ : ∀ z ∈ Z, 0 ≤ z ∧ z ≤ 255) (hl : Z.length = q / 8)
    (hg : (wr.alloc o).grownBy w1 (Value.slice au (q / 8) cu).ownBlock) (hown : w1.ownsRow B 5 1 (.slice (some ⟨g, 0, none⟩) (q / 8 + 1) cap) (q / 8 + 1) (Z.map (Value.int .u8) ++ [.int .u8 0]))
    (hat : (Value.slice au (q / 8) cu).ownBlock = some g ∨ g = (wr.alloc o).heap.size) (honly : Only (fun k => k = R ∨ v.ownBlock = some k) w wr) (hRl : R < w.heap.size)
    (hrow : (Value.slice au (q / 8) cu).ownBlock = v.ownBlock ∨ ∃ k, (Value.slice au (q / 8) cu).ownBlock = some k ∧ w.heap.size ≤ k) :
    (w1.setCell ⟨R, 0, none⟩ (.slice (some ⟨g, 0, none⟩) (q / 8 + 1) cap)).heap[R]? = some (.cells #[.slice (some ⟨g, 0, none⟩) (q / 8 + 1) cap, .int .i64 (q : Nat)] 80 (0, 0)) ∧
    Own (w1.setCell ⟨R, 0, none⟩ (.slice (some ⟨g, 0, none⟩) (q / 8 + 1) cap)) B g cap (Z ++ [0]) ∧
    Only (fun k => k = R ∨ v.ownBlock = some k) w (w1.setCell ⟨R, 0, none⟩ (.slice (some ⟨g, 0, none⟩) (q / 8 + 1) cap)) ∧ (v.ownBlock = some g ∨ w.heap.size ≤ g) := by
  have hR1 := app_keep hg hR hne
  have ho : Own w1 B g cap (Z ++ [0]) := by
    refine ⟨?_, ?_⟩
    · have e : (Z ++ [0]).length = q / 8 + 1 := by simp [hl]
      rw [e]
      simpa using hown
    · intro z hz
      simp only [List.mem_append, List.mem_singleton] at hz
      rcases hz with hz | rfl
      · exact hZ z hz
      · omega
  have hgR := ho.ne hR1 (by decide)
  have hsz := honly.size
  refine ⟨?_, ho.setCell_other (by simpa using hgR.symm) _, ?_, ?_⟩
  · rw [heap_setCell_same _ R 0 _ _ _ hR1]; simp
  · refine Only.setCell (Only.grown (honly.alloc o) hg ?_) (.inl (.inl rfl)) _
    intro k hk
    rcases hrow with h | ⟨k', h, h'⟩
    · exact .inl (.inr (h.symm.trans hk))
    · right
      rw [h] at hk
      simp at hk
      omega
  · rcases hat with h | h
    · rcases hrow with h' | ⟨k', h', h''⟩
      · exact .inl (h'.symm.trans h)
      · right
        rw [h'] at h
        simp at h
        omega
    · right
      rw [h]
      simp
      omega

/-- Is it a row of N bits: as many bytes as N bits want, the last one without a bit behind them. -/
def okB (N : Int) (zs : List Int) : Bool :=
  decide (0 ≤ N ∧ N ≤ 4096 ∧ (zs.length : Int) = (N + 7) / 8) && (N % 8 == 0 || zs.getD (zs.length - 1) 0 / 2 ^ (N % 8).toNat == 0)

theorem okB_neg {N : Int} {zs : List Int} (h : N < 0) : okB N zs = false := by
  have : decide (0 ≤ N ∧ N ≤ 4096 ∧ (zs.length : Int) = (N + 7) / 8) = false := by simp; omega
  rw [okB, this, Bool.false_and]
theorem okB_big {N : Int} {zs : List Int} (h : 4096 < N) : okB N zs = false := by
  have : decide (0 ≤ N ∧ N ≤ 4096 ∧ (zs.length : Int) = (N + 7) / 8) = false := by simp; omega
  rw [okB, this, Bool.false_and]
theorem okB_len {N : Int} {zs : List Int} (h : ¬ (zs.length : Int) = (N + 7) / 8) : okB N zs = false := by
  have : decide (0 ≤ N ∧ N ≤ 4096 ∧ (zs.length : Int) = (N + 7) / 8) = false := by simp; omega
  rw [okB, this, Bool.false_and]
theorem okB_full {N : Int} {zs : List Int} (h0 : 0 ≤ N) (h1 : N ≤ 4096) (h2 : (zs.length : Int) = (N + 7) / 8) (h3 : N % 8 = 0) : okB N zs = true := by
  have : decide (0 ≤ N ∧ N ≤ 4096 ∧ (zs.length : Int) = (N + 7) / 8) = true := by simp; exact ⟨h0, h1, h2⟩
  rw [okB, this, h3]; rfl
theorem okB_last {N : Int} {zs : List Int} (h0 : 0 ≤ N) (h1 : N ≤ 4096) (h2 : (zs.length : Int) = (N + 7) / 8) (h3 : ¬ N % 8 = 0) : okB N zs = (zs.getD (zs.length - 1) 0 / 2 ^ (N % 8).toNat == 0) := by
  have : decide (0 ≤ N ∧ N ≤ 4096 ∧ (zs.length : Int) = (N + 7) / 8) = true := by simp; exact ⟨h0, h1, h2⟩
  have h3' : (N % 8 == 0) = false := by simpa using h3
  rw [okB, this, h3', Bool.true_and, Bool.false_or]
theorem okB_enc {N : Int} {zs : List Int} (h : okB N zs = true) (hr : ∀ z ∈ zs, 0 ≤ z ∧ z ≤ 255) : ∃ n : Nat, N = n ∧ n ≤ 4096 ∧ zs = enc n (val zs) ∧ val zs < 2 ^ n := by
  simp only [okB, Bool.and_eq_true, decide_eq_true_eq, Bool.or_eq_true, beq_iff_eq] at h
  obtain ⟨⟨h0, h1, h2⟩, h3⟩ := h
  obtain ⟨n, rfl⟩ := Int.eq_ofNat_of_zero_le h0
  have := val_bits n zs hr (by omega) (by
    rcases h3 with h3 | h3
    · exact .inl (by omega)
    · refine .inr ?_
      have hz := getD_rng hr (zs.length - 1)
      obtain ⟨z, hz'⟩ := Int.eq_ofNat_of_zero_le hz.1
      rw [hz'] at h3 ⊢
      rw [show ((n : Int) % 8).toNat = n % 8 from by omega] at h3
      have h4 : ((z / 2 ^ (n % 8) : Nat) : Int) = 0 := by simpa using h3
      rw [Int.toNat_natCast]
      have h5 : z / 2 ^ (n % 8) = 0 := by omega
      exact (Nat.div_eq_zero_iff_lt (Nat.pow_pos (by omega))).1 h5)
  exact ⟨n, rfl, by omega, this.2, this.1⟩

theorem wrap_pow (m : Nat) (h : m ≤ 31) : wrap64 (2 ^ m) = 2 ^ m := by
  have h1 : 2 ^ m ≤ 2 ^ 31 := Nat.pow_le_pow_right (by omega) h
  have e : ((2 : Int) ^ m) = ((2 ^ m : Nat) : Int) := by simp
  rw [e]
  generalize 2 ^ m = y at *
  exact IntWalk.wrap64_in _ (by omega)

theorem OwnV.mine {w : World} {B : Nat} {v : Value} {zs : List Int} (h : OwnV w B v zs) : ∃ (a : Option Addr) (cp : Nat), v = .slice a zs.length cp ∧ Mine w B w.heap.size a cp zs := by
  rcases h.1.2 with ⟨rfl, h0⟩ | ⟨g, cap, cur, rfl, hg, hh, r⟩
  · exact ⟨none, 0, by rw [h0], .inl ⟨rfl, List.eq_nil_of_length_eq_zero h0, rfl⟩⟩
  · exact ⟨some ⟨g, 0, none⟩, cap, rfl, Own.mine (cap := cap) h⟩

/-- What BitsPut takes. -/
def putOk (N n width : Int) (zs : List Int) : Prop := okB N zs = true ∧ 0 ≤ width ∧ width ≤ 30 ∧ 0 ≤ n ∧ n < 2 ^ width.toNat ∧ width ≤ 4096 - N

theorem widthOk_any (n : Int) (w : World) : Calls Tryz.prog 58 #[.int .i64 n] w fun e w' => e = .returned (.bool (decide (0 ≤ n ∧ n ≤ 30))) ∧ w' = w := by
  by_cases h0 : 0 ≤ n
  · by_cases h1 : n ≤ 30
    · have hE : decide (0 ≤ n ∧ n ≤ 30) = true := by simp [h0, h1]
      rw [hE]
      clear hE
      go_enter Tryz.func58, Tryz.ntmps58
      go_wp2
      go_ret
      exact ⟨by simp, rfl⟩
    · have hE : decide (0 ≤ n ∧ n ≤ 30) = false := by simp [h1]
      rw [hE]
      clear hE
      go_enter Tryz.func58, Tryz.ntmps58
      go_wp2
      go_ret
      exact ⟨by simp, rfl⟩
  · have hE : decide (0 ≤ n ∧ n ≤ 30) = false := by simp [h0]
    rw [hE]
    clear hE
    go_enter Tryz.func58, Tryz.ntmps58
    go_wp2
    go_ret
    exact ⟨by simp, rfl⟩

/-- What the sentinels hold: each an error that is not nil. -/
def Sent (w : World) (g : Nat) : Prop := ∃ T x, w.cell? ⟨g, 0, none⟩ = some (.iface T x)

theorem Sent.below {w w' : World} {g B : Nat} (h : Sent w g) (hb : Below B w w') (hg : g < B) : Sent w' g := by
  obtain ⟨T, x, hc⟩ := h
  exact ⟨T, x, keep hb hg hc⟩

theorem made_block {w : World} {B g n : Nat} (h : w.ownsRow B 5 1 (.slice (some ⟨g, 0, none⟩) n n) n (madeCells (Value.int .u8 0).cells (n * 1)).toList) :
    w.heap[g]? = some (.cells ((List.replicate n (0 : Int)).map (Value.int .u8)).toArray 5 (0, 0)) := by
  rcases h.2 with ⟨h', _⟩ | ⟨g', cap', cur, h', hg, hh, h1, h2, h3, h4⟩
  · simp at h'
  · simp only [Value.slice.injEq, Option.some.injEq, Addr.mk.injEq, and_true, true_and] at h'
    obtain ⟨rfl, rfl⟩ := h'
    rw [hh, ← made_zero, ← h4]
    rw [List.take_of_length_le (by simp [h3])]

theorem own_block {w : World} {B g : Nat} {zs : List Int} (hB : B ≤ g) (h : w.heap[g]? = some (.cells (zs.map (Value.int .u8)).toArray 5 (0, 0))) (hr : ∀ z ∈ zs, 0 ≤ z ∧ z ≤ 255) (hl : zs.length ≤ 1048576) : Own w B g zs.length zs :=
  ⟨⟨by simp, .inr ⟨g, zs.length, _, rfl, hB, h, Nat.le_refl _, by unfold maxLen; omega, by simp, by rw [Nat.mul_one]; exact List.take_of_length_le (by simp)⟩⟩, hr⟩

set_option maxHeartbeats 800000 in
theorem newWriter_any (a : Option Addr) (cap : Nat) (zs : List Int) (N room : Int) (w : World) (hb : Byt w a zs) (hn : zs.length ≤ 1048576) :
    Calls Tryz.prog 40 #[.agg #[.slice a zs.length cap, .int .i64 N], .int .i64 room] w fun e w' =>
      ∃ R g, e = .returned (.pointer (some ⟨R, 0, none⟩)) ∧ w'.heap[R]? = some (.cells #[.slice (some ⟨g, 0, none⟩) zs.length zs.length, .int .i64 N, .int .i64 room] 88 (0, 0)) ∧
        Own w' w.heap.size g zs.length zs ∧ w.heap.size ≤ R ∧ Below w.heap.size w w' := by
  obtain ⟨i0, hi, hz0, hz1, hz2⟩ := info_parts Tryz.infoU8
  have hsz : (Tryz.prog.info? 5).map (·.size) = some 1 := by rw [hi]; simp [hz1]
  generalize hlen : zs.length = n at *
  have HL : Hid (zs.length = n) := hlen
  clear hlen
  go_enter Tryz.func40, Tryz.ntmps40
  have hone := oneCells zs
  have hsrc : ∀ W : World, (∀ b o, b < w.heap.size → W.cell? ⟨b, o, none⟩ = w.cell? ⟨b, o, none⟩) → 0 < (zs.map (Value.int .u8)).length → ∃ ad, a = some ad ∧ ∀ j u, (zs.map (Value.int .u8))[j]? = some u → W.cell? (ad.add j) = some u := by
    intro W hW hp
    obtain ⟨b, off, rfl, hbl, hc⟩ := hb.2 (by simpa using hp)
    exact ⟨_, rfl, news_of (fun i hi => (hW b (off + i) hbl).trans (hc i hi))⟩
  have HSRC : Hid (∀ W : World, (∀ b o, b < w.heap.size → W.cell? ⟨b, o, none⟩ = w.cell? ⟨b, o, none⟩) → 0 < (zs.map (Value.int .u8)).length → ∃ ad, a = some ad ∧ ∀ j u, (zs.map (Value.int .u8))[j]? = some u → W.cell? (ad.add j) = some u) := hsrc
  clear hsrc
  go_wp2_with (first
    | (at_make; refine wpList_make_full _ rfl _ _ 22 rfl w.heap.size 5 i0 (.int .u8 0) 1 Tryz.underlying22 hi hz0 hz1 .i64 .i64 _ _ n rfl rfl rfl rfl (by rw [hz2]; omega) (by unfold maxLen; omega) (by simp) ?_; intro w1 hown hgrow; have hbel1 : Below (w.heap.size + 1) (w.alloc (Obj.cells #[Value.slice a n cap, Value.int IntKind.i64 N] 80)) w1 := (Below.refl _ _).grown hgrow (by simp) (by intro k hk; cases hk); have p0 : w1.cell? ⟨w.heap.size, 0, none⟩ = some (.slice a n cap) := keep hbel1 (by omega) (by simp); have hblk := made_block hown; simp only [World.size_alloc] at hblk; have HBLK : Hid (w1.heap[w.heap.size + 1]? = some (.cells ((List.replicate n (0 : Int)).map (Value.int .u8)).toArray 5 (0, 0))) := hblk; clear hown hgrow hblk)
    | (have _t := HBLK; refine wpList_copy_splice rfl (.tmp 10) (.tmp 12) 22 22 rfl 5 Tryz.underlying22 hsz (some ⟨w.heap.size + 1, 0, none⟩) a n n n cap rfl rfl (w.heap.size + 1) 0 ((List.replicate n (0 : Int)).map (Value.int .u8)) 5 HBLK.out (zs.map (Value.int .u8)) (by have := HL.out; simp [this]) (fun hp => ⟨rfl, HSRC.out _ (fun b o hb => (hbel1.cell (p := ⟨b, o, none⟩) (by simp; omega)).trans (by exact (Below.cell ((Below.refl w.heap.size w).alloc (Nat.le_refl _) _) (p := ⟨b, o, none⟩) hb))) hp⟩) (by have := HL.out; simp [this]) hone (w.heap.size + 1) _ hbel1 (Nat.le_refl _) ?_; intro w2 hblk2 hbel2; have p0' : w2.cell? ⟨w.heap.size, 0, none⟩ = some (.slice a n cap) := keep hbel2 (by omega) (by simp); have p1' : w2.cell? ⟨w.heap.size, 1, none⟩ = some (.int .i64 N) := keep hbel2 (by omega) (by simp)))
  have hbl2 := hblk2.out
  have hspl : splice ((List.replicate n (0 : Int)).map (Value.int .u8)) 0 (zs.map (Value.int .u8)) = zs.map (Value.int .u8) := by
    unfold splice
    rw [List.drop_of_length_le (by have := HL.out; simp [this])]
    simp
  rw [hspl] at hbl2
  have ho := own_block (B := w.heap.size) (g := w.heap.size + 1) (by omega) hbl2 hb.1 (by rw [HL.out]; exact hn)
  rw [HL.out] at ho
  have hsz2 := hbel2.size
  simp at hsz2
  go_ret
  exact ⟨w2.heap.size, w.heap.size + 1, rfl, heap_alloc_new w2 _, ho.alloc _, by omega, (((Below.refl w.heap.size w).alloc (Nat.le_refl _) _).trans (hbel2.mono (by omega))).alloc (by omega) _⟩

/-- The part of a number that one byte takes. -/
theorem chunk_byte (n u s left : Nat) (hu : u < 8) (hn : n < 2 ^ left) (hs : s = min (8 - u) left) : (n * 2 ^ u) % 256 = (n % 2 ^ s) * 2 ^ u := by
  by_cases h : 8 - u ≤ left
  · have : s = 8 - u := by omega
    subst this
    have e : 256 = 2 ^ (8 - u) * 2 ^ u := by rw [← Nat.pow_add, show 8 - u + u = 8 from by omega]
    rw [e, Nat.mul_mod_mul_right]
  · have : s = left := by omega
    subst this
    rw [Nat.mod_eq_of_lt hn]
    refine Nat.mod_eq_of_lt ?_
    have h1 : (n + 1) * 2 ^ u ≤ 2 ^ s * 2 ^ u := Nat.mul_le_mul_right _ hn
    have h2 : 2 ^ (s + u) ≤ 2 ^ 8 := Nat.pow_le_pow_right (by omega) (by omega)
    rw [Nat.add_mul, ← Nat.pow_add] at h1
    have h3 : 0 < 2 ^ u := Nat.pow_pos (by omega)
    omega

theorem put_chunk (old n u s left : Nat) (hu : u < 8) (ho : old < 2 ^ u) (hn : n < 2 ^ left) (hs : s = min (8 - u) left) (hn' : n ≤ 1073741824) :
    bits .or .u8 (old : Int) (wrap64 ((n : Int) * 2 ^ u) % 256) = ((old + n % 2 ^ s * 2 ^ u : Nat) : Int) ∧ old + n % 2 ^ s * 2 ^ u < 256 := by
  have hc := chunk_byte n u s left hu hn hs
  have h2 : 2 ^ u ≤ 2 ^ 7 := Nat.pow_le_pow_right (by omega) (by omega)
  have h3 : n * 2 ^ u ≤ 1073741824 * 2 ^ u := Nat.mul_le_mul_right _ hn'
  have h4 : 1073741824 * 2 ^ u ≤ 1073741824 * 2 ^ 7 := Nat.mul_le_mul_left _ h2
  have e : ((n : Int) * 2 ^ u) = ((n * 2 ^ u : Nat) : Int) := by simp
  have hlt : n % 2 ^ s * 2 ^ u < 256 := by rw [← hc]; exact Nat.mod_lt _ (by omega)
  rw [e, IntWalk.wrap64_in _ (by omega), show (((n * 2 ^ u : Nat) : Int) % 256) = ((n * 2 ^ u % 256 : Nat) : Int) from by omega, hc]
  refine ⟨or_u8 old _ u ho (by simp) hlt (by omega), ?_⟩
  have hd : n % 2 ^ s * 2 ^ u + 2 ^ u ≤ 256 := by
    have : 256 = 2 ^ (8 - u) * 2 ^ u := by rw [← Nat.pow_add, show 8 - u + u = 8 from by omega]
    rw [this] at hlt ⊢
    have h5 : n % 2 ^ s < 2 ^ (8 - u) := Nat.lt_of_mul_lt_mul_right hlt
    have h6 : (n % 2 ^ s + 1) * 2 ^ u ≤ 2 ^ (8 - u) * 2 ^ u := Nat.mul_le_mul_right _ h5
    rw [Nat.add_mul, Nat.one_mul] at h6
    exact h6
  omega

theorem put_close3 {w W : World} {B g cap R q L s : Nat} {room : Int} {v : Value} {Z Z' : List Int} {b : Int} (hR : W.heap[R]? = some (.cells #[.slice (some ⟨g, 0, none⟩) L cap, .int .i64 (q : Nat), .int .i64 room] 88 (0, 0)))
    (hZ : Z.length = L) (hown : Own W B g cap Z) (hnext : Z' = Z.set (q / 8) b) (hb : 0 ≤ b ∧ b ≤ 255) (honly : Only (fun k => k = R ∨ v.ownBlock = some k) w W)
    (hrow : v.ownBlock = some g ∨ w.heap.size ≤ g) :
    ((W.setCell ⟨g, q / 8, none⟩ (.int .u8 b)).setCell ⟨R, 1, none⟩ (.int .i64 ((q : Int) + s))).heap[R]? = some (.cells #[.slice (some ⟨g, 0, none⟩) L cap, .int .i64 ((q + s : Nat) : Int), .int .i64 room] 88 (0, 0)) ∧
    OwnV ((W.setCell ⟨g, q / 8, none⟩ (.int .u8 b)).setCell ⟨R, 1, none⟩ (.int .i64 ((q : Int) + s))) B (.slice (some ⟨g, 0, none⟩) L cap) Z' ∧
    Only (fun k => k = R ∨ v.ownBlock = some k) w ((W.setCell ⟨g, q / 8, none⟩ (.int .u8 b)).setCell ⟨R, 1, none⟩ (.int .i64 ((q : Int) + s))) := by
  have hne := hown.ne hR (by decide)
  have h1 : (W.setCell ⟨g, q / 8, none⟩ (.int .u8 b)).heap[R]? = some (.cells #[.slice (some ⟨g, 0, none⟩) L cap, .int .i64 (q : Nat), .int .i64 room] 88 (0, 0)) := by
    rw [Below.heap_setCell _ _ _ _ (by simpa using hne.symm)]; exact hR
  have h2 := hown.store (q / 8) b hb
  have h3 := Own.setCell_other h2 (p := ⟨R, 1, none⟩) (by simpa using hne.symm) (.int .i64 ((q : Int) + s))
  refine ⟨?_, ?_, ?_⟩
  · rw [heap_setCell_same _ R 1 _ _ _ h1]; simp
  · rw [hnext]
    have hl : (Z.set (q / 8) b).length = L := by rw [List.length_set]; exact hZ
    have h4 := h3.v
    rw [hl] at h4
    exact h4
  · refine Only.setCell (Only.setCell honly ?_ _) (.inl (.inl rfl)) _
    rcases hrow with h | h
    · exact .inl (.inr h)
    · exact .inr h

theorem put_grown3 {w wr w1 : World} {o : Obj} {B R q g cap : Nat} {room : Int} {au : Option Addr} {cu : Nat} {v : Value} {Z : List Int} (hR : wr.heap[R]? = some (.cells #[.slice au (q / 8) cu, .int .i64 (q : Nat), .int .i64 room] 88 (0, 0)))
    (hne : some R ≠ (Value.slice au (q / 8) cu).ownBlock) (hZ : ∀ z ∈ Z, 0 ≤ z ∧ z ≤ 255) (hl : Z.length = q / 8)
    (hg : (wr.alloc o).grownBy w1 (Value.slice au (q / 8) cu).ownBlock) (hown : w1.ownsRow B 5 1 (.slice (some ⟨g, 0, none⟩) (q / 8 + 1) cap) (q / 8 + 1) (Z.map (Value.int .u8) ++ [.int .u8 0]))
    (hat : (Value.slice au (q / 8) cu).ownBlock = some g ∨ g = (wr.alloc o).heap.size) (honly : Only (fun k => k = R ∨ v.ownBlock = some k) w wr)
    (hrow : (Value.slice au (q / 8) cu).ownBlock = v.ownBlock ∨ ∃ k, (Value.slice au (q / 8) cu).ownBlock = some k ∧ w.heap.size ≤ k) :
    (w1.setCell ⟨R, 0, none⟩ (.slice (some ⟨g, 0, none⟩) (q / 8 + 1) cap)).heap[R]? = some (.cells #[.slice (some ⟨g, 0, none⟩) (q / 8 + 1) cap, .int .i64 (q : Nat), .int .i64 room] 88 (0, 0)) ∧
    Own (w1.setCell ⟨R, 0, none⟩ (.slice (some ⟨g, 0, none⟩) (q / 8 + 1) cap)) B g cap (Z ++ [0]) ∧
    Only (fun k => k = R ∨ v.ownBlock = some k) w (w1.setCell ⟨R, 0, none⟩ (.slice (some ⟨g, 0, none⟩) (q / 8 + 1) cap)) ∧ (v.ownBlock = some g ∨ w.heap.size ≤ g) := by
  have hR1 := app_keep hg hR hne
  have ho : Own w1 B g cap (Z ++ [0]) := by
    refine ⟨?_, ?_⟩
    · have e : (Z ++ [0]).length = q / 8 + 1 := by simp [hl]
      rw [e]
      simpa using hown
    · intro z hz
      simp only [List.mem_append, List.mem_singleton] at hz
      rcases hz with hz | rfl
      · exact hZ z hz
      · omega
  have hgR := ho.ne hR1 (by decide)
  have hsz := honly.size
  refine ⟨?_, ho.setCell_other (by simpa using hgR.symm) _, ?_, ?_⟩
  · rw [heap_setCell_same _ R 0 _ _ _ hR1]; simp
  · refine Only.setCell (Only.grown (honly.alloc o) hg ?_) (.inl (.inl rfl)) _
    intro k hk
    rcases hrow with h | ⟨k', h, h'⟩
    · exact .inl (.inr (h.symm.trans hk))
    · right
      rw [h] at hk
      simp at hk
      omega
  · rcases hat with h | h
    · rcases hrow with h' | ⟨k', h', h''⟩
      · exact .inl (h'.symm.trans h)
      · right
        rw [h'] at h
        simp at h
        omega
    · right
      rw [h]
      simp
      omega

end Go.Proofs.YtojnomdlkihgmaaGreatDoor
