/-
  What is read out of a sector as a map; bytes.Equal.
-/
import Derived.Test.YtnelpioadpdphaaMpScI
import Derived.Test.YtnelpioadpdphaaMpSp
import Derived.Test.YtnelpioadpdphaaOps
import Derived.Lib.Bytes
namespace Go.Proofs.Ytnelpioadpdphaa
open Go.RowKit
set_option linter.unusedVariables false
set_option linter.unusedSimpArgs false

theorem conv_bytes8 (w : World) (a : Option Addr) (c : Nat) (zs : List Int) (hb : Byt w a zs) : (convert 22 9 (.slice a zs.length c)).run Try.prog w = .ok (.string (strOfNums zs)) w := by
  rcases Nat.eq_zero_or_pos zs.length with h0 | h0
  · obtain rfl : zs = [] := List.eq_nil_of_length_eq_zero h0
    cases a with
    | none => exact run_convert_bytes_nil (P := Try.prog) w 22 5 Try.underlying22 Try.underlying5 0 c 9 Try.underlying9
    | some x =>
      show (convert 22 9 (.slice (some x) 0 c)).run Try.prog w = _
      rw [run_convert_bytes_string w 22 9 5 _ _ c Try.underlying22 Try.underlying5 Try.underlying9, run_bytesToString w x 0 c [] (by simp [loadCells, loadCellsFrom])]
      rfl
  · obtain ⟨b, off, rfl, _, hc⟩ := hb.2 h0
    exact run_convert_bytes_arg (P := Try.prog) w 22 5 Try.underlying22 Try.underlying5 b off zs.length c zs rfl hc 9 Try.underlying9

/-- What a comparison of two rows of bytes says. -/
def sm8 (zs ys : List Int) : Bool := (strOfNums zs).toList == (strOfNums ys).toList
theorem ofNat_inj8 {a b : Int} (ha : 0 ≤ a ∧ a ≤ 255) (hb : 0 ≤ b ∧ b ≤ 255) (h : UInt8.ofNat a.toNat = UInt8.ofNat b.toNat) : a = b := by
  have h1 := congrArg UInt8.toNat h
  simp only [UInt8.toNat_ofNat'] at h1
  omega
theorem sm8_head {zs ys : List Int} (hz : ∀ z ∈ zs, 0 ≤ z ∧ z ≤ 255) (hy : ∀ z ∈ ys, 0 ≤ z ∧ z ≤ 255) (h : sm8 zs ys = true) : zs.getD 0 0 = ys.getD 0 0 := by
  unfold sm8 at h
  rw [Lib.strOfNums_toList, Lib.strOfNums_toList, beq_iff_eq] at h
  unfold Lib.bytesOf at h
  cases zs with
  | nil =>
    have : ys = [] := by simpa using h.symm
    rw [this]
  | cons x xs =>
    cases ys with
    | nil => simp at h
    | cons y ys =>
      simp only [List.map_cons, List.cons.injEq] at h
      exact ofNat_inj8 (hz x (by simp)) (hy y (by simp)) h.1

set_option maxHeartbeats 800000 in
theorem bytesEqual_any (a b : Option Addr) (ca cb : Nat) (zs ys : List Int) (w : World) (ha : Byt w a zs) (hb : Byt w b ys) :
    Calls Try.prog 19 #[.slice a zs.length ca, .slice b ys.length cb] w fun e w' => e = .returned (.bool (sm8 zs ys)) ∧ w' = w := by
  have h1 := conv_bytes8 w a ca zs ha
  have h2 := conv_bytes8 w b cb ys hb
  unfold sm8
  generalize strOfNums zs = S at *
  generalize strOfNums ys = T at *
  go_enter Try.func19, Try.ntmps19
  go_wp2
  go_ret
  exact ⟨rfl, rfl⟩

def epo (zs : List Int) : Int := zs.getD 1 0 * 256 + zs.getD 2 0
def mny (zs : List Int) : Nat := (zs.getD 3 0).toNat
def rdP (zs : List Int) : List (Int × Int) := pl2 (zs.drop 4) (mny zs)
/-- What SuperRead answers. -/
def srB (zs : List Int) : Bool := decide (zs.length = 256 ∧ zs.getD 3 0 ≤ 16) && (sbB (epo zs) (rdP zs) && sm8 (sbA (epo zs) (rdP zs)) zs)
def srE (zs : List Int) : Int := if srB zs then epo zs else 0
def srP (zs : List Int) : List (Int × Int) := if srB zs then rdP zs else []
theorem sr_no {zs : List Int} (h : srB zs = false) : srE zs = 0 ∧ srP zs = [] := ⟨by unfold srE; rw [h]; rfl, by unfold srP; rw [h]; rfl⟩
theorem sr_yes {zs : List Int} (h : srB zs = true) : srE zs = epo zs ∧ srP zs = rdP zs := ⟨by unfold srE; rw [h]; rfl, by unfold srP; rw [h]; rfl⟩
theorem srB_len {zs : List Int} (h : ¬ (zs.length = 256 ∧ zs.getD 3 0 ≤ 16)) : srB zs = false := by unfold srB; rw [decide_eq_false h]; rfl
theorem srB_in {zs : List Int} (h : zs.length = 256 ∧ zs.getD 3 0 ≤ 16) : srB zs = (sbB (epo zs) (rdP zs) && sm8 (sbA (epo zs) (rdP zs)) zs) := by unfold srB; rw [decide_eq_true h]; rfl
theorem pl2_rng {ys : List Int} (h : ∀ z ∈ ys, 0 ≤ z ∧ z ≤ 255) (k : Nat) : ∀ p ∈ pl2 ys k, bP p := by
  induction k with
  | zero => simp [pl2]
  | succ k ih =>
    intro p hp
    simp only [pl2, List.mem_append, List.mem_singleton] at hp
    rcases hp with hp | rfl
    · exact ih p hp
    · exact ⟨getD_rng h _, getD_rng h _⟩
theorem Byt.drop {w : World} {b off : Nat} {zs : List Int} (h : Byt w (some ⟨b, off, none⟩) zs) (k : Nat) : Byt w (some ⟨b, off + k, none⟩) (zs.drop k) := by
  refine ⟨fun z hz => h.1 z (List.mem_of_mem_drop hz), fun hp => ?_⟩
  rw [List.length_drop] at hp
  obtain ⟨b', off', e, hl, hc⟩ := h.2 (by omega)
  obtain ⟨rfl, rfl⟩ : b = b' ∧ off = off' := by simpa using e
  refine ⟨b, off + k, rfl, hl, fun i hi => ?_⟩
  rw [List.length_drop] at hi
  rw [Nat.add_assoc, hc (k + i) (by omega)]
  simp [List.getD_eq_getElem?_getD, List.getElem?_drop]
theorem or_epo (x y : Int) (hx : 0 ≤ x ∧ x ≤ 255) (hy : 0 ≤ y ∧ y ≤ 255) : bits .or .i64 (x * 256) y = x * 256 + y := by
  obtain ⟨a, rfl⟩ := Int.eq_ofNat_of_zero_le hx.1
  obtain ⟨b, rfl⟩ := Int.eq_ofNat_of_zero_le hy.1
  have ha : a ≤ 255 := by omega
  have hb : b ≤ 255 := by omega
  have e : ((a : Int) * 256) = ((a * 256 : Nat) : Int) := by omega
  have h := Nat.two_pow_add_eq_or_of_lt (b := b) (i := 8) (by omega) a
  rw [show 2 ^ 8 * a = a * 256 from by omega] at h
  rw [e, i64_or_nat _ _ (by omega) (by omega), ← h]
  omega
end Go.Proofs.Ytnelpioadpdphaa
