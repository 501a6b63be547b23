/-
  Bits that BitsOk takes are a number below a power of two.
-/
import Derived.Test.YtecmnbdnnlifhaaDoorOkB
import Derived.Test.YtecmnbdnnlifhaaDoorNum
namespace Go.Proofs.YtecmnbdnnlifhaaDoor
open Go.RowKit
set_option linter.unusedVariables false

theorem okB_enc {N : Int} {zs : List Int} (h : okB N zs = true) (hr : ∀ z ∈ zs, 0 ≤ z ∧ z ≤ 255) : ∃ n : Nat, N = n ∧ n ≤ 4096 ∧ zs = enc n (val zs) ∧ val zs < 2 ^ n := by
  simp only [okB, Bool.and_eq_true, decide_eq_true_eq, Bool.or_eq_true, beq_iff_eq] at h
  obtain ⟨⟨h0, h1, h2⟩, h3⟩ := h
  obtain ⟨n, rfl⟩ := Int.eq_ofNat_of_zero_le h0
  have := val_bits n zs hr (by omega) (by
    rcases h3 with h3 | h3
    · exact .inl (by omega)
    · refine .inr ?_
      have hz := getD_rng hr (zs.length - 1)
      obtain ⟨z, hz'⟩ := Int.eq_ofNat_of_zero_le hz.1
      rw [hz'] at h3 ⊢
      rw [show ((n : Int) % 8).toNat = n % 8 from by omega] at h3
      have h4 : ((z / 2 ^ (n % 8) : Nat) : Int) = 0 := by simpa using h3
      rw [Int.toNat_natCast]
      have h5 : z / 2 ^ (n % 8) = 0 := by omega
      exact (Nat.div_eq_zero_iff_lt (Nat.pow_pos (by omega))).1 h5)
  exact ⟨n, rfl, by omega, this.2, this.1⟩

end Go.Proofs.YtecmnbdnnlifhaaDoor
