/-
  A number below a great bound, drawn.
-/
import Derived.Test.YtnelpioadpdphaaDraw2
namespace Go.Proofs.Ytnelpioadpdphaa
open Go.RowKit
set_option linter.unusedVariables false

set_option maxHeartbeats 1600000 in
theorem Dr.belowBig {w0 w : World} {B R : Nat} {a : Option Addr} {bs : List Int} {cap : Nat} (h : Dr w0 w B R a bs cap) (n : Int) (hn : 0 < n) (hn2 : n ≤ 2147483648) :
    Calls Try.prog 21 #[.pointer (some ⟨R, 0, none⟩), .int .i64 n] w fun e w' => (∃ x : Int, 0 ≤ x ∧ x < n ∧ e = .returned (.int .i64 x)) ∧ Dr w0 w' B R a bs cap ∧ Only (fun k => k = R) w w' := by
  by_cases h256 : n ≤ 256
  · exact h.below n hn h256
  · have H : Hid (Dr w0 w B R a bs cap) := h
    clear h
    go_enter Try.func21, Try.ntmps21
    go_wp2_with fail
    refine H.out.byte.mono ?_
    rintro e w1 ⟨⟨x1, a1, b1, rfl⟩, hd1, ho1⟩
    have HD1 : Hid _ := hd1
    clear hd1 H
    go_wp2_with fail
    refine HD1.out.byte.mono ?_
    rintro e w2 ⟨⟨x2, a2, b2, rfl⟩, hd2, ho2⟩
    have HD2 : Hid _ := hd2
    have HO2 : Hid (Only (fun k => k = R) w w2) := ho1.trans ho2
    clear hd2 HD1 ho1 ho2
    go_wp2_with fail
    refine HD2.out.byte.mono ?_
    rintro e w3 ⟨⟨x3, a3, b3, rfl⟩, hd3, ho3⟩
    have HD3 : Hid _ := hd3
    have HO3 : Hid (Only (fun k => k = R) w w3) := HO2.out.trans ho3
    clear hd3 HD2 ho3 HO2
    go_wp2_with fail
    refine HD3.out.byte.mono ?_
    rintro e w4 ⟨⟨x4, a4, b4, rfl⟩, hd4, ho4⟩
    have HD4 : Hid _ := hd4
    have HO4 : Hid (Only (fun k => k = R) w w4) := HO3.out.trans ho4
    clear hd4 HD3 ho4 HO3
    go_wp2
    go_ret
    refine ⟨⟨_, ?_, ?_, rfl⟩, HD4.out, HO4.out⟩
    · exact Int.emod_nonneg _ (by omega)
    · exact Int.emod_lt_of_pos _ hn
end Go.Proofs.Ytnelpioadpdphaa
