/-
  Table of the program.
-/
import Derived.Test.YtmhpgkfaihcmeaaTb5
import Derived.Test.YtmhpgkfaihcmeaaArR
namespace Go.Proofs.Ytmhpgkfaihcmeaa
open Go.RowKit
set_option linter.unusedVariables false

set_option maxHeartbeats 1600000 in
theorem implTable_no (a : Option Addr) (cap : Nat) (zs : List Int) (w : World) (hb : Ins w a zs) (hl : zs.length ≤ 281474976710656) (h : normB zs = false) :
    Calls Try.prog 10 #[.slice a zs.length cap] w fun e w' => e = .returned (.tuple #[.slice none 0 0, .bool false]) ∧ w' = w := by
  have HT := implNormOk_any a cap zs w hb hl
  rw [h] at HT
  go_enter Try.func10, Try.ntmps10
  go_wp2_with fail
  refine HT.mono ?_
  rintro e w0 ⟨rfl, rfl⟩
  go_wp2
  go_ret2
  exact ⟨rfl, rfl⟩
set_option maxHeartbeats 1600000 in
theorem implTable_yes (a : Option Addr) (cap : Nat) (zs : List Int) (w : World) (hb : Ins w a zs) (h : normB zs = true) :
    Calls Try.prog 10 #[.slice a zs.length cap] w fun e w' => ∃ g, e = .returned (.tuple #[.slice (some ⟨g, 0, none⟩) 64 64, .bool true]) ∧ ArI w' w.heap.size w'.heap.size (some ⟨g, 0, none⟩) (tb (pl (fl 0 zs) (plc 64)) zs 64) ∧ Below w.heap.size w w' := by
  have hl := normB_bnd h
  have HT := implNormOk_any a cap zs w hb (by omega)
  have HS := cellsOf_any a cap zs w hb h
  have hr := tb_rng h 64 (Nat.le_refl _)
  rw [h] at HT
  generalize tb (pl (fl 0 zs) (plc 64)) zs 64 = ys at *
  have HR : Hid (∀ z ∈ ys, -9223372036854775808 ≤ z ∧ z ≤ 9223372036854775807) := fun z hz => by have := hr z hz; omega
  clear h hr
  go_enter Try.func10, Try.ntmps10
  go_wp2_with fail
  refine HT.mono ?_
  rintro e w0 ⟨rfl, rfl⟩
  go_wp2_with fail
  refine HS.mono ?_
  rintro e w1 ⟨g, rfl, hg, ho, hbb⟩
  have HO : Hid (_ ∧ _ ∧ _) := ⟨ho, hbb, hg⟩
  clear ho hbb hg HS HT
  go_wp2
  go_ret2
  exact ⟨g, rfl, ⟨HR.out, .inr ⟨g, _, rfl, HO.out.2.2, (Array.getElem?_eq_some_iff.1 HO.out.1).1, HO.out.1⟩⟩, HO.out.2.1⟩

end Go.Proofs.Ytmhpgkfaihcmeaa
