/-
  Codes: the model and the program answer alike.
-/
import Derived.Test.YtaiikncdghjmjaaDoorCodes2
import Derived.Test.YtaiikncdghjmjaaDoorCodes3
import Derived.Test.YtaiikncdghjmjaaDoorILens2
import Derived.Test.YtaiikncdghjmjaaDoorILens3
namespace Go.Proofs.YtaiikncdghjmjaaDoor
open Go.RowKit
set_option linter.unusedVariables false

theorem lensB_okC {zs : List Int} (h : lensB zs = true) : 1 ≤ zs.length ∧ zs.length ≤ 80 ∧ ∀ z ∈ zs, 0 ≤ z ∧ z ≤ 12 := by
  simp only [lensB, decide_eq_true_eq] at h
  exact ⟨h.1, h.2.1, h.2.2.1⟩

set_option maxHeartbeats 1600000 in
theorem implCodes_no (a : Option Addr) (cap : Nat) (zs : List Int) (w : World) (hb : Ins w a zs) (hl : zs.length ≤ 281474976710656) (h : lensB zs = false) (h4 : Four w) (hE : ErrT w) :
    Calls Tryd.prog 17 #[.slice a zs.length cap] w fun e w' => e = .returned (.tuple #[.slice none 0 0, .bool false]) ∧ Below w.heap.size w w' := by
  have HT := implLens_any a cap zs w hb hl h4 hE
  rw [h] at HT
  go_enter Tryd.func17, Tryd.ntmps17
  go_wp2_with fail
  refine HT.mono ?_
  rintro e w1 ⟨rfl, hb1'⟩
  clear HT
  have HBB : Hid (Below w.heap.size w w1) := by first | exact hb1' | (subst hb1'; exact Below.refl _ _)
  clear hb1'
  go_wp2
  exact bodyPost_ret (v := .tuple #[.slice none 0 0, .bool false]) (by simp [results, Tryd.results17, go_sem]) rfl ⟨rfl, HBB.out⟩

set_option maxHeartbeats 1600000 in
theorem implCodes_yes (a : Option Addr) (cap : Nat) (zs : List Int) (w : World) (hb : Ins w a zs) (h : lensB zs = true) (h4 : Four w) (hE : ErrT w) :
    Calls Tryd.prog 17 #[.slice a zs.length cap] w fun e w' =>
      ∃ g, e = .returned (.tuple #[.slice (some ⟨g, 0, none⟩) zs.length zs.length, .bool true]) ∧ OwI w' w.heap.size g zs.length (crun zs (sbL zs 12)).2.2 ∧ Below w.heap.size w w' := by
  obtain ⟨hn1, hn2, hok⟩ := lensB_okC h
  have HT := implLens_any a cap zs w hb (by omega) h4 hE
  rw [h] at HT
  go_enter Tryd.func17, Tryd.ntmps17
  go_wp2_with fail
  refine HT.mono ?_
  rintro e w1 ⟨rfl, hb1'⟩
  clear HT
  have hbb : Below w.heap.size w w1 := by first | exact hb1' | (subst hb1'; exact Below.refl _ _)
  clear hb1'
  go_wp2_with fail
  refine (codesOf_any a cap zs w1 (hb.below hbb (Nat.le_refl _)) hn2 hok).mono ?_
  rintro e w2 ⟨rfl, ho, hb2⟩
  have HA : Hid (OwI w2 w.heap.size w1.heap.size zs.length (crun zs (sbL zs 12)).2.2) := ho.mono hbb.size
  have HBB : Hid (Below w.heap.size w w2) := hbb.trans (hb2.mono hbb.size)
  clear ho hb2 hbb
  generalize w1.heap.size = g at *
  go_wp2
  exact bodyPost_ret (v := .tuple #[.slice (some ⟨g, 0, none⟩) zs.length zs.length, .bool true]) (by simp [results, Tryd.results17, go_sem]) rfl ⟨g, rfl, HA.out, HBB.out⟩

set_option maxHeartbeats 1600000 in
theorem specCodes_no (a : Option Addr) (cap : Nat) (zs : List Int) (w : World) (hb : Ins w a zs) (hl : zs.length ≤ 281474976710656) (h : lensB zs = false) :
    Calls Tryd.prog 16 #[.slice a zs.length cap] w fun e w' => e = .returned (.tuple #[.slice none 0 0, .bool false]) ∧ Below w.heap.size w w' := by
  have HT := specLens_any a cap zs w hb hl
  rw [h] at HT
  go_enter Tryd.func16, Tryd.ntmps16
  go_wp2_with fail
  refine HT.mono ?_
  rintro e w1 ⟨rfl, hb1'⟩
  clear HT
  have HBB : Hid (Below w.heap.size w w1) := by first | exact hb1' | (subst hb1'; exact Below.refl _ _)
  clear hb1'
  go_wp2
  exact bodyPost_ret (v := .tuple #[.slice none 0 0, .bool false]) (by simp [results, Tryd.results16, go_sem]) rfl ⟨rfl, HBB.out⟩

set_option maxHeartbeats 1600000 in
theorem specCodes_yes (a : Option Addr) (cap : Nat) (zs : List Int) (w : World) (hb : Ins w a zs) (h : lensB zs = true) :
    Calls Tryd.prog 16 #[.slice a zs.length cap] w fun e w' =>
      ∃ g, e = .returned (.tuple #[.slice (some ⟨g, 0, none⟩) zs.length zs.length, .bool true]) ∧ OwI w' w.heap.size g zs.length (crun zs (sbL zs 12)).2.2 ∧ Below w.heap.size w w' := by
  obtain ⟨hn1, hn2, hok⟩ := lensB_okC h
  have HT := specLens_any a cap zs w hb (by omega)
  rw [h] at HT
  go_enter Tryd.func16, Tryd.ntmps16
  go_wp2_with fail
  refine HT.mono ?_
  rintro e w1 ⟨rfl, hb1'⟩
  clear HT
  have hbb : Below w.heap.size w w1 := by first | exact hb1' | (subst hb1'; exact Below.refl _ _)
  clear hb1'
  go_wp2_with fail
  refine (l2codes_any a cap zs w1 (hb.below hbb (Nat.le_refl _)) hn2).mono ?_
  rintro e w2 ⟨rfl, ho, hb2⟩
  have HA : Hid (OwI w2 w.heap.size w1.heap.size zs.length (crun zs (sbL zs 12)).2.2) := ho.mono hbb.size
  have HBB : Hid (Below w.heap.size w w2) := hbb.trans (hb2.mono hbb.size)
  clear ho hb2 hbb
  generalize w1.heap.size = g at *
  go_wp2
  exact bodyPost_ret (v := .tuple #[.slice (some ⟨g, 0, none⟩) zs.length zs.length, .bool true]) (by simp [results, Tryd.results16, go_sem]) rfl ⟨g, rfl, HA.out, HBB.out⟩

/-- The model and the program tell codes alike. -/
theorem codes_both (zs : List Int) (hl : zs.length ≤ 1048576) : ∃ (ys : List Int) (ok : Bool), ys.length ≤ 1048576 ∧
    (∀ (a : Option Addr) (cap : Nat) (w : World), Ins w a zs → Calls Tryd.prog 16 #[.slice a zs.length cap] w fun e w' =>
      ∃ a' cp, e = .returned (.tuple #[.slice a' ys.length cp, .bool ok]) ∧ MinI w' w.heap.size w'.heap.size a' cp ys ∧ Below w.heap.size w w') ∧
    (∀ (a : Option Addr) (cap : Nat) (w : World), Ins w a zs → Four w → ErrT w → Calls Tryd.prog 17 #[.slice a zs.length cap] w fun e w' =>
      ∃ a' cp, e = .returned (.tuple #[.slice a' ys.length cp, .bool ok]) ∧ MinI w' w.heap.size w'.heap.size a' cp ys ∧ Below w.heap.size w w') := by
  cases h : lensB zs with
  | true =>
    have hcl := crun_len zs (sbL zs 12)
    refine ⟨(crun zs (sbL zs 12)).2.2, true, by rw [hcl]; exact hl, ?_, ?_⟩
    · intro a cap w hb
      refine (specCodes_yes a cap zs w hb h).mono ?_
      rintro e w' ⟨g, rfl, ho, hbb⟩
      exact ⟨_, zs.length, by rw [hcl], ho.mine, hbb⟩
    · intro a cap w hb h4 hE
      refine (implCodes_yes a cap zs w hb h h4 hE).mono ?_
      rintro e w' ⟨g, rfl, ho, hbb⟩
      exact ⟨_, zs.length, by rw [hcl], ho.mine, hbb⟩
  | false =>
    refine ⟨[], false, by simp, ?_, ?_⟩
    · intro a cap w hb
      refine (specCodes_no a cap zs w hb (by omega) h).mono ?_
      rintro e w' ⟨rfl, hbb⟩
      exact ⟨none, 0, rfl, .inl ⟨rfl, rfl, rfl⟩, hbb⟩
    · intro a cap w hb h4 hE
      refine (implCodes_no a cap zs w hb (by omega) h h4 hE).mono ?_
      rintro e w' ⟨rfl, hbb⟩
      exact ⟨none, 0, rfl, .inl ⟨rfl, rfl, rfl⟩, hbb⟩
end Go.Proofs.YtaiikncdghjmjaaDoor
