/-
  Norm: the model and the program answer alike.
-/
import Derived.Test.YtbbgkjomomejlaaINorm5
namespace Go.Proofs.Ytbbgkjomomejlaa
open Go.RowKit
set_option linter.unusedVariables false

set_option maxHeartbeats 1600000 in
theorem specNorm_bad (a : Option Addr) (cap : Nat) (cs : List Int) (w : World) (hb : Ins w a cs) (hn : cs.length ≤ 281474976710656) (hc : cntB cs = false) :
    Calls Try.prog 11 #[.slice a cs.length cap] w fun e w' => e = .returned (.tuple #[.slice none 0 0, .bool false]) ∧ Below w.heap.size w w' := by
  have HT := specCnt_any a cap cs w hb hn
  rw [hc] at HT
  go_enter Try.func11, Try.ntmps11
  go_wp2_with fail
  refine HT.mono ?_
  rintro e w0 ⟨rfl, m0, rfl⟩
  clear HT
  go_wp2
  exact bodyPost_ret (v := .tuple #[.slice none 0 0, .bool false]) (by simp [results, Try.results11, go_sem]) rfl ⟨rfl, below_drewNN (Below.refl _ _) _⟩

set_option maxHeartbeats 1600000 in
theorem specNorm_no (a : Option Addr) (cap : Nat) (cs : List Int) (w : World) (hb : Ins w a cs) (hc : cntB cs = true) (hr : ¬ roomy cs) :
    Calls Try.prog 11 #[.slice a cs.length cap] w fun e w' => e = .returned (.tuple #[.slice none 0 0, .bool false]) ∧ Below w.heap.size w w' := by
  obtain ⟨hn1, hn2⟩ := cntB_bndN hc
  have HT := specCnt_any a cap cs w hb (by omega)
  rw [hc] at HT
  have HSM : Hid (∀ w, Ins w a cs → Calls Try.prog 23 #[.slice a cs.length cap] w fun e w' => e = .returned (.int .i64 (sumF one cs)) ∧ w' = w) := fun w h => l2some_any a cap cs w h hn2
  unfold roomy at hr
  generalize sumF one cs = S at *
  clear hc
  go_enter Try.func11, Try.ntmps11
  go_wp2_with fail
  refine HT.mono ?_
  rintro e w0 ⟨rfl, m0, rfl⟩
  clear HT
  go_wp2_with fail
  refine (HSM.out _ (hb.drewN m0)).mono ?_
  rintro e w1 ⟨rfl, rfl⟩
  by_cases h1 : S < 1
  · go_wp2
    exact bodyPost_ret (v := .tuple #[.slice none 0 0, .bool false]) (by simp [results, Try.results11, go_sem]) rfl ⟨rfl, below_drewNN (Below.refl _ _) _⟩
  · have h2 : 64 < S := by omega
    go_wp2_with fail
    refine (HSM.out _ (hb.drewN m0)).mono ?_
    rintro e w2 ⟨rfl, rfl⟩
    go_wp2
    exact bodyPost_ret (v := .tuple #[.slice none 0 0, .bool false]) (by simp [results, Try.results11, go_sem]) rfl ⟨rfl, below_drewNN (Below.refl _ _) _⟩

set_option maxHeartbeats 1600000 in
theorem specNorm_yes (a : Option Addr) (cap : Nat) (cs : List Int) (w : World) (hb : Ins w a cs) (hc : cntB cs = true) (hr : roomy cs) :
    Calls Try.prog 11 #[.slice a cs.length cap] w fun e w' => ∃ g, e = .returned (.tuple #[.slice (some ⟨g, 0, none⟩) cs.length cs.length, .bool true]) ∧ OwI w' w.heap.size g cs.length (shares cs (rest cs)) ∧ Below w.heap.size w w' := by
  obtain ⟨hn1, hn2⟩ := cntB_bndN hc
  have HT := specCnt_any a cap cs w hb (by omega)
  rw [hc] at HT
  have HSM : Hid (∀ w, Ins w a cs → Calls Try.prog 23 #[.slice a cs.length cap] w fun e w' => e = .returned (.int .i64 (sumF one cs)) ∧ w' = w) := fun w h => l2some_any a cap cs w h hn2
  have HN : Hid (∀ w, Ins w a cs → Calls Try.prog 24 #[.slice a cs.length cap] w fun e w' => e = .returned (.slice (some ⟨w.heap.size, 0, none⟩) cs.length cs.length) ∧ OwI w' w.heap.size w.heap.size cs.length (shares cs (rest cs)) ∧ Below w.heap.size w w') := fun w h => l3norm_any a cap cs w h hc hr
  unfold roomy at hr
  generalize sumF one cs = S at *
  generalize shares cs (rest cs) = ns at *
  clear hc
  go_enter Try.func11, Try.ntmps11
  go_wp2_with fail
  refine HT.mono ?_
  rintro e w0 ⟨rfl, m0, rfl⟩
  clear HT
  go_wp2_with fail
  refine (HSM.out _ (hb.drewN m0)).mono ?_
  rintro e w1 ⟨rfl, rfl⟩
  go_wp2_with fail
  refine (HSM.out _ (hb.drewN m0)).mono ?_
  rintro e w2 ⟨rfl, rfl⟩
  go_wp2_with fail
  refine (HN.out _ (hb.drewN m0)).mono ?_
  rintro e w3 ⟨rfl, ho, hbb⟩
  clear HN HSM hb
  have HO : Hid (OwI w3 w.heap.size w.heap.size cs.length ns) := ho
  have HB : Hid (Below w.heap.size w w3) := (below_drewNN (Below.refl w.heap.size w) m0).trans hbb
  clear ho hbb
  have hsz : (w.drewN m0).heap.size = w.heap.size := rfl
  rw [hsz]
  go_wp2
  exact bodyPost_ret (v := .tuple #[.slice (some ⟨w.heap.size, 0, none⟩) cs.length cs.length, .bool true]) (by simp [results, Try.results11, go_sem]) rfl ⟨_, rfl, HO.out, HB.out⟩

/-- The model and the program share alike. -/
theorem norm_both (cs : List Int) (hl : cs.length ≤ 1048576) : ∃ (ys : List Int) (ok : Bool), ys.length ≤ 1048576 ∧
    (∀ (a : Option Addr) (cap : Nat) (w : World), Ins w a cs → Calls Try.prog 11 #[.slice a cs.length cap] w fun e w' =>
      ∃ a' cp, e = .returned (.tuple #[.slice a' ys.length cp, .bool ok]) ∧ MinI w' w.heap.size w'.heap.size a' cp ys ∧ Below w.heap.size w w') ∧
    (∀ (a : Option Addr) (cap : Nat) (w : World), Ins w a cs → Calls Try.prog 12 #[.slice a cs.length cap] w fun e w' =>
      ∃ a' cp, e = .returned (.tuple #[.slice a' ys.length cp, .bool ok]) ∧ MinI w' w.heap.size w'.heap.size a' cp ys ∧ Below w.heap.size w w') := by
  cases hc : cntB cs with
  | true =>
    obtain ⟨h1, h2⟩ := cntB_bndN hc
    by_cases hr : roomy cs
    · have hsl : (shares cs (rest cs)).length = cs.length := (fair_all (some1_of hr.1) _).1
      refine ⟨shares cs (rest cs), true, by rw [hsl]; omega, ?_, ?_⟩
      · intro a cap w hb
        refine (specNorm_yes a cap cs w hb hc hr).mono ?_
        rintro e w' ⟨g, rfl, ho, hbb⟩
        exact ⟨_, cs.length, by rw [hsl], ho.mine, hbb⟩
      · intro a cap w hb
        refine (implNorm_ok a cap cs w hb hc).mono ?_
        rintro e w' ⟨hbb, _, hy⟩
        obtain ⟨rfl, ho⟩ := hy hr
        exact ⟨_, cs.length, by rw [hsl], ho.mine, hbb⟩
    · refine ⟨[], false, by simp, ?_, ?_⟩
      · intro a cap w hb
        refine (specNorm_no a cap cs w hb hc hr).mono ?_
        rintro e w' ⟨rfl, hbb⟩
        exact ⟨none, 0, rfl, .inl ⟨rfl, rfl, rfl⟩, hbb⟩
      · intro a cap w hb
        refine (implNorm_ok a cap cs w hb hc).mono ?_
        rintro e w' ⟨hbb, hno, _⟩
        obtain rfl := hno hr
        exact ⟨none, 0, rfl, .inl ⟨rfl, rfl, rfl⟩, hbb⟩
  | false =>
    refine ⟨[], false, by simp, ?_, ?_⟩
    · intro a cap w hb
      refine (specNorm_bad a cap cs w hb (by omega) hc).mono ?_
      rintro e w' ⟨rfl, hbb⟩
      exact ⟨none, 0, rfl, .inl ⟨rfl, rfl, rfl⟩, hbb⟩
    · intro a cap w hb
      refine (implNorm_bad a cap cs w hb (by omega) hc).mono ?_
      rintro e w' ⟨rfl, rfl⟩
      exact ⟨none, 0, rfl, .inl ⟨rfl, rfl, rfl⟩, Below.refl _ _⟩
end Go.Proofs.Ytbbgkjomomejlaa
