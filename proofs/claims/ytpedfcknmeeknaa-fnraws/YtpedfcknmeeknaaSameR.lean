/-
  same, sameAll and sameRaw of the laws, where they say true.
-/
import Derived.Test.YtpedfcknmeeknaaElW
import Derived.Laws.BytesArg
import Derived.BigQuiet
namespace Go.Proofs.Ytpedfcknmeeknaa
open Go.RowKit
set_option linter.unusedVariables false
set_option linter.unusedSimpArgs false

theorem conv_bytesR (w : World) (a : Option Addr) (c : Nat) (zs : List Int) (hb : Byt w a zs) : (convert 22 9 (.slice a zs.length c)).run Try.prog w = .ok (.string (strOfNums zs)) w := by
  rcases Nat.eq_zero_or_pos zs.length with h0 | h0
  · obtain rfl : zs = [] := List.eq_nil_of_length_eq_zero h0
    cases a with
    | none => exact run_convert_bytes_nil (P := Try.prog) w 22 5 Try.underlying22 Try.underlying5 0 c 9 Try.underlying9
    | some x =>
      show (convert 22 9 (.slice (some x) 0 c)).run Try.prog w = _
      rw [run_convert_bytes_string w 22 9 5 _ _ c Try.underlying22 Try.underlying5 Try.underlying9, run_bytesToString w x 0 c [] (by simp [loadCells, loadCellsFrom])]
      rfl
  · obtain ⟨b, off, rfl, _, hc⟩ := hb.2 h0
    exact run_convert_bytes_arg (P := Try.prog) w 22 5 Try.underlying22 Try.underlying5 b off zs.length c zs rfl hc 9 Try.underlying9

/-- What same says of two rows. -/
def smB (zs ys : List Int) : Bool := (strOfNums zs).toList == (strOfNums ys).toList
theorem smB_self (zs : List Int) : smB zs zs = true := by simp [smB]
set_option maxHeartbeats 800000 in
theorem same_is (a b : Option Addr) (ca cb : Nat) (zs ys : List Int) (w : World) (ha : Byt w a zs) (hb : Byt w b ys) :
    Calls Try.prog 12 #[.slice a zs.length ca, .slice b ys.length cb] w fun e w' => e = .returned (.bool (smB zs ys)) ∧ w' = w := by
  have h1 := conv_bytesR w a ca zs ha
  have h2 := conv_bytesR w b cb ys hb
  unfold smB
  generalize strOfNums zs = S at *
  generalize strOfNums ys = T at *
  go_enter Try.func12, Try.ntmps12
  go_wp2
  go_ret
  exact ⟨rfl, rfl⟩

set_option maxHeartbeats 1600000 in
theorem sameAll_yes (a b : Option Addr) (ca cb : Nat) (es fs : List El) (w : World) (ha : Els false w a es) (hb : Els false w b fs) (hc : es.map El.ct = fs.map El.ct) (hn : es.length ≤ 1000000) :
    Calls Try.prog 13 #[.slice a es.length ca, .slice b es.length cb] w fun e w' => e = .returned (.bool true) ∧ Below w.heap.size w w' := by
  have HAB : Hid (Els false w a es ∧ Els false w b fs ∧ es.map El.ct = fs.map El.ct) := ⟨ha, hb, hc⟩
  clear ha hb hc
  go_enter Try.func13, Try.ntmps13
  go_wp2
  go_loopw [5] (fun i wr => ∃ (k m : Nat), k ≤ es.length ∧ i = .int .i64 k ∧ wr = w.drewN m) (fun i _ => es.length - (intOf i).toNat)
  case atStart => exact ⟨0, 0, Nat.zero_le _, rfl, rfl⟩
  case round =>
    obtain ⟨k, m, hk, rfl, hwr⟩ := hrel
    have hbd : Below w.heap.size w wr := by rw [hwr]; exact ⟨rfl, rfl, rfl, Nat.le_refl _, fun _ _ => rfl⟩
    have HWR : Hid (wr = w.drewN m ∧ Below w.heap.size w wr) := ⟨hwr, hbd⟩
    clear hwr
    by_cases hlt : k < es.length
    · have hltf : k < fs.length := by rw [← len_ctE HAB.out.2.2]; exact hlt
      obtain ⟨b1, o1, rfl, hb1, c1, hy1, -⟩ := (HAB.out.1.below hbd (Nat.le_refl _)).sec k hlt
      obtain ⟨b2, o2, rfl, hb2, c2, hy2, -⟩ := (HAB.out.2.1.below hbd (Nat.le_refl _)).sec k hltf
      have he := ctE_get HAB.out.2.2 k
      simp only [El.ct, Prod.mk.injEq] at he
      generalize es.getD k de = e1 at *
      generalize fs.getD k de = e2 at *
      obtain ⟨n1, a1, cc1, l1⟩ := e1
      obtain ⟨n2, a2, cc2, l2⟩ := e2
      simp only at he c1 c2 hy1 hy2
      obtain ⟨-, rfl⟩ := he
      have HY : Hid (Byt wr a1 l1 ∧ Byt wr a2 l1) := ⟨hy1, hy2⟩
      clear hbd hy1 hy2
      go_wp2
      go_quiet (first | (go_at_call 12; refine Calls.quiet_of_same (same_is a1 a2 cc1 cc2 l1 l1 _ (HY.out.1.drewN _) (HY.out.2.drewN _))))
      simp only [smB_self]
      go_wp2
      go_roundw
      case rel => exact ⟨k + 1, _, by omega, by go_num, by rw [HWR.out.1, World.drewN_drewN]⟩
      case measure => simp [intOf]; omega
    · go_wp2
      go_ret
      exact ⟨rfl, HWR.out.2⟩
end Go.Proofs.Ytpedfcknmeeknaa
