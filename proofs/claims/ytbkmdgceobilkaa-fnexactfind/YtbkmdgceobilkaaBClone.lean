/-
  bytes.Clone: a copy of a row of bytes.
-/
import Derived.Test.YtbkmdgceobilkaaBCut
import Derived.Lib.SliceRun
namespace Go.Proofs.Ytbkmdgceobilkaa
open Go.RowKit
set_option linter.unusedVariables false

set_option maxHeartbeats 800000 in
theorem bytesClone_any (a : Option Addr) (cap : Nat) (zs : List Int) (w : World) (hb : Byt w a zs) (hn : zs.length ≤ 1000000) :
    Calls Try.prog 20 #[.slice a zs.length cap] w fun e w' => (∃ v, e = .returned v ∧ OVB w' w.heap.size v zs) ∧ Below w.heap.size w w' := by
  cases a with
  | none =>
    have hz : zs = [] := by
      rcases Nat.eq_zero_or_pos zs.length with h0 | h0
      · exact List.eq_nil_of_length_eq_zero h0
      · obtain ⟨b, off, e, _⟩ := hb.2 h0
        cases e
    subst hz
    have heq : (binOp .eql 22 (.slice none 0 cap) (.slice none 0 0)).run Try.prog w = .ok (.bool true) w := Lib.run_eql_slice_nil w _ _ none 0 cap 0 0 Try.underlying22
    go_enter Try.func20, Try.ntmps20
    go_wp2
    go_ret
    exact ⟨⟨_, rfl, OVB.nil _ _⟩, Below.refl _ _⟩
  | some ad =>
    have HO : Hid (OVB (w.alloc (Obj.cells #[] 5)) w.heap.size (.slice (some ⟨w.heap.size, 0, none⟩) 0 0) []) := OVB.empty w _ (Nat.le_refl _)
    have HY : Hid (Byt (w.alloc (Obj.cells #[] 5)) (some ad) zs) := hb.alloc _
    have HB : Hid (Below w.heap.size w (w.alloc (Obj.cells #[] 5))) := (Below.refl _ _).alloc (Nat.le_refl _) _
    clear hb
    have heq : (binOp .eql 22 (.slice (some ad) zs.length cap) (.slice none 0 0)).run Try.prog w = .ok (.bool false) w := Lib.run_eql_slice_nil w _ _ (some ad) zs.length cap 0 0 Try.underlying22
    go_enter Try.func20, Try.ntmps20
    go_wp2_with (at_builtin; (refine wpList_append_byt rfl (.tmp 5) (.tmp 6) rfl w.heap.size (.slice (some ⟨w.heap.size, 0, none⟩) 0 0) [] rfl HO.out (some ad) cap zs rfl HY.out (by simp; omega) (by simp) ?_; intro v1 w1 hov1 hgr1; have HB1 : Hid (Below w.heap.size w w1) := appB_below HB.out (by simp) HO.out hgr1; have HV1 : Hid (OVB w1 w.heap.size v1 zs) := (by simpa [Hid] using hov1); clear hov1 hgr1))
    go_ret
    exact ⟨⟨_, rfl, HV1.out⟩, HB1.out⟩

end Go.Proofs.Ytbkmdgceobilkaa
