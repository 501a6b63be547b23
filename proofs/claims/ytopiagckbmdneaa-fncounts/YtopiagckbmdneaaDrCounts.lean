/-
  What DrawCounts draws.
-/
import Derived.Test.YtopiagckbmdneaaDraw3
namespace Go.Proofs.Ytopiagckbmdneaa
open Go.RowKit
set_option linter.unusedVariables false

set_option maxHeartbeats 1600000 in
theorem drawCounts_any (a : Option Addr) (bs : List Int) (cap : Nat) (w : World) (hb : Byt w a bs) (hl : bs.length ≤ maxLen) :
    Calls Try.prog 4 #[.slice a bs.length cap] w fun e w' => ∃ (a' : Option Addr) (c' : Nat) (l : List Int) (m : Int), e = .returned (.tuple #[.slice a' l.length c', .int .i64 m]) ∧ MinI w' w.heap.size w'.heap.size a' c' l ∧ l.length ≤ 30 ∧ -1 ≤ m ∧ m ≤ 81 ∧ Below w.heap.size w w' := by
  go_enter Try.func4, Try.ntmps4
  go_wp2_with fail
  refine (l1New_any a bs cap w hb hl).mono ?_
  rintro e w1 ⟨rfl, hd1⟩
  have HD1 : Hid (Dr w w1 w.heap.size w.heap.size a bs cap) := hd1
  clear hd1
  go_wp2_with fail
  refine (HD1.out.below 9 (by omega) (by omega)).mono ?_
  rintro e w2 ⟨⟨n, hn1, hn2, rfl⟩, hd2, ho2⟩
  have HD2 : Hid (Dr w w2 w.heap.size w.heap.size a bs cap) := hd2
  clear hd2 ho2 HD1
  go_wp2_with fail
  refine (HD2.out.text (1 + n) (by omega) (by omega)).mono ?_
  rintro e w3 ⟨v, l, rfl, hov, hll, hlr, hd3, ho3⟩
  have hz2 : w.heap.size < w2.heap.size := HD2.out.cur.lt.2
  have hz3 := ho3.size
  obtain ⟨a3, c3, rfl, hm3⟩ := hov.mine
  have HM3 : Hid (MinI w3 (w.heap.size + 1) w3.heap.size a3 c3 l) := hm3.mono (by omega) (Nat.le_refl _)
  have HD3 : Hid (Dr w w3 w.heap.size w.heap.size a bs cap) := hd3
  clear hd3 ho3 HD2 hov hm3 hlr
  have HIN : Hid (∀ T, Ins (w3.alloc (.cells #[.int .i64 (1 + n), .int .i64 (1 + n), .int .i64 (1 + n), .int .i64 n, .int .i64 0, .int .i64 80, .int .i64 81] T)) (some ⟨w3.heap.size, 0, none⟩) [1 + n, 1 + n, 1 + n, n, 0, 80, 81]) := fun T => by
    have := ins_new w3 T [1 + n, 1 + n, 1 + n, n, 0, 80, 81] (by intro z hz; simp at hz; omega)
    simpa using this
  have e1 : 1 + n - 1 = n := by omega
  go_wp2_with fail
  have hda := HD3.out.other (S := fun _ => False) ((Only.refl (fun _ => False) w3).alloc (Obj.cells #[.int .i64 (1 + n), .int .i64 (1 + n), .int .i64 (1 + n), .int .i64 n, .int .i64 0, .int .i64 80, .int .i64 81] 3)) (by simp) (by simp)
  refine (hda.pick w3.heap.size 7 [1 + n, 1 + n, 1 + n, n, 0, 80, 81] (HIN.out _) (by omega) (by simp) (by simp)).mono ?_
  rintro e w4 ⟨⟨x, hx, rfl⟩, hd4, ho4⟩
  have hxr : -1 ≤ x ∧ x ≤ 81 := by simp at hx; omega
  have HM4 : Hid (MinI w4 w.heap.size w4.heap.size a3 c3 l) := by
    have h1 := HM3.out.only (S := fun _ => False) ((Only.refl (fun _ => False) w3).alloc (Obj.cells #[.int .i64 (1 + n), .int .i64 (1 + n), .int .i64 (1 + n), .int .i64 n, .int .i64 0, .int .i64 80, .int .i64 81] 3)) (by simp)
    have h2 := h1.only ho4 (fun k h _ => by omega)
    exact h2.mono (by omega) (by have := ho4.size; simp at this; omega)
  have HB4 : Hid (Below w.heap.size w w4) := hd4.bel
  clear hda hd4 ho4 hx HIN HM3 HD3 e1
  go_wp2
  exact bodyPost_ret (v := .tuple #[.slice a3 l.length c3, .int .i64 x]) (by simp [results, Try.results4, go_sem]) rfl ⟨a3, c3, l, x, rfl, HM4.out, hll, hxr.1, hxr.2, HB4.out⟩
end Go.Proofs.Ytopiagckbmdneaa
