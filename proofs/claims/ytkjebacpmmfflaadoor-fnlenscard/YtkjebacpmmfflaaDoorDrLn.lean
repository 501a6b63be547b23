/-
  What DrawLens draws.
-/
import Derived.Test.YtkjebacpmmfflaaDoorDrRow
namespace Go.Proofs.YtkjebacpmmfflaaDoor
open Go.RowKit
set_option linter.unusedVariables false

set_option maxHeartbeats 3200000 in
theorem drawLens_any (a : Option Addr) (bs : List Int) (cap : Nat) (w : World) (hb : Byt w a bs) (hl : bs.length ≤ maxLen) :
    Calls Tryd.prog 8 #[.slice a bs.length cap] w fun e w' => ∃ (n g : Nat) (x : Int), e = .returned (.tuple #[.slice (some ⟨g, 0, none⟩) n n, .int .i64 x]) ∧ 1 ≤ n ∧ n ≤ 12 ∧ Row w' w.heap.size g n 1000 ∧ 0 ≤ x ∧ x ≤ 13 ∧ Below w.heap.size w w' := by
  go_enter Tryd.func8, Tryd.ntmps8
  go_wp2_with fail
  refine (l1New_any a bs cap w hb hl).mono ?_
  rintro e w1 ⟨rfl, hd1⟩
  have HD1 : Hid (Dr w w1 w.heap.size w.heap.size a bs cap) := hd1
  clear hd1
  go_wp2_with fail
  refine HD1.out.counts.mono ?_
  rintro e w2 ⟨n, g, rfl, hn1, hn2, hr2, hd2, ho2⟩
  have hz1' : w.heap.size < w1.heap.size := HD1.out.cur.lt.2
  have HR2 : Hid (Row w2 w1.heap.size g n 1000) := hr2
  have HD2 : Hid (Dr w w2 w.heap.size w.heap.size a bs cap) := hd2
  have hg2 := hr2.lt
  clear hr2 hd2 ho2 HD1
  have HIN : Hid (∀ T, Ins (w2.alloc (.cells #[.int .i64 0, .int .i64 1, .int .i64 2, .int .i64 3, .int .i64 4, .int .i64 12, .int .i64 13] T)) (some ⟨w2.heap.size, 0, none⟩) [0, 1, 2, 3, 4, 12, 13]) := fun T => by
    have := ins_newN w2 T [0, 1, 2, 3, 4, 12, 13] (by intro z hz; simp at hz; omega)
    simpa using this
  go_wp2_with fail
  have hoa : Only (fun _ => False) w2 (w2.alloc (Obj.cells #[.int .i64 0, .int .i64 1, .int .i64 2, .int .i64 3, .int .i64 4, .int .i64 12, .int .i64 13] 3)) := (Only.refl _ w2).alloc _
  refine ((HD2.out.other hoa (by simp) (by simp)).pick w2.heap.size 7 [0, 1, 2, 3, 4, 12, 13] (HIN.out _) (by omega) (by simp) (by simp)).mono ?_
  rintro e w3 ⟨⟨y, hy, rfl⟩, hd3, ho3⟩
  have hyr : 0 ≤ y ∧ y ≤ 13 := by simp at hy; omega
  have HR3 : Hid (Row w3 w1.heap.size g n 1000) := (HR2.out.only hoa (by simp)).only ho3 (by omega)
  have HD3 : Hid (Dr w w3 w.heap.size w.heap.size a bs cap) := hd3
  clear hd3 ho3 hoa HIN HR2 HD2 hy
  go_wp2
  refine bodyPost_ret (v := .tuple #[.slice (some ⟨g, 0, none⟩) n n, .int .i64 y]) (by simp [results, Tryd.results8, go_sem]) rfl ?_
  obtain ⟨q, h1, h2, h3⟩ := HR3.out
  exact ⟨n, g, y, rfl, hn1, hn2, ⟨q, h1.mono (by omega), h2, h3⟩, hyr.1, hyr.2, HD3.out.bel⟩
end Go.Proofs.YtkjebacpmmfflaaDoor
