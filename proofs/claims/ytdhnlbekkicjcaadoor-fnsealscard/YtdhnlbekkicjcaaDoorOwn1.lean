/-
  The model's l1own: a copy of some bits in memory of its own.
-/
import Derived.Test.YtdhnlbekkicjcaaDoorNews
namespace Go.Proofs.YtdhnlbekkicjcaaDoor
open Go.RowKit
set_option linter.unusedVariables false

theorem heap3 (w : World) (o1 o2 o3 : Obj) : (((w.alloc o1).alloc o2).alloc o3).drew.heap[w.heap.size + 1 + 1]? = some o3 := by
  show (((w.heap.push o1).push o2).push o3)[w.heap.size + 1 + 1]? = _
  simp only [Array.getElem?_push, Array.size_push, if_true]
theorem cell3 (w : World) (o1 o2 o3 : Obj) (b o : Nat) (h : b < w.heap.size) : (((w.alloc o1).alloc o2).alloc o3).drew.cell? ⟨b, o, none⟩ = w.cell? ⟨b, o, none⟩ :=
  ((((Below.refl w.heap.size w).alloc (Nat.le_refl _) o1).alloc (by simp) o2).alloc (by simp; omega) o3).drew.cell (p := ⟨b, o, none⟩) h
theorem le3 (w : World) (o1 o2 o3 : Obj) : w.heap.size + 1 + 1 ≤ (((w.alloc o1).alloc o2).alloc o3).drew.heap.size := by
  show w.heap.size + 1 + 1 ≤ (((w.heap.push o1).push o2).push o3).size
  simp

theorem after3 {w w1 : World} {x0 x1 y0 y1 : Value} {T U : TypeId} {o3 : Obj} {row : Option Nat} (h : (((w.alloc (.cells #[x0, x1] T)).alloc (.cells #[y0, y1] U)).alloc o3).drew.grownBy w1 row) (hr : row = some (w.heap.size + 1 + 1)) :
    w1.cell? ⟨w.heap.size, 0, none⟩ = some x0 ∧ w1.cell? ⟨w.heap.size, 1, none⟩ = some x1 ∧ w1.cell? ⟨w.heap.size + 1, 0, none⟩ = some y0 ∧ w1.cell? ⟨w.heap.size + 1, 1, none⟩ = some y1 ∧
      w1.frozen? ⟨w.heap.size + 1, 0, none⟩ = false ∧ w1.frozen? ⟨w.heap.size + 1, 1, none⟩ = false ∧ Below w.heap.size w w1 := by
  subst hr
  have hb : Below (w.heap.size + 1 + 1) (((w.alloc (.cells #[x0, x1] T)).alloc (.cells #[y0, y1] U)).alloc o3) w1 :=
    ⟨h.os, h.tape, h.output, h.size, fun k hk => h.block k (by show k < (((w.heap.push _).push _).push _).size; simp; omega) (by simp; omega)⟩
  have f : ∀ j, (((w.alloc (.cells #[x0, x1] T)).alloc (.cells #[y0, y1] U)).alloc o3).frozen? ⟨w.heap.size + 1, j, none⟩ = false := fun j =>
    (((Below.refl ((w.alloc (.cells #[x0, x1] T)).alloc (.cells #[y0, y1] U)).heap.size _).alloc (Nat.le_refl _) o3).frozen (p := ⟨w.heap.size + 1, j, none⟩) (by simp)).trans (by simp)
  refine ⟨keep hb (by omega) (keepA _ (by simp; omega) (keepA _ (by simp) (by simp))), keep hb (by omega) (keepA _ (by simp; omega) (keepA _ (by simp) (by simp))), keep hb (by omega) (keepA _ (by simp) (by simp)), keep hb (by omega) (keepA _ (by simp) (by simp)), ?_, ?_, ?_⟩
  · exact (hb.frozen (p := ⟨w.heap.size + 1, 0, none⟩) (by simp)).trans (f 0)
  · exact (hb.frozen (p := ⟨w.heap.size + 1, 1, none⟩) (by simp)).trans (f 1)
  · exact ((((Below.refl w.heap.size w).alloc (Nat.le_refl _) _).alloc (by simp) _).alloc (by simp; omega) _).trans (hb.mono (by omega))

set_option maxHeartbeats 800000 in
theorem l1own_some (b off cap : Nat) (zs : List Int) (N : Int) (w : World) (hb : Byt w (some ⟨b, off, none⟩) zs) (hn : zs.length ≤ 1048576) (hp : 0 < zs.length) (hbl : b < w.heap.size) :
    Calls Tryd.prog 54 #[.agg #[.slice (some ⟨b, off, none⟩) zs.length cap, .int .i64 N]] w fun e w' =>
      ∃ g cp, e = .returned (.agg #[.slice (some ⟨g, 0, none⟩) zs.length cp, .int .i64 N]) ∧ Own w' w.heap.size g cp zs ∧ Below w.heap.size w w' := by
  obtain ⟨i0, hi, hz0, hz1, hz2⟩ := info_parts Tryd.infoU8
  have hown0 : ∀ W : World, W.heap[w.heap.size + 1 + 1]? = some (.cells #[] 5 (0, 0)) → W.ownsRow (w.heap.size + 1 + 1) 5 1 (.slice (some ⟨w.heap.size + 1 + 1, 0, none⟩) 0 0) 0 [] :=
    fun W h => ⟨rfl, .inr ⟨_, 0, #[], rfl, Nat.le_refl _, h, Nat.le_refl _, by simp, rfl, rfl⟩⟩
  have hnews : ∀ W : World, (∀ i, i < zs.length → W.cell? ⟨b, off + i, none⟩ = w.cell? ⟨b, off + i, none⟩) → ∀ j u, (zs.map (Value.int .u8))[j]? = some u → W.cell? ((⟨b, off, none⟩ : Addr).add j) = some u := by
    intro W hW
    obtain ⟨b', off', he, _, hc⟩ := hb.2 hp
    simp at he
    obtain ⟨rfl, rfl⟩ := he
    exact news_of (fun i hi => (hW i hi).trans (hc i hi))
  go_enter Tryd.func54, Tryd.ntmps54
  go_wp2
  go_region_law (refine step_append_lies _ rfl (.tmp 3) (.tmp 5) 22 rfl (w.heap.size + 1 + 1) 5 i0 (.int .u8 0) 1 1 Tryd.underlying22 hi hz0 hz1 hz2 rfl (by decide) (.slice (some ⟨w.heap.size + 1 + 1, 0, none⟩) 0 0) 0 [] (by simp [Act.eval]) (hown0 _ (by exact heap3 w _ _ _)) ⟨b, off, none⟩ zs.length cap (zs.map (Value.int .u8)) (by simp [Act.eval]) (by simp) (hnews _ (fun i hi => by exact cell3 w _ _ _ b (off + i) hbl)) (oneCells zs) hp (by unfold maxLen; omega) (by omega) (by exact le3 w _ _ _) _ rfl ?_; intro g cp w1 hown hgrow hat hlt; obtain ⟨a0, a1, a2, a3, f2, f3, hbb⟩ := after3 hgrow rfl; clear hgrow hat)
  all_goals
    have HO : Hid (Own w1 (w.heap.size + 1 + 1) g cp zs) := ⟨by simpa using hown, hb.1⟩
    have HBB : Hid (Below w.heap.size w w1) := hbb
    clear hown hbb
    go_wp2
    refine bodyPost_ret (v := .agg #[.slice (some ⟨g, 0, none⟩) zs.length cp, .int .i64 N]) (by simp [results, Tryd.results54, go_sem, a2, a3]) rfl ⟨g, cp, rfl, ?_, ?_⟩
    · refine Own.mono (B := w.heap.size + 1 + 1) ?_ (by omega)
      have hlt2 := HO.out.lt.1
      repeat (refine Own.setCell_other ?_ (by simp; omega) _)
      exact HO.out
    · repeat (refine Below.setCell ?_ (by first | (simp; done) | (simp; omega)) _)
      exact HBB.out

theorem own_empty3 (w : World) (o1 o2 : Obj) : Own (((w.alloc o1).alloc o2).alloc (.cells #[] 5)).drew w.heap.size (w.heap.size + 1 + 1) 0 [] :=
  ⟨⟨rfl, .inr ⟨_, 0, #[], rfl, by omega, heap3 w o1 o2 _, Nat.le_refl _, by simp, rfl, rfl⟩⟩, by simp⟩
theorem bel3 (w : World) (o1 o2 o3 : Obj) : Below w.heap.size w (((w.alloc o1).alloc o2).alloc o3).drew :=
  ((((Below.refl w.heap.size w).alloc (Nat.le_refl _) o1).alloc (by simp) o2).alloc (by simp; omega) o3).drew

set_option maxHeartbeats 800000 in
theorem l1own_none (a : Option Addr) (cap : Nat) (N : Int) (w : World) :
    Calls Tryd.prog 54 #[.agg #[.slice a 0 cap, .int .i64 N]] w fun e w' =>
      ∃ g cp, e = .returned (.agg #[.slice (some ⟨g, 0, none⟩) 0 cp, .int .i64 N]) ∧ Own w' w.heap.size g cp [] ∧ Below w.heap.size w w' := by
  obtain ⟨i0, hi, hz0, hz1, hz2⟩ := info_parts Tryd.infoU8
  rcases a with _ | x
  all_goals
    go_enter Tryd.func54, Tryd.ntmps54
    go_wp2
    go_region
    go_wp2
    refine bodyPost_ret (v := .agg #[.slice (some ⟨w.heap.size + 1 + 1, 0, none⟩) 0 0, .int .i64 N]) (by simp [results, Tryd.results54, go_sem]) rfl ⟨w.heap.size + 1 + 1, 0, rfl, ?_, ?_⟩
    · exact own_empty3 w _ _
    · exact bel3 w _ _ _

theorem l1own_any (a : Option Addr) (cap : Nat) (zs : List Int) (N : Int) (w : World) (hb : Byt w a zs) (hn : zs.length ≤ 1048576) :
    Calls Tryd.prog 54 #[.agg #[.slice a zs.length cap, .int .i64 N]] w fun e w' =>
      ∃ g cp, e = .returned (.agg #[.slice (some ⟨g, 0, none⟩) zs.length cp, .int .i64 N]) ∧ Own w' w.heap.size g cp zs ∧ Below w.heap.size w w' := by
  by_cases hp : 0 < zs.length
  · obtain ⟨b, off, rfl, hbl, hc⟩ := hb.2 hp
    exact l1own_some b off cap zs N w hb hn hp hbl
  · obtain rfl : zs = [] := List.eq_nil_of_length_eq_zero (by omega)
    exact l1own_none a cap N w

end Go.Proofs.YtdhnlbekkicjcaaDoor
