/-
  The model's l5letter, l5number and l5symbols.
-/
import Derived.Test.YtojnomdlkihgmaaGreatDoorReader
import Derived.Test.YtojnomdlkihgmaaGreatDoorIBump
import Derived.Test.YtojnomdlkihgmaaGreatDoorLzS
import Derived.Test.YtojnomdlkihgmaaGreatDoorWriG
import Derived.Test.YtojnomdlkihgmaaGreatDoorLzR
import Derived.Test.YtojnomdlkihgmaaGreatDoorPutB
namespace Go.Proofs.YtojnomdlkihgmaaGreatDoor
open Go.RowKit
set_option linter.unusedVariables false

def RD (w : World) (B R : Nat) (a : Option Addr) (L cap n p : Nat) : Prop := w.heap[R]? = some (.cells #[.slice a L cap, .int .i64 n, .int .i64 p] 106 (0, 0)) ∧ B ≤ R ∧ B ≤ w.heap.size

theorem cellRR {w : World} {R j : Nat} {cur : Array Value} {T : TypeId} {v : Value} (hR : w.heap[R]? = some (.cells cur T (0, 0))) (hv : cur[j]? = some v) : w.cell? ⟨R, j, none⟩ = some v := by
  rw [cell_of_row w R j cur T (0, 0) hR]; exact hv
theorem RD.frz {w : World} {B R : Nat} {a : Option Addr} {L cap n p : Nat} (h : RD w B R a L cap n p) (j : Nat) : w.frozen? ⟨R, j, none⟩ = false := frozen_of_row w R j _ _ h.1

theorem RD.yes {w : World} {B R : Nat} {a : Option Addr} {zs : List Int} {cap n p : Nat} (h : RD w B R a zs.length cap n p) (v : Nat) (width : Int) (hn : n ≤ 4104) (hb : Byt w a zs) (hz : zs = enc n v) (k1 : 0 ≤ width) (k2 : width ≤ 30) (k4 : (p : Int) ≤ (n : Int) - width) :
    Calls Tryz.prog 72 #[.pointer (some ⟨R, 0, none⟩), .int .i64 width] w fun e w' =>
      e = .returned (.tuple #[.int .i64 (v / 2 ^ p % 2 ^ width.toNat : Nat), .nilIface]) ∧ RD w' B R a zs.length cap n (p + width.toNat) ∧ Only (fun k => k = R) w w' ∧ Below B w w' := by
  refine (get_yes R a cap zs n v p width w hn hb hz (cellRR (j := 0) h.1 rfl) (cellRR (j := 1) h.1 rfl) (cellRR (j := 2) h.1 rfl) (h.frz 2) k1 k2 (by omega) k4).mono ?_
  rintro e w' ⟨rfl, m, rfl⟩
  have hR : (w.drewN m).heap[R]? = some (.cells #[.slice a zs.length cap, .int .i64 n, .int .i64 p] 106 (0, 0)) := h.1
  have hO : Only (fun k => k = R) w ((w.drewN m).setCell ⟨R, 2, none⟩ (.int .i64 ((p : Int) + width))) := by
    have h0 : Only (fun k => k = R) w (w.drewN m) := Only.ofBelow (S := fun k => k = R) (B := w.heap.size) ⟨rfl, rfl, rfl, Nat.le_refl _, fun _ _ => rfl⟩ (Nat.le_refl _)
    exact Only.setCell h0 (p := ⟨R, 2, none⟩) (.inl rfl) _
  refine ⟨by simp, ⟨?_, h.2.1, Nat.le_trans h.2.2 hO.size⟩, hO, hO.below h.2.2 (fun k hk => by rw [hk]; exact h.2.1)⟩
  rw [heap_setCell_same _ R 2 _ _ _ hR]
  have e : ((p : Int) + width) = ((p + width.toNat : Nat) : Int) := by omega
  rw [e]
  simp

theorem RD.no {w : World} {B R : Nat} {a : Option Addr} {zs : List Int} {cap n p : Nat} (h : RD w B R a zs.length cap n p) (width : Int) (hn : n ≤ 4104) (hp : p ≤ 4104) (s0 : Sent w 5) (s2 : Sent w 12) (k4 : width < 0 ∨ 30 < width ∨ (n : Int) - width < p) :
    Calls Tryz.prog 72 #[.pointer (some ⟨R, 0, none⟩), .int .i64 width] w fun e w' => (∃ T x, e = .returned (.tuple #[.int .i64 0, .iface T x])) ∧ ∃ m, w' = w.drewN m :=
  get_no R a cap zs n p width w hn (by omega) (cellRR (j := 0) h.1 rfl) (cellRR (j := 1) h.1 rfl) (cellRR (j := 2) h.1 rfl) s0 s2 (by omega)
theorem RD.only {w w' : World} {B R : Nat} {a : Option Addr} {L cap n p : Nat} {S : Nat → Prop} (h : RD w B R a L cap n p) (ho : Only S w w') (hs : ¬ S R) : RD w' B R a L cap n p :=
  ⟨(ho.block R (Array.getElem?_eq_some_iff.1 h.1).1 hs).trans h.1, h.2.1, Nat.le_trans h.2.2 ho.size⟩
set_option linter.unusedSimpArgs false
/-- Blocks of other types than bytes, but for R, stay. -/
def KeepT (R : Nat) (w w' : World) : Prop := ∀ (g : Nat) (cur : Array Value) (T : TypeId), w.heap[g]? = some (.cells cur T (0, 0)) → T ≠ 5 → g ≠ R → w'.heap[g]? = some (.cells cur T (0, 0))
theorem WI.putK {w : World} {B R n V : Nat} (h : WI w B R n V) (x width : Nat) (h2 : width ≤ 30) (hxw : x < 2 ^ width) (h3 : n + width ≤ 4096) :
    Calls Tryz.prog 47 #[.pointer (some ⟨R, 0, none⟩), .int .i64 (x : Int), .int .i64 (width : Int)] w fun e w' => e = .returned .nilIface ∧ WI w' B R (n + width) (V + x * 2 ^ n) ∧ Below B w w' ∧ KeepT R w w' := by
  obtain ⟨v, hR, hv, hV, hBR, hB⟩ := h
  have hxi : (x : Int) < 2 ^ ((width : Int)).toNat := by
    have e : ((2 : Int) ^ width) = ((2 ^ width : Nat) : Int) := by simp
    rw [Int.toNat_natCast, e]
    exact Int.ofNat_lt.2 hxw
  refine (wput_yes R B v n V x width 4096 w hR hv hV hB (by omega) (by omega) (by omega) hxi (by omega) (by omega) (by omega)).mono ?_
  rintro e w' ⟨rfl, v', hR', hv', ho, _⟩
  have hb : Below B w w' := ho.below hB (fun k hk => by
    rcases hk with hk | hk
    · omega
    · exact hv.blk hk)
  simp only [Int.toNat_natCast] at hR' hv'
  refine ⟨rfl, ⟨v', hR', hv', put_lt n V width x hV hxw, hBR, Nat.le_trans hB hb.size⟩, hb, fun g cur T hg hT hgR => ?_⟩
  refine (ho.block g (Array.getElem?_eq_some_iff.1 hg).1 ?_).trans hg
  rintro (hk | hk)
  · exact hgR hk
  · exact hv.neP hk hg hT rfl
theorem OVI.keepT {R : Nat} {w w' : World} {B : Nat} {v : Value} {zs : List Int} (h : OVI w B v zs) (hk : KeepT R w w') (hR : v.ownBlock ≠ some R) : OVI w' B v zs := by
  refine ⟨⟨h.1.1, ?_⟩, h.2⟩
  rcases h.1.2 with h' | ⟨g, cap, cur, h', hg, hh, r⟩
  · exact .inl h'
  · exact .inr ⟨g, cap, cur, h', hg, hk g cur _ hh (by decide) (fun e => hR (by rw [h', ← e]; rfl)), r⟩
/-- A put leaves a row of bytes of the writer's own where another row grows. -/
theorem SI.grownI {w w' : World} {B R n V : Nat} {v : Value} {zs : List Int} (h : SI w B R n V) (ho : OVI w B v zs) (hg : w.grownBy w' v.ownBlock) : SI w' B R n V := by
  obtain ⟨u, h1, h2, h3, h4, h5⟩ := h
  refine ⟨u, grown_blkI hg h1 (ho.blk_ne h1 (by decide)), ⟨⟨h2.1.1, ?_⟩, h2.2⟩, h3, h4, Nat.le_trans h5 hg.size⟩
  rcases h2.1.2 with h' | ⟨g, cap, cur, h', hgg, hh, r⟩
  · exact .inl h'
  · exact .inr ⟨g, cap, cur, h', hgg, grown_blkI hg hh (ho.blk_ne hh (by decide)), r⟩
theorem SI.setOther {w : World} {B R n V : Nat} (h : SI w B R n V) {P : Nat} {cur : Array Value} {T : TypeId} (hP : w.heap[P]? = some (.cells cur T (0, 0))) (hT : T ≠ 5) (hPR : P ≠ R) (j : Nat) (x : Value) : SI (w.setCell ⟨P, j, none⟩ x) B R n V := by
  have ho : Only (fun b => b = P) w (w.setCell ⟨P, j, none⟩ x) := Only.setCell (Only.refl (fun b => b = P) w) (p := ⟨P, j, none⟩) (.inl rfl) _
  obtain ⟨u, h1, h2, h3, h4, h5⟩ := h
  refine ⟨u, (ho.block R (Array.getElem?_eq_some_iff.1 h1).1 (fun e => hPR e.symm)).trans h1, ⟨⟨h2.1.1, ?_⟩, h2.2⟩, h3, h4, Nat.le_trans h5 ho.size⟩
  rcases h2.1.2 with h' | ⟨g, cap, cur', h', hgg, hh, r⟩
  · exact .inl h'
  · refine .inr ⟨g, cap, cur', h', hgg, (ho.block g (Array.getElem?_eq_some_iff.1 hh).1 (fun e => ?_)).trans hh, r⟩
    subst e
    rw [hP] at hh
    simp at hh
    exact hT hh.2
theorem OVI.setOther {w : World} {B : Nat} {v : Value} {zs : List Int} (h : OVI w B v zs) {P : Nat} {cur : Array Value} {T : TypeId} (hP : w.heap[P]? = some (.cells cur T (0, 0))) (hT : T ≠ 3) (j : Nat) (x : Value) : OVI (w.setCell ⟨P, j, none⟩ x) B v zs := by
  have ho : Only (fun b => b = P) w (w.setCell ⟨P, j, none⟩ x) := Only.setCell (Only.refl (fun b => b = P) w) (p := ⟨P, j, none⟩) (.inl rfl) _
  refine ⟨⟨h.1.1, ?_⟩, h.2⟩
  rcases h.1.2 with h' | ⟨g, cap, cur', h', hg, hh, r⟩
  · exact .inl h'
  · refine .inr ⟨g, cap, cur', h', hg, (ho.block g (Array.getElem?_eq_some_iff.1 hh).1 (fun e => ?_)).trans hh, r⟩
    subst e
    rw [hP] at hh
    simp at hh
    exact hT hh.2
/-- Where the writing of symbols stands: their row in the box P, the bits beside in R. -/
structure SyS (w : World) (B P R : Nat) (st : SyT) : Prop where
  box : ∃ a c, w.heap[P]? = some (.cells #[.slice a st.1.length c] 42 (0, 0)) ∧ OVI w B (.slice a st.1.length c) st.1
  si : SI w B R st.2.1 st.2.2
  BP : B ≤ P
theorem SyS.ne {w : World} {B P R : Nat} {st : SyT} (h : SyS w B P R st) : P ≠ R := by
  obtain ⟨a, c, h1, _⟩ := h.box
  obtain ⟨v, h2, _⟩ := h.si
  rintro rfl
  rw [h1] at h2
  simp at h2
theorem SyS.put {w w' : World} {B P R : Nat} {st : SyT} {n V : Nat} (h : SyS w B P R st) (hs : SI w' B R n V) (hk : KeepT R w w') : SyS w' B P R (st.1, n, V) := by
  obtain ⟨a, c, h1, h2⟩ := h.box
  refine ⟨⟨a, c, hk P _ _ h1 (by decide) h.ne, h2.keepT hk (fun e => ?_)⟩, hs, h.BP⟩
  obtain ⟨v, h3, _⟩ := h.si
  exact h2.blk_ne h3 (by decide) e.symm
theorem SyS.app {w w4 : World} {B P R : Nat} {st : SyT} {a a4 : Option Addr} {c c4 : Nat} {z : Int} (h : SyS w B P R st) (hP : w.heap[P]? = some (.cells #[.slice a st.1.length c] 42 (0, 0))) (ho : OVI w B (.slice a st.1.length c) st.1) (o : Obj) (hov : OVI w4 B (.slice a4 (st.1.length + 1) c4) (st.1 ++ [z])) (hg : (w.alloc o).grownBy w4 (Value.slice a st.1.length c).ownBlock) :
    w4.heap[P]? = some (.cells #[.slice a st.1.length c] 42 (0, 0)) ∧ SyS (w4.setCell ⟨P, 0, none⟩ (.slice a4 (st.1.length + 1) c4)) B P R (st.1 ++ [z], st.2.1, st.2.2) ∧ Below B w (w4.setCell ⟨P, 0, none⟩ (.slice a4 (st.1.length + 1) c4)) := by
  have hA : Below w.heap.size w (w.alloc o) := (Below.refl _ _).alloc (Nat.le_refl _) o
  have hoA : OVI (w.alloc o) B (.slice a st.1.length c) st.1 := ho.below hA
  have hPA : (w.alloc o).heap[P]? = some (.cells #[.slice a st.1.length c] 42 (0, 0)) := (hA.block P (Array.getElem?_eq_some_iff.1 hP).1).trans hP
  have hP4 := grown_blkI hg hPA (hoA.blk_ne hPA (by decide))
  have hs4 := (h.si.stay hA).grownI hoA hg
  have hB : B ≤ w.heap.size := by obtain ⟨v, _, _, _, _, h5⟩ := h.si; exact h5
  refine ⟨hP4, ⟨⟨a4, c4, ?_, ?_⟩, hs4.setOther hP4 (by decide) h.ne 0 _, h.BP⟩, ?_⟩
  · rw [List.length_append, List.length_singleton, heap_setCell_same _ P 0 _ _ _ hP4]
    simp
  · rw [List.length_append, List.length_singleton]
    exact hov.setOther hP4 (by decide) 0 _
  · exact (((Below.refl B w).alloc hB o).grown hg (by simp; omega) (fun k hk => ho.blk hk)).setCell (p := ⟨P, 0, none⟩) h.BP _
theorem u8_and15 : ∀ z : Fin 256, bits .and .u8 ((z.val : Nat) : Int) 15 = ((z.val % 16 : Nat) : Int) := by decide +kernel

theorem wpowS (k : Nat) (h : k ≤ 12) : wrap64 (2 ^ k) = ((2 ^ k : Nat) : Int) := by
  have h2 : 2 ^ k ≤ 2 ^ 12 := Nat.pow_le_pow_right (by omega) h
  have e : ((2 : Int) ^ k) = ((2 ^ k : Nat) : Int) := by simp
  rw [e]
  generalize 2 ^ k = P at *
  exact IntWalk.wrap64_in _ (by omega)
end Go.Proofs.YtojnomdlkihgmaaGreatDoor
