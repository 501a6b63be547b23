/-
  alikeFrom of the program.
-/
import Derived.Test.YtojnomdlkihgmaaGreatDoorCodes2
import Derived.Maps.GroupsBeside
import Derived.OpenShut
import Derived.ChangeSlices
import Derived.BigQuiet
import Derived.Laws.CopyOwn
import Derived.Deep.RegionLaw
import Derived.Test.YtojnomdlkihgmaaGreatDoorIBump
import Derived.Test.YtojnomdlkihgmaaGreatDoorPutB
import Derived.WideKeyEntry
import Derived.DeepKeys4
import Derived.Test.YtojnomdlkihgmaaGreatDoorSqP
namespace Go.Proofs.YtojnomdlkihgmaaGreatDoor
open Go.RowKit Go.Maps Go.ChangeShapes Go.ChangeAt
set_option linter.unusedVariables false

theorem Tryz.zeroSI (w : World) : (zeroValue 42).run Tryz.prog w = .ok (.slice none 0 0) w := by kernel_rfl
/-- What stands at a key reads as these numbers. -/
def Itm (d : DataW Unit) (zs : List Int) : Prop := (d = .nil ∧ zs = []) ∨ d = .slice (lits .i64 zs) []
theorem lits_inj {zs ys : List Int} (h : (lits .i64 zs : List (DataW Unit)) = lits .i64 ys) : zs = ys := by
  unfold lits at h
  exact (List.map_inj_right (fun a b hab => by simpa using hab)).1 h
theorem Itm.eq {d : DataW Unit} {zs ys : List Int} (h : Itm d zs) (h2 : Itm d ys) : zs = ys := by
  rcases h with ⟨h, rfl⟩ | h <;> rcases h2 with ⟨h2, rfl⟩ | h2
  · rfl
  · rw [h] at h2; cases h2
  · rw [h] at h2; cases h2
  · rw [h] at h2
    injection h2 with h2
    exact lits_inj h2
theorem Itm.of {w : World} {base : Nat} {e : TypeId} {v : Value} {zs : List Int} {d : DataW Unit} (h : w.ownsInts base e .i64 v zs) (hd : d = rowDatum .i64 v zs) : Itm d zs := by
  rcases h.datum (H := Unit) with ⟨h1, h2⟩ | h1
  · exact .inl ⟨hd.trans h1, h2⟩
  · exact .inr (hd.trans h1)

theorem grown_below {w w' : World} (hb : Below w.heap.size w w') : w.grownBy w' none := ⟨hb.os, hb.tape, hb.output, hb.size, fun k hk _ => hb.block k hk⟩
theorem wanted_step8 {P : Program} {ops : Array Oper} {o : Oper} {a : Act} {w : World} {K : Act → World → Prop} {Q : Exit → Act → World → Prop} {E : Prop} (hg : o.guard = none) (h : Oper.wp P o a w K Q) :
    if Region.wanted o (yielded ops a.tmps) = true then Oper.wp P o a w K Q else E := by
  rw [if_pos (by simp [Region.wanted, hg])]
  exact h
theorem wp_append_i1 {o : Oper} {a : Act} {w : World} {K : Act → World → Prop} {Q : Exit → Act → World → Prop} (s x : Operand) (ho : o.op = .call { callee := .builtin .append, args := #[s, x], argTypes := #[42, 42] })
    (B : Nat) (v : Value) (zs : List Int) (hs : a.eval s = v) (hown : OVI w B v zs) (X : Nat) (z : Int) (hx : a.eval x = .slice (some ⟨X, 0, none⟩) 1 1) (hX : w.cell? ⟨X, 0, none⟩ = some (.int .i64 z)) (hz0 : -9223372036854775808 ≤ z) (hz1 : z ≤ 9223372036854775807) (hb1 : zs.length ≤ 1000000) (hbase : B ≤ w.heap.size)
    (h : ∀ v' w', OVI w' B v' (zs ++ [z]) → w.grownBy w' v.ownBlock → (v'.ownBlock = v.ownBlock ∨ v'.ownBlock = some w.heap.size) → K (a.put o.dst v') w') : o.wp Tryz.prog a w K Q := by
  obtain ⟨i0, hi, hz0', hz1', hz2⟩ := info_parts Tryz.infoI64
  obtain ⟨v', w', hr, h2, h3, _, h5⟩ := run_append_own_at (P := Tryz.prog) w B 42 o.type 3 i0 (.int .i64 0) 1 8 Tryz.underlying42 hi hz0' hz1' hz2 rfl (by decide) v zs.length _ hown.1 ⟨X, 0, none⟩ 1 1 [.int .i64 z] rfl (by
    intro j u hu
    cases j with
    | zero => simp at hu; subst hu; simpa [Addr.add] using hX
    | succ j => simp at hu) (by simp [Value.oneCell']) (by unfold maxLen; omega) (by omega) hbase
  have hr' : (Builtin.append_ #[42, 42] o.type #[v, .slice (some ⟨X, 0, none⟩) 1 1]).run Tryz.prog w = .ok v' w' := hr
  unfold Oper.wp execOp
  simp only [ho, resolve, invoke, builtin, Sem.run_bind, Sem.run_pure, Result.andThen_ok, List.map_toArray, List.map_cons, List.map_nil, hs, hx, hr']
  refine h v' w' ⟨?_, fun y hy => ?_⟩ h3 h5
  · rw [List.length_append, List.map_append]
    exact h2
  · rcases List.mem_append.1 hy with hy | hy
    · exact hown.2 y hy
    · simp at hy
      omega
theorem blk_cellI {w : World} {R j : Nat} {cur : Array Value} {T : TypeId} {v : Value} (hR : w.heap[R]? = some (.cells cur T (0, 0))) (hv : cur[j]? = some v) : w.cell? ⟨R, j, none⟩ = some v := by
  rw [cell_of_row w R j cur T (0, 0) hR]; exact hv
theorem set_below {w0 w1 w2 : World} {M : Nat} {v : Value} {zs : List Int} {wv : World} (hg1 : w0.grownBy w1 v.ownBlock) (hg2 : w1.grownBy w2 (some M)) (hM : M ≤ w0.heap.size) (ho : OVI wv (M + 1) v zs) : Below M w0 w2 :=
  (((Below.refl M w0).grown hg1 hM (fun j hj => by have := ho.blk hj; omega)).grown hg2 (by have := hg1.size; omega) (fun j hj => by cases hj; exact Nat.le_refl _))
end Go.Proofs.YtojnomdlkihgmaaGreatDoor
namespace Go.Proofs.YtojnomdlkihgmaaGreatDoor
open Go.RowKit
set_option linter.unusedVariables false
set_option linter.unusedSimpArgs false

/-- What lettersAt answers at the place p. -/
def LtA (ys : List Int) (p : Nat) (x y z : Int) : Prop := (p + 3 ≤ ys.length → x = ys.getD p 0 ∧ y = ys.getD (p + 1) 0 ∧ z = ys.getD (p + 2) 0) ∧ (0 ≤ x ∧ x ≤ 255) ∧ (0 ≤ y ∧ y ≤ 255) ∧ (0 ≤ z ∧ z ≤ 255)
theorem lt_cells {w : World} {b o : Nat} {ys : List Int} (hc : ∀ i, i < ys.length → w.cell? ⟨b, o + i, none⟩ = some (.int .u8 (ys.getD i 0))) (p k : Nat) (hk : p + k ≤ ys.length) :
    ∀ j u, (((ys.drop p).take k).map (Value.int .u8))[j]? = some u → w.cell? ((⟨b, o + p, none⟩ : Addr).add j) = some u := by
  intro j u hu
  simp only [List.getElem?_map, List.getElem?_take] at hu
  split at hu
  · rename_i hj
    rw [List.getElem?_drop] at hu
    have h1 := hc (p + j) (by omega)
    rw [List.getElem?_eq_getElem (by omega)] at hu
    simp at hu
    rw [← hu]
    have h2 : (⟨b, o + p, none⟩ : Addr).add j = ⟨b, o + (p + j), none⟩ := by
      cases j with
      | zero => simp [Addr.add]
      | succ j => simp [Addr.add]; omega
    rw [h2, h1]
    simp [List.getD_eq_getElem?_getD, List.getElem?_eq_getElem (show p + j < ys.length by omega)]
  · simp at hu
theorem lt_splice {ys : List Int} {p : Nat} (hr : ∀ z ∈ ys, 0 ≤ z ∧ z ≤ 255) (hp : p ≤ ys.length) :
    ∃ x y z : Int, splice [Value.int .u8 0, Value.int .u8 0, Value.int .u8 0] 0 (((ys.drop p).take (min (ys.length - p) 3)).map (Value.int .u8)) = [Value.int .u8 x, Value.int .u8 y, Value.int .u8 z] ∧ LtA ys p x y z := by
  have hd : (ys.drop p).length = ys.length - p := List.length_drop
  have hm : ∀ z ∈ ys.drop p, 0 ≤ z ∧ z ≤ 255 := fun z hz => hr z (List.mem_of_mem_drop hz)
  have hg : ∀ i, ys.getD (p + i) 0 = (ys.drop p).getD i 0 := fun i => by simp [List.getD_eq_getElem?_getD]
  have h0 := hg 0
  rw [Nat.add_zero] at h0
  unfold LtA
  rw [h0, hg 1, hg 2, ← hd]
  generalize ys.drop p = l at *
  rcases l with _ | ⟨x, _ | ⟨y, _ | ⟨z, l⟩⟩⟩
  · exact ⟨0, 0, 0, by simp [splice], fun h => by simp at hd; omega, by omega, by omega, by omega⟩
  · have := hm x (by simp)
    exact ⟨x, 0, 0, by simp [splice], fun h => by simp at hd; omega, by omega, by omega, by omega⟩
  · have := hm x (by simp)
    have := hm y (by simp)
    exact ⟨x, y, 0, by simp [splice], fun h => by simp at hd; omega, by omega, by omega, by omega⟩
  · have := hm x (by simp)
    have := hm y (by simp)
    have := hm z (by simp)
    refine ⟨x, y, z, ?_, fun h => ⟨rfl, rfl, rfl⟩, by omega, by omega, by omega⟩
    rw [show min (x :: y :: z :: l).length 3 = 3 by simp]
    simp [splice]

set_option maxRecDepth 20000 in
set_option maxHeartbeats 4000000 in
theorem lettersAt_any (a : Option Addr) (c : Nat) (ys : List Int) (p : Nat) (w : World) (hb : Byt w a ys) (hn : ys.length ≤ 64) (hp : p ≤ ys.length) (hcap : ys.length ≤ c) :
    Calls Tryz.prog 28 #[.slice a ys.length c, .int .i64 p] w fun e w' => (∃ x y z : Int, e = .returned (.tuple #[.agg #[.int .u8 x, .int .u8 y, .int .u8 z], .bool (decide (p + 3 ≤ ys.length))]) ∧ LtA ys p x y z) ∧ Below w.heap.size w w' := by
  obtain ⟨i0, hi, hz0, hz1, hz2⟩ := info_parts Tryz.infoU8
  have hsz : (Tryz.prog.info? 5).map (·.size) = some 1 := by rw [hi]; simp [hz1]
  obtain ⟨x, y, z, hsp, hlt⟩ := lt_splice hb.1 hp
  obtain ⟨cs, hcs⟩ : ∃ cs, cs = ((ys.drop p).take (min (ys.length - p) 3)).map (Value.int .u8) := ⟨_, rfl⟩
  obtain ⟨k, hk⟩ : ∃ k, k = min (ys.length - p) 3 := ⟨_, rfl⟩
  rw [← hcs] at hsp
  have HCL : Hid (cs.length = k ∧ k = min (ys.length - p) 3) := ⟨by rw [hcs, hk]; simp, hk⟩
  have HONE : Hid (∀ u ∈ cs, u.oneCell' = true) := by rw [hcs]; exact oneCells _
  have HSP : Hid (splice [Value.int .u8 0, Value.int .u8 0, Value.int .u8 0] 0 cs = [Value.int .u8 x, Value.int .u8 y, Value.int .u8 z] ∧ LtA ys p x y z) := ⟨hsp, hlt⟩
  obtain ⟨a', ha'⟩ : ∃ a', a' = if c = p then a else a.map (·.add (p * 1)) := ⟨_, rfl⟩
  have HSRC : Hid (∀ W : World, Below w.heap.size w W → 0 < cs.length → ∃ ad, a' = some ad ∧ ∀ j u, cs[j]? = some u → W.cell? (ad.add j) = some u) := by
    intro W hW h0
    obtain ⟨b, o, rfl, hbl, hc⟩ := hb.2 (by rw [HCL.out.1, HCL.out.2] at h0; omega)
    rw [if_neg (by rw [HCL.out.1, HCL.out.2] at h0; omega)] at ha'
    refine ⟨⟨b, o + p, none⟩, ?_, ?_⟩
    · rw [ha']
      simp [Addr.add]
    · rw [hcs]
      exact lt_cells (fun i hi => keep hW hbl (hc i hi)) p _ (by omega)
  have hslc : ∀ W, (Instr.slice 22 (.slice a ys.length c) (some (.int .i64 (p : Int))) none none).run Tryz.prog W = .ok (.slice a' (ys.length - p) (c - p)) W := by
    intro W
    rw [run_slice_l W 22 _ _ _ (by simp [Program.elem, Tryz.underlying22]) .i64 _ (by omega) (by omega)]
    rw [ha']
    simp [Program.elem, Tryz.underlying22, Go.sizeOf, typeInfo, hi, hz1, Result.andThen, sliced]
  have HEQ : Hid ((decide ((k : Int) = 3) = decide (p + 3 ≤ ys.length)) ∧ True) := by
    refine ⟨?_, trivial⟩
    rw [hk]
    congr 1
    apply propext
    omega
  generalize ys.length - p = n at *
  clear hb hsp hlt hcs hk ha' hcap
  go_enter Tryz.func28, Tryz.ntmps28
  go_wp2_with fail
  have HG : Hid (((w.alloc (Obj.cells #[Value.int IntKind.u8 0, Value.int IntKind.u8 0, Value.int IntKind.u8 0] 61)).alloc (Obj.cells #[Value.int IntKind.u8 0, Value.int IntKind.u8 0, Value.int IntKind.u8 0] 61)).heap[w.heap.size + 1]? = some (.cells [Value.int .u8 0, Value.int .u8 0, Value.int .u8 0].toArray 61 (0, 0))) := by
    have := heap_alloc_new (w.alloc (Obj.cells #[Value.int IntKind.u8 0, Value.int IntKind.u8 0, Value.int IntKind.u8 0] 61)) (Obj.cells #[Value.int IntKind.u8 0, Value.int IntKind.u8 0, Value.int IntKind.u8 0] 61)
    rw [World.size_alloc] at this
    exact this
  have HB1 : Hid (((w.alloc (Obj.cells #[Value.int IntKind.u8 0, Value.int IntKind.u8 0, Value.int IntKind.u8 0] 61)).alloc (Obj.cells #[Value.int IntKind.u8 0, Value.int IntKind.u8 0, Value.int IntKind.u8 0] 61)).heap[w.heap.size]? = some (.cells #[Value.int .u8 0, Value.int .u8 0, Value.int .u8 0] 61 (0, 0))) := (Below.heap_alloc _ _ _ (by simp)).trans (heap_alloc_new w _)
  have HBEL : Hid (Below w.heap.size w ((w.alloc (Obj.cells #[Value.int IntKind.u8 0, Value.int IntKind.u8 0, Value.int IntKind.u8 0] 61)).alloc (Obj.cells #[Value.int IntKind.u8 0, Value.int IntKind.u8 0, Value.int IntKind.u8 0] 61))) := ((Below.refl _ _).alloc (Nat.le_refl _) _).alloc (by simp) _
  generalize (w.alloc (Obj.cells #[Value.int IntKind.u8 0, Value.int IntKind.u8 0, Value.int IntKind.u8 0] 61)).alloc (Obj.cells #[Value.int IntKind.u8 0, Value.int IntKind.u8 0, Value.int IntKind.u8 0] 61) = V at *
  generalize hG : w.heap.size = G at *
  have HGS : Hid (w.heap.size = G ∧ True) := ⟨hG, trivial⟩
  clear hG
  go_region_law (refine step_copy_splice rfl (.tmp 8) (.tmp 11) 22 22 rfl 5 Tryz.underlying22 hsz (some ⟨G + 1, 0, none⟩) a' 3 3 n (c - p) (by simp [Act.eval, Act.put]) (by simp [Act.eval, Act.put]) (G + 1) 0 [Value.int .u8 0, Value.int .u8 0, Value.int .u8 0] 61 (by exact HG.out) cs (by rw [HCL.out.1]; exact HCL.out.2) (fun hp => ⟨rfl, HSRC.out _ (by exact HBEL.out.drew) hp⟩) (by rw [HCL.out.1, HCL.out.2]; simp only [List.length_cons, List.length_nil]; omega) HONE.out (G + 1) V (by exact (Below.refl _ _).drew) (Nat.le_refl _) ?_; intro w4 hg4 hb4; rw [HCL.out.1])
  all_goals
    have HG4 : Hid (w4.heap[G + 1]? = some (.cells #[Value.int .u8 x, Value.int .u8 y, Value.int .u8 z] 61 (0, 0))) := by have := hg4.out; rw [HSP.out.1] at this; exact this
    have HG1 : Hid (w4.heap[G]? = some (.cells #[Value.int .u8 0, Value.int .u8 0, Value.int .u8 0] 61 (0, 0))) := (hb4.block G (by omega)).trans HB1.out
    have d0 : w4.cell? ⟨G + 1, 0, none⟩ = some (.int .u8 x) := by rw [cell_of_row w4 (G + 1) 0 _ _ (0, 0) HG4.out]; rfl
    have d1 : w4.cell? ⟨G + 1, 1, none⟩ = some (.int .u8 y) := by rw [cell_of_row w4 (G + 1) 1 _ _ (0, 0) HG4.out]; rfl
    have d2 : w4.cell? ⟨G + 1, 2, none⟩ = some (.int .u8 z) := by rw [cell_of_row w4 (G + 1) 2 _ _ (0, 0) HG4.out]; rfl
    have e0 : w4.cell? ⟨G, 0, none⟩ = some (.int .u8 0) := by rw [cell_of_row w4 G 0 _ _ (0, 0) HG1.out]; rfl
    have e1 : w4.cell? ⟨G, 1, none⟩ = some (.int .u8 0) := by rw [cell_of_row w4 G 1 _ _ (0, 0) HG1.out]; rfl
    have e2 : w4.cell? ⟨G, 2, none⟩ = some (.int .u8 0) := by rw [cell_of_row w4 G 2 _ _ (0, 0) HG1.out]; rfl
    have HB4 : Hid (Below G w w4) := HBEL.out.trans (hb4.mono (Nat.le_succ _))
    clear hg4 hb4
    clear HG HB1 HSRC HONE HCL
    have f0 := frozen_of_row w4 G 0 _ _ HG1.out
    have f1 := frozen_of_row w4 G 1 _ _ HG1.out
    have f2 := frozen_of_row w4 G 2 _ _ HG1.out
    obtain ⟨bb, hbb⟩ : ∃ bb, bb = decide ((k : Int) = 3) := ⟨_, rfl⟩
    have hkb : ((k : Int) == 3) = bb := by rw [hbb]; rfl
    have HBB : Hid (bb = decide (p + 3 ≤ ys.length) ∧ True) := ⟨hbb.trans HEQ.out.1, trivial⟩
    clear hbb HEQ
    simp only [List.getElem_toArray, List.getElem_cons_succ, List.getElem_cons_zero, Act.put, List.setIfInBounds_toArray, List.set_cons_succ, List.set_cons_zero]
    go_wp2
    refine bodyPost_ret (v := .tuple #[.agg #[.int .u8 x, .int .u8 y, .int .u8 z], .bool bb]) (by simp [results, Tryz.results28, go_sem, e0, e1, e2]) rfl ⟨⟨x, y, z, by rw [HBB.out.1], HSP.out.2⟩, ?_⟩
    rw [HGS.out.1]
    exact ((HB4.out.setCell (Nat.le_refl _) _).setCell (Nat.le_refl _) _).setCell (Nat.le_refl _) _
end Go.Proofs.YtojnomdlkihgmaaGreatDoor
namespace Go.Proofs.YtojnomdlkihgmaaGreatDoor
open Go.RowKit Go.Maps Go.ChangeShapes Go.ChangeAt Go.MapKept Go.WideElems
open Go.ChangeMaps (setBlock heap_setBlock_same)
open Go.WideMaps (KeyLaw)
set_option linter.unusedVariables false

theorem Tryz.laidOutL : laidOutB Tryz.prog = true := by kernel_rfl
theorem Tryz.keyLL : KeyLaw Tryz.prog 61 := deep_law_laid Tryz.laidOutL (m := 100) (by omega) (of_decide_eq_true (by kernel_rfl)) (by kernel_rfl) (by kernel_rfl)
theorem Tryz.lawKL : Keyed Tryz.prog 61 := Keyed.of_law Tryz.keyLL

def lkV (q : Int × Int × Int) : Value := .agg #[.int .u8 q.1, .int .u8 q.2.1, .int .u8 q.2.2]
def lkL (q : Int × Int × Int) : Lit := .string (keyBytes [.int .u8 q.1, .int .u8 q.2.1, .int .u8 q.2.2])
def lkR (q : Int × Int × Int) : Prop := (0 ≤ q.1 ∧ q.1 ≤ 255) ∧ (0 ≤ q.2.1 ∧ q.2.1 ≤ 255) ∧ (0 ≤ q.2.2 ∧ q.2.2 ≤ 255)
theorem lk_wf {z : Int} (h : 0 ≤ z ∧ z ≤ 255) : (Lit.int .u8 z).wf = true := by
  simp [Lit.wf, IntKind.min, IntKind.max, IntKind.bits, IntKind.signed]
  omega
theorem lk_key {q : Int × Int × Int} (h : lkR q) : keyOf Tryz.prog 61 (lkV q) = some (lkL q) := by
  obtain ⟨x, y, z⟩ := q
  obtain ⟨h0, h1, h2⟩ := h
  simp only at h0 h1 h2
  have u1 : Tryz.prog.keyType 61 = true := by kernel_rfl
  have u2 : Tryz.prog.cellsOf 61 = 3 := by kernel_rfl
  have u3 : Tryz.prog.cellsOf 5 = 1 := by kernel_rfl
  have u4 : Tryz.prog.types.size = 251 := by kernel_rfl
  have u5 : ∀ d, Tryz.prog.keyLits (d + 1 + 1) 61 [.int .u8 x, .int .u8 y, .int .u8 z] = some [.int .u8 x, .int .u8 y, .int .u8 z] := by
    intro d
    simp [Program.keyLits, Tryz.underlying61, Tryz.underlying5, u2, u3, List.range_succ, lk_wf h0, lk_wf h1, lk_wf h2]
  have u6 : (Value.agg #[.int .u8 x, .int .u8 y, .int .u8 z]).formed Tryz.prog 61 = true := by
    simp [Value.formed, Tryz.underlying61, u2]
  unfold keyOf lkV lkL
  simp only [Tryz.underlying61, u1, u6, Bool.and_self, if_true, Value.cells]
  rw [u4, u5]
  rfl
theorem lk_inj {q r : Int × Int × Int} (hq : lkR q) (hr : lkR r) (h : lkL q = lkL r) : q = r := by
  have h1 := Tryz.keyLL.inj (lk_key hq) (by rw [h]; exact lk_key hr)
  obtain ⟨x, y, z⟩ := q
  obtain ⟨x', y', z'⟩ := r
  simpa [lkV] using h1

/-- A store's outcome hangs on the map alone. -/
theorem upd_det {P : Program} {k t e : TypeId} {w w' : World} {b : Nat} {es e1 e2 : Array MapEntry} {clock c1 c2 : Nat} {key val : Value} {kl : Lit} (K : KeyLaw P k) (ht : P.underlying t = some (.map k e)) (hs : Stamped es clock) (hks : ∀ x ∈ es.toList, ∃ l, keyOf P k x.key = some l) (hkey : keyOf P k key = some kl)
    (hw : w.heap[b]? = some (.map es clock)) (hw' : w'.heap[b]? = some (.map es clock)) (h1 : (Instr.mapUpdate t (.map (some b)) key val).run P w = .ok () (setBlock w b (.map e1 c1))) (h2 : (Instr.mapUpdate t (.map (some b)) key val).run P w' = .ok () (setBlock w' b (.map e2 c2))) :
    e1 = e2 ∧ c1 = c2 := by
  have inj : ∀ (w : World) (h : w.heap[b]? = some (.map es clock)) {x y : Obj}, setBlock w b x = setBlock w b y → x = y := fun w h x y e => by
    have := heap_setBlock_same h x
    rw [e, heap_setBlock_same h y] at this
    exact (Option.some.inj this).symm
  have hn := hs.2.2
  rcases K.find w hkey es.toList hks with ⟨f1, g1⟩ | ⟨j, x, f1, g1, m1⟩ <;> rcases K.find w' hkey es.toList hks with ⟨f2, g2⟩ | ⟨j', x', f2, g2, m2⟩
  · simp [Instr.mapUpdate, run_underlying ht, MapKept.run_getObj_map hw, K.check w false hkey, f1, MapKept.run_setObj_map _ hw, Result.andThen] at h1
    simp [Instr.mapUpdate, run_underlying ht, MapKept.run_getObj_map hw', K.check w' false hkey, f2, MapKept.run_setObj_map _ hw', Result.andThen] at h2
    have h3 := inj w hw h1
    have h4 := inj w' hw' h2
    have h5 := h3.symm.trans h4
    simpa using h5
  · exact absurd m2 (g1 x' (List.mem_of_getElem? g2))
  · exact absurd m1 (g2 x (List.mem_of_getElem? g1))
  · have hjj : j = j' := by
      obtain ⟨a1, a2⟩ := List.getElem?_eq_some_iff.1 g1
      obtain ⟨b1, b2⟩ := List.getElem?_eq_some_iff.1 g2
      refine (List.getElem_inj (h₀ := by simpa using a1) (h₁ := by simpa using b1) hn).1 ?_
      simp [a2, b2, m1, m2]
    subst hjj
    have hj1 : es[j]? = some x := by simpa using g1
    have hj2 : es[j]? = some x' := by simpa using g2
    simp [Instr.mapUpdate, run_underlying ht, MapKept.run_getObj_map hw, K.check w false hkey, f1, hj1, m1, K.stays w hkey, MapKept.run_setObj_map _ hw, Result.andThen] at h1
    simp [Instr.mapUpdate, run_underlying ht, MapKept.run_getObj_map hw', K.check w' false hkey, f2, hj2, m2, K.stays w' hkey, MapKept.run_setObj_map _ hw', Result.andThen] at h2
    have h3 := inj w hw h1
    have h4 := inj w' hw' h2
    have h5 := h3.symm.trans h4
    simpa using h5
open Go.ChangeMaps (setBlock heap_setBlock_same heap_setBlock_other)
open Go.WideMaps (KeyLaw)
set_option linter.unusedVariables false

/-- The block M is a map by letters, of rows of numbers: at the letters q stand the numbers f q. -/
def LivL (w : World) (M n : Nat) (f : Int × Int × Int → List Int) : Prop :=
  ∃ D : DataW Unit, w.ownsGroups Tryz.prog 61 (M + 1) 3 .i64 M n D ∧ IsMap D ∧ ∀ q, lkR q → Itm (D.atKey (lkL q) .nil) (f q)
theorem LivL.made (w : World) : LivL (w.alloc (.map #[] 0)) w.heap.size 0 (fun _ => []) :=
  ⟨.map [], World.ownsGroups_made w _ _ _ _, isMap_empty, fun s _ => .inl ⟨rfl, rfl⟩⟩
theorem LivL.below {w w' : World} {M n : Nat} {f : Int × Int × Int → List Int} (h : LivL w M n f) (hb : Below w.heap.size w w') : LivL w' M n f := by
  obtain ⟨D, h1, h2, h3⟩ := h
  exact ⟨D, h1.kept (grown_below hb) (by simp) (fun _ _ _ x _ => by cases x.val.ownBlock <;> simp), h2, h3⟩
theorem LivL.lt {w : World} {M n : Nat} {f : Int × Int × Int → List Int} (h : LivL w M n f) : M < w.heap.size := by
  obtain ⟨D, ⟨es, clock, hb, _⟩, _⟩ := h
  exact (Array.getElem?_eq_some_iff.1 hb).1
theorem LivL.mono {w : World} {M n m : Nat} {f : Int × Int × Int → List Int} (h : LivL w M n f) (hm : n ≤ m) : LivL w M m f := by
  obtain ⟨D, ⟨es, clock, h1, h2, h3, h4, h5, h6, h7⟩, h8⟩ := h
  exact ⟨D, ⟨es, clock, h1, h2, by omega, h4, h5, fun x hx zs hz => by have := h6 x hx zs hz; omega, h7⟩, h8⟩
theorem LivL.congr {w : World} {M n : Nat} {f g : Int × Int × Int → List Int} (h : LivL w M n f) (he : ∀ q, f q = g q) : LivL w M n g := by
  obtain ⟨D, h1, h2, h3⟩ := h
  exact ⟨D, h1, h2, fun q hq => by rw [← he]; exact h3 q hq⟩
/-- A look-up. -/
theorem LivL.look {w : World} {M n : Nat} {f : Int × Int × Int → List Int} (h : LivL w M n f) (hn : n ≤ 1000) (q : Int × Int × Int) (hq : lkR q) :
    ∃ v, (Instr.lookup 57 (.map (some M)) (lkV q) false).run Tryz.prog w = .ok v w ∧ OVI w (M + 1) v (f q) ∧ (f q).length ≤ n := by
  obtain ⟨D, h1, h2, h3⟩ := h
  obtain ⟨v, zs, hrun, hat, hoi, hzl, _⟩ := h1.at Tryz.lawKL Tryz.underlying57 (Tryz.zeroSI _) (by unfold maxLen; omega) (lk_key hq)
  obtain rfl : zs = f q := (Itm.of hoi hat).eq (h3 q hq)
  exact ⟨v, hrun, ⟨hoi.1, fun z hz => bounds_i64 (hoi.2 z hz)⟩, hzl⟩

/-- The entry, what is appended, and the store. -/
theorem LivL.entry {w : World} {M n : Nat} {f : Int × Int × Int → List Int} (h : LivL w M n f) (hn : n ≤ 1000) (q : Int × Int × Int) (hq : lkR q) :
    ∃ v st w0, (Instr.mapEntry 57 (.map (some M)) (lkV q)).run Tryz.prog w = .ok (.tuple #[v, goInt st]) w0 ∧ w.grownBy w0 (some M) ∧ w0.heap.size = w.heap.size ∧ OVI w0 (M + 1) v (f q) ∧ (f q).length ≤ n ∧
      ∀ (w1 : World) (v' : Value) (z : Int), w0.grownBy w1 v.ownBlock → OVI w1 (M + 1) v' (f q ++ [z]) → (v'.ownBlock = v.ownBlock ∨ ∃ g, v'.ownBlock = some g ∧ w.heap.size ≤ g) →
        ∃ w2, (Instr.entryStore 57 (.map (some M)) (goInt st) v').run Tryz.prog w1 = .ok () w2 ∧ LivL w2 M (n + 1) (fun t => if t = q then f q ++ [z] else f t) ∧ w1.grownBy w2 (some M) := by
  obtain ⟨D, h1, h2, h3⟩ := h
  obtain ⟨v, zs, hrun, hat, hoi, hzl, hback⟩ := h1.at Tryz.lawKL Tryz.underlying57 (Tryz.zeroSI _) (by unfold maxLen; omega) (lk_key hq)
  obtain rfl : zs = f q := (Itm.of hoi hat).eq (h3 q hq)
  obtain ⟨es, clock, hb, F, hs, hD, hbb, hlen, hap⟩ := h1
  obtain ⟨v0, st, es1, c1, hme, hcase, hst⟩ := entry_then_store Tryz.keyLL Tryz.underlying57 Tryz.zeroSI hb F (lk_key hq)
  have hMl : M < w.heap.size := (Array.getElem?_eq_some_iff.1 hb).1
  have hv : v0 = v := by
    rcases Maps.fit_look false Tryz.lawKL Tryz.underlying57 (Tryz.zeroSI w) hb F (lk_key hq) with ⟨hr, hno, _⟩ | ⟨e1, y, hm1, hk1, hr, _⟩
    · rw [hrun] at hr
      simp at hr
      rcases hcase with ⟨e0, hm0, hk0, _⟩ | ⟨_, h⟩
      · exact absurd hk0 (hno e0 hm0)
      · rw [h, hr]
    · rw [hrun] at hr
      simp at hr
      rcases hcase with ⟨e0, hm0, hk0, h⟩ | ⟨hno, _⟩
      · rw [h, hr]
        have := F.stamped.2.2
        obtain ⟨i, hi, rfl⟩ := List.getElem_of_mem hm0
        obtain ⟨j, hj, rfl⟩ := List.getElem_of_mem hm1
        have hij : i = j := (List.getElem_inj (h₀ := by simpa using hi) (h₁ := by simpa using hj) this).1 (by rw [List.getElem_map, List.getElem_map, hk0, hk1])
        subst hij
        rfl
      · exact absurd hk1 (hno e1 hm1)
  subst hv
  have hg0 : ∀ (w : World) (h : w.heap[M]? = some (.map es clock)) (o : Obj), w.grownBy (setBlock w M o) (some M) := fun w h o => ⟨rfl, rfl, rfl, by simp [setBlock], fun i _ hi => heap_setBlock_other h _ (fun e1 => hi (by rw [e1]))⟩
  have own_ne : ∀ {w : World} {u : Value} {ys : List Int}, w.ownsInts (M + 1) 3 .i64 u ys → u.ownBlock = none ∨ u.ownBlock ≠ some M := fun {w u ys} ho => by
    cases hu : u.ownBlock with
    | none => exact Or.inl rfl
    | some g =>
      refine Or.inr (fun e1 => ?_)
      have := (ho.1.lt g hu).1
      cases e1
      omega
  have ho0 : (setBlock w M (.map es1 c1)).ownsInts (M + 1) 3 .i64 v0 (f q) := hoi.kept (hg0 w hb _) (own_ne hoi)
  refine ⟨v0, st, _, hme, hg0 w hb _, by simp [setBlock], ⟨ho0.1, fun z hz => bounds_i64 (hoi.2 z hz)⟩, hzl, fun w1 v' z hg ho hloc => ?_⟩
  have hvM : some M ≠ v0.ownBlock := by
    rcases own_ne hoi with h | h
    · rw [h]; simp
    · exact fun e => h e.symm
  have hw1 : w1.heap[M]? = some (.map es1 c1) := (hg.block M (by simp [setBlock]; exact hMl) hvM).trans (heap_setBlock_same hb _)
  have hoi1 : w1.ownsInts (M + 1) 3 .i64 v' (f q ++ [z]) := ⟨ho.1, fun y hy => WalkArith.wf_i64 (ho.2 y hy)⟩
  -- the world as it would be if the entry were not there yet
  have hg1 : ∀ (o : Obj), w1.grownBy (setBlock w1 M o) (some M) := fun o => ⟨rfl, rfl, rfl, by simp [setBlock], fun i _ hi => heap_setBlock_other hw1 _ (fun e1 => hi (by rw [e1]))⟩
  have hws : (setBlock w1 M (.map es clock)).heap[M]? = some (.map es clock) := heap_setBlock_same hw1 _
  have hgs : w.grownBy (setBlock w1 M (.map es clock)) v0.ownBlock := by
    refine ⟨hg.os, hg.tape, hg.output, by have := hg.size; simp [setBlock] at this ⊢; exact this, fun i hi hne => ?_⟩
    by_cases him : i = M
    · subst him
      rw [hws, hb]
    · rw [heap_setBlock_other hw1 _ him, hg.block i (by simp [setBlock]; exact hi) hne, heap_setBlock_other hb _ him]
  have hois : (setBlock w1 M (.map es clock)).ownsInts (M + 1) 3 .i64 v' (f q ++ [z]) := hoi1.kept (hg1 _) (own_ne hoi1)
  obtain ⟨w2, hr2, hgr2, hgg2⟩ := hback (setBlock w1 M (.map es clock)) v' (f q ++ [z]) hgs hois (by simp; omega) hloc
  obtain ⟨es', c', hse, hmu⟩ := hst w1 v' hw1
  -- the store of both
  have F0 : Fit Tryz.prog 61 (fun _ => some ((.nil : DataW Unit), ([] : List MemPlace))) es clock := ⟨F.size, F.stamped, fun x hx => by
    obtain ⟨y, hy⟩ := F.reads x hx
    exact ⟨(y.1, .nil), by simp [rd, rd_key hy]⟩⟩
  obtain ⟨v2, st2, es2, c2, _, _, hst2⟩ := entry_then_store Tryz.keyLL Tryz.underlying57 Tryz.zeroSI hws F0 (lk_key hq)
  obtain ⟨es3, c3, _, hmu2⟩ := hst2 (setBlock w1 M (.map es2 c2)) v' (heap_setBlock_same hw1 _)
  obtain ⟨e1, e2⟩ := upd_det Tryz.keyLL Tryz.underlying57 F.stamped F.keys (lk_key hq) hb hws hmu hmu2
  subst e1
  subst e2
  rw [hr2] at hmu2
  have hw2 : w2 = setBlock w1 M (.map es' c') := by
    have : w2 = setBlock (setBlock w1 M (.map es clock)) M (.map es' c') := by simpa using hmu2
    rw [this]
    simp [setBlock]
  subst hw2
  refine ⟨_, hse, ⟨_, hgr2, h2.put _ _, fun t ht => ?_⟩, hg1 _⟩
  by_cases htq : t = q
  · subst htq
    show Itm _ (if t = t then _ else _)
    rw [if_pos rfl, atKey_put_same h2 (Tryz.lawKL.key (lk_key ht))]
    exact Itm.of hois rfl
  · show Itm _ (if t = q then _ else _)
    rw [if_neg htq, atKey_put_other (fun e => htq (lk_inj ht hq (by first | exact e | exact e.symm)))]
    exact h3 t ht
end Go.Proofs.YtojnomdlkihgmaaGreatDoor
namespace Go.Proofs.YtojnomdlkihgmaaGreatDoor
open Go.RowKit
set_option linter.unusedVariables false
set_option linter.unusedSimpArgs false

/-- The history lies in the block R: its text, and its map in the block M. -/
structure Hst (w : World) (R M : Nat) (a : Option Addr) (n c : Nat) : Prop where
  blk : w.heap[R]? = some (.cells #[.slice a n c, .map (some M)] 59 (0, 0))
theorem Hst.c0 {w : World} {R M : Nat} {a : Option Addr} {n c : Nat} (h : Hst w R M a n c) : w.cell? ⟨R, 0, none⟩ = some (.slice a n c) := by
  rw [cell_of_row w R 0 _ _ (0, 0) h.blk]; rfl
theorem Hst.c1 {w : World} {R M : Nat} {a : Option Addr} {n c : Nat} (h : Hst w R M a n c) : w.cell? ⟨R, 1, none⟩ = some (.map (some M)) := by
  rw [cell_of_row w R 1 _ _ (0, 0) h.blk]; rfl
theorem Hst.lt {w : World} {R M : Nat} {a : Option Addr} {n c : Nat} (h : Hst w R M a n c) : R < w.heap.size := (Array.getElem?_eq_some_iff.1 h.blk).1
theorem Hst.below {w w' : World} {R M : Nat} {a : Option Addr} {n c : Nat} (h : Hst w R M a n c) (hb : Below w.heap.size w w') : Hst w' R M a n c := ⟨(hb.block R h.lt).trans h.blk⟩

set_option maxRecDepth 20000 in
set_option maxHeartbeats 4000000 in
theorem alikeFrom_any (R M : Nat) (a : Option Addr) (c : Nat) (ys : List Int) (p q : Nat) (w : World) (hH : Hst w R M a ys.length c) (hb : Byt w a ys) (hn : ys.length ≤ 64) (hp : p < q) (hq : q < ys.length) :
    Calls Tryz.prog 30 #[.pointer (some ⟨R, 0, none⟩), .int .i64 p, .int .i64 q] w fun e w' => e = .returned (.int .i64 (alk ys p q)) ∧ Below w.heap.size w w' := by
  obtain ⟨b1, o1, rfl, hb1, hc1⟩ := hb.2 (by omega)
  have HC : Hid (∀ i, i < ys.length → w.cell? ⟨b1, o1 + i, none⟩ = some (.int .u8 (ys.getD i 0))) := hc1
  have HIS : Hid (∀ m, q + m ≤ ys.length → (∀ j, j < m → ys.getD (p + j) 0 = ys.getD (q + j) 0) → (q + m < ys.length → ys.getD (p + m) 0 ≠ ys.getD (q + m) 0) → alk ys p q = m) := fun m h1 h2 h3 => alk_is ys p q m h1 h2 h3
  have r0 := hH.c0
  have hRl := hH.lt
  clear hb hc1 hH
  generalize hL : ys.length = n at *
  have HL : Hid (ys.length = n ∧ True) := ⟨hL, trivial⟩
  clear hL
  go_enter Tryz.func30, Tryz.ntmps30
  go_wp2
  go_loopw [7] (fun mm W => ∃ m : Nat, q + m ≤ n ∧ mm = .int .i64 m ∧ (∀ j, j < m → ys.getD (p + j) 0 = ys.getD (q + j) 0) ∧ Below w.heap.size w W) (fun mm _ => n - (intOf mm).toNat)
  case atStart => exact ⟨0, by omega, rfl, fun j hj => by omega, Below.refl _ _⟩
  case round =>
    obtain ⟨m, hm, rfl, hal, hbel2⟩ := hrel
    have HM : Hid ((∀ j, j < m → ys.getD (p + j) 0 = ys.getD (q + j) 0) ∧ Below w.heap.size w wr) := ⟨hal, hbel2⟩
    have HBD : Hid (∀ nq, Below w.heap.size w (wr.drewN nq)) := fun nq => ⟨hbel2.os, hbel2.tape, hbel2.output, hbel2.size, hbel2.block⟩
    have r1 := keep hbel2 hRl r0
    have hRw : R < wr.heap.size := by have := hbel2.size; omega
    clear hal hbel2
    by_cases hlm : q + m < n
    · obtain ⟨qm, hqm⟩ : ∃ x : Nat, x = q + m := ⟨_, rfl⟩
      obtain ⟨pm, hpm⟩ : ∃ x : Nat, x = p + m := ⟨_, rfl⟩
      have c0 := keep HM.out.2 hb1 (HC.out qm (by omega))
      have c1 := keep HM.out.2 hb1 (HC.out pm (by omega))
      have hb1w : b1 < wr.heap.size := by have := HM.out.2.size; omega
      have hqi : (q : Int) + (m : Int) = (qm : Int) := by omega
      have hpi : (p : Int) + (m : Int) = (pm : Int) := by omega
      have hql : (qm : Int) < (n : Int) := by omega
      have hpl : (pm : Int) < (n : Int) := by omega
      have HQR : Hid (qm = q + m ∧ pm = p + m) := ⟨hqm, hpm⟩
      clear hqm hpm
      obtain ⟨z0, hz0⟩ : ∃ z, ys.getD qm 0 = z := ⟨_, rfl⟩
      obtain ⟨z1, hz1⟩ : ∃ z, ys.getD pm 0 = z := ⟨_, rfl⟩
      have HZ : Hid (ys.getD qm 0 = z0 ∧ ys.getD pm 0 = z1) := ⟨hz0, hz1⟩
      rw [hz0] at c0
      rw [hz1] at c1
      clear hz0 hz1
      by_cases he : z1 = z0
      · subst he
        have hd : (z1 == z1) = true := by simp
        have HN : Hid (∀ j, j < m + 1 → ys.getD (p + j) 0 = ys.getD (q + j) 0) := fun j hj => by
          rcases Nat.lt_or_ge j m with h | h
          · exact HM.out.1 j h
          · rw [show j = m by omega, ← HQR.out.1, ← HQR.out.2, HZ.out.1, HZ.out.2]
        go_wp2
        go_quiet (fail)
        go_wp2
        go_roundw
        case rel => exact ⟨m + 1, by omega, by go_num, HN.out, HBD.out _⟩
        case measure => simp [intOf]; omega
      · have hd : (z1 == z0) = false := by simp; exact he
        have HN : Hid (ys.getD (p + m) 0 ≠ ys.getD (q + m) 0) := by
          unfold Hid
          rw [← HQR.out.1, ← HQR.out.2, HZ.out.1, HZ.out.2]
          exact fun e => he e
        have HE : Hid (alk ys p q = m) := HIS.out m hm HM.out.1 (fun _ => HN.out)
        go_wp2
        go_quiet (fail)
        go_wp2
        go_ret
        exact ⟨by rw [HE.out]; rfl, HBD.out _⟩
    · have hql : ¬ (q : Int) + (m : Int) < (n : Int) := by omega
      have hd : decide ((q : Int) + (m : Int) < (n : Int)) = false := decide_eq_false hql
      have HE : Hid (alk ys p q = m) := HIS.out m hm HM.out.1 (fun h => absurd h hlm)
      go_wp2
      go_quiet (fail)
      go_wp2
      go_ret
      exact ⟨by rw [HE.out]; rfl, HBD.out _⟩
end Go.Proofs.YtojnomdlkihgmaaGreatDoor
