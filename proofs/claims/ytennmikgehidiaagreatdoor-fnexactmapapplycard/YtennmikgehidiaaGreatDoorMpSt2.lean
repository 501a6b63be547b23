/-
  The program's settle: one address more in the atlas. (Typed by wip/mkset8.py.)
-/
import Derived.StillTail
import Derived.Deep.RegionHeld3
import Derived.Test.YtennmikgehidiaaGreatDoorMpI
namespace Go.Proofs.YtennmikgehidiaaGreatDoor
set_option linter.unusedVariables false

section
variable {P : Program} {ops : Array Oper} {md : Region.Mode}

/-- Behind the head the tail; any other way out as it was. -/
def cutQ (P : Program) (ops : Array Oper) (l : List Oper) (Q : Exit → Act → World → Prop) : Exit → Act → World → Prop
  | .normal, a, w => wpList P ops Q l a w
  | e, a, w => Q e a w

theorem oper_post {Q Q' : Exit → Act → World → Prop} (hp : ∀ c a w, Q' (.panic c) a w → Q (.panic c) a w) (ho : ∀ a w, Q' .outgrown a w → Q .outgrown a w) {o : Oper} {a : Act} {w : World} {K : Act → World → Prop} (hh : o.wp P a w K Q') : o.wp P a w K Q := by
  have hl : LetsOut Q' → LetsOut Q := fun ⟨a, w, h⟩ => ⟨a, w, ho a w h⟩
  unfold Oper.wp at *
  generalize (execOp a.eval o).run P w = r at *
  cases r with
  | ok n w' =>
    cases n <;> simp only [Oper.upon] at hh ⊢ <;>
      first
        | exact hh
        | exact Calls.mono hh (fun e w'' he => by cases e <;> first | exact he | exact hp _ _ _ he | exact hl he)
  | halt x w' => cases x <;> simp only [Oper.upon] at hh ⊢ <;> first | exact hh | exact hp _ _ _ hh
theorem wpOp_post {Q Q' : Exit → Act → World → Prop} (hp : ∀ c a w, Q' (.panic c) a w → Q (.panic c) a w) (ho : ∀ a w, Q' .outgrown a w → Q .outgrown a w) {i : Nat} {a : Act} {w : World} {K : Act → World → Prop} (hh : wpOp P ops Q' i K a w) : wpOp P ops Q i K a w := by
  have hl : LetsOut Q' → LetsOut Q := fun ⟨a, w, h⟩ => ⟨a, w, ho a w h⟩
  unfold wpOp at *
  split
  · rename_i h; simp only [h] at hh; exact hh
  · rename_i o h
    simp only [h] at hh
    split
    · rename_i hw; simp only [hw, if_true] at hh; exact hh.imp (oper_post hp ho) (fun h => ⟨h.1, hl h.2⟩)
    · rename_i hw; simp only [hw] at hh; exact hh
theorem wpAny_up1 {Q : Exit → Act → World → Prop} : ∀ (m : Nat) (L : Array Bool) (a : Act) (w : World), wpAny P md ops Q m L a w → wpAny P md ops Q (m + 1) L a w
  | 0, L, a, w, h => ⟨fun _ => h.2, fun i hi => by rw [h.1] at hi; cases hi⟩
  | m + 1, L, a, w, h => ⟨h.1, fun i hi => wpOp_mono (fun a' w' h' => wpAny_up1 m _ a' w' h') (h.2 i hi)⟩
theorem wpAny_up {Q : Exit → Act → World → Prop} (m k : Nat) (L : Array Bool) (a : Act) (w : World) (h : wpAny P md ops Q m L a w) : wpAny P md ops Q (k + m) L a w := by
  induction k with
  | zero => rw [Nat.zero_add]; exact h
  | succ k ih => rw [show k + 1 + m = (k + m) + 1 from by omega]; exact wpAny_up1 _ _ _ _ ih

/-- What is asked of a cut at n. -/
structure CutOk (md : Region.Mode) (ops : Array Oper) (n : Nat) : Prop where
  le : n ≤ ops.size
  head : ∀ i o, i < n → ops[i]? = some o → ∀ e ∈ o.after, Region.binds md e = true → e.on < i
  tail : ∀ j o, n ≤ j → ops[j]? = some o → ∀ i, i < n → ∃ e ∈ o.after, Region.binds md e = true ∧ e.on = i
  seq : Region.seqB md ops (ops.size - n) n ((Array.replicate n true) ++ (Array.replicate (ops.size - n) false)) = true
/-- L is listed; in L' the tail is, too. -/
structure CutRel (n N : Nat) (L L' : Array Bool) : Prop where
  s1 : L.size = N
  s2 : L'.size = N
  eq : ∀ i, i < n → ∀ d, L.getD i d = L'.getD i d
  t1 : ∀ j, n ≤ j → j < N → L.getD j true = false
  t2 : ∀ j, n ≤ j → L'.getD j true = true
theorem CutRel.set {n N i : Nat} {L L' : Array Bool} (h : CutRel n N L L') (hi : i < n) (hn : n ≤ N) : CutRel n N (L.setIfInBounds i true) (L'.setIfInBounds i true) := by
  refine ⟨by simp [h.s1], by simp [h.s2], fun j hj d => ?_, fun j hj hjN => ?_, fun j hj => ?_⟩
  · by_cases e : i = j
    · subst e
      have h1 : i < L.size := by rw [h.s1]; omega
      have h2 : i < L'.size := by rw [h.s2]; omega
      simp [h1, h2]
    · rw [getD_set_ne d e, getD_set_ne d e]; exact h.eq j hj d
  · rw [getD_set_ne true (by omega)]; exact h.t1 j hj hjN
  · rw [getD_set_ne true (by omega)]; exact h.t2 j hj
/-- Where none of the head is ready, all of it has come up. -/
theorem CutRel.full {n N : Nat} {L L' : Array Bool} (h : CutRel n N L L') (hc : CutOk md ops n) (hN : ops.size = N) (hr : Region.ready md ops L' = []) : ∀ i, i < n → L.getD i true = true := by
  intro i
  induction i using Nat.strongRecOn with
  | _ i ih =>
    intro hi
    cases hl : L.getD i true with
    | true => rfl
    | false =>
      exfalso
      have hiN : i < ops.size := by have := hc.le; omega
      have hmem : i ∈ Region.ready md ops L' := by
        rw [mem_ready]
        refine ⟨by rw [← h.eq i hi]; exact hl, ops[i], Array.getElem?_eq_getElem hiN, fun e he hb => ?_⟩
        have h1 := hc.head i _ hi (Array.getElem?_eq_getElem hiN) e he hb
        have h2 := ih e.on h1 (by omega)
        rw [← h.eq e.on (by omega)]
        have h3 : e.on < L.size := by rw [h.s1]; omega
        simp [h3] at h2 ⊢
        exact h2
      rw [hr] at hmem
      cases hmem
theorem cut_sim {Q : Exit → Act → World → Prop} {l : List Oper} {n : Nat} (hl : ops = l.toArray) (hc : CutOk md ops n) : ∀ (m : Nat) (L L' : Array Bool) (a : Act) (w : World), CutRel n ops.size L L' →
    wpAny P md ops (cutQ P ops (l.drop n) Q) m L' a w → wpAny P md ops Q (m + (ops.size - n)) L a w := by
  have base : ∀ (L L' : Array Bool) (a : Act) (w : World), CutRel n ops.size L L' → Region.ready md ops L' = [] → wpList P ops Q (l.drop n) a w → wpAny P md ops Q (ops.size - n) L a w := by
    intro L L' a w hr he hw
    have hfull := hr.full hc rfl he
    have hle := hc.le
    have hLe : L = (Array.replicate n true) ++ (Array.replicate (ops.size - n) false) := by
      apply Array.ext
      · simp [hr.s1]; omega
      · intro i h1 h2
        by_cases hi : i < n
        · have := hfull i hi
          simp [h1] at this
          rw [this]
          simp [hi]
        · have := hr.t1 i (by omega) (by rw [hr.s1] at h1; exact h1)
          simp [h1] at this
          rw [this]
          simp [Array.getElem_append, hi]
    have hdl : (l.drop n).length = ops.size - n := by rw [hl]; simp
    have h5 := wpAny_of_seq (P := P) (md := md) (ops := ops) (Q' := Q) (l.drop n) n L a w (fun j => by rw [hl]; simp [List.getElem?_drop]) (by rw [hdl, hLe]; exact hc.seq) hw
    rwa [hdl] at h5
  intro m
  induction m with
  | zero =>
    intro L L' a w hr h
    rw [Nat.zero_add]
    exact base L L' a w hr h.1 h.2
  | succ m ih =>
    intro L L' a w hr h
    by_cases he : Region.ready md ops L' = []
    · exact wpAny_up _ _ _ _ _ (base L L' a w hr he (h.1 he))
    · have h2 : ∀ i, i ∈ Region.ready md ops L' → i < n ∧ i ∈ Region.ready md ops L := by
        intro i hi
        have hin : i < n := by
          rcases Nat.lt_or_ge i n with h3 | h3
          · exact h3
          · have := (mem_ready.1 hi).1
            rw [hr.t2 i h3] at this
            cases this
        refine ⟨hin, ?_⟩
        obtain ⟨h3, o, ho, hall⟩ := mem_ready.1 hi
        rw [mem_ready]
        refine ⟨by rw [hr.eq i hin]; exact h3, o, ho, fun e hee hb => ?_⟩
        rw [hr.eq e.on (by have := hc.head i o hin ho e hee hb; omega)]
        exact hall e hee hb
      obtain ⟨i0, hi0⟩ := List.exists_mem_of_ne_nil _ he
      obtain ⟨hi0n, hi0r⟩ := h2 i0 hi0
      rw [show m + 1 + (ops.size - n) = (m + (ops.size - n)) + 1 from by omega]
      refine ⟨fun h3 => (by rw [h3] at hi0r; cases hi0r), fun i hi => ?_⟩
      have hin : i < n := by
        rcases Nat.lt_or_ge i n with h3 | h3
        · exact h3
        · exfalso
          obtain ⟨_, o, ho, hall⟩ := mem_ready.1 hi
          obtain ⟨e, hee, hb, hon⟩ := hc.tail i o h3 ho i0 hi0n
          have h4 := hall e hee hb
          rw [hon, getD_both (mem_ready.1 hi0r).1] at h4
          cases h4
      have hi' : i ∈ Region.ready md ops L' := by
        obtain ⟨h3, o, ho, hall⟩ := mem_ready.1 hi
        rw [mem_ready]
        refine ⟨by rw [← hr.eq i hin]; exact h3, o, ho, fun e hee hb => ?_⟩
        rw [← hr.eq e.on (by have := hc.head i o hin ho e hee hb; omega)]
        exact hall e hee hb
      exact wpOp_post (Q' := cutQ P ops (l.drop n) Q) (fun _ _ _ h => h) (fun _ _ h => h) (wpOp_mono (fun a' w' h' => ih _ _ a' w' (hr.set hin hc.le) h') (h.2 i hi'))

/-- The cut's conditions, as a check. -/
def cutB (ops : Array Oper) (n : Nat) : Bool :=
  decide (n ≤ ops.size) && (List.range n).all (fun i => match ops[i]? with | some o => o.after.all (fun e => !Region.binds .any e || decide (e.on < i)) | none => true) &&
    (List.range ops.size).all (fun j => decide (j < n) || (List.range n).all (fun i => Region.waitsFor .any ops j i)) &&
    Region.seqB .any ops (ops.size - n) n ((Array.replicate n true) ++ (Array.replicate (ops.size - n) false))
theorem cutB_ok {n : Nat} (h : cutB ops n = true) : CutOk .any ops n := by
  unfold cutB at h
  simp only [Bool.and_eq_true, decide_eq_true_eq, List.all_eq_true, List.mem_range, Bool.or_eq_true] at h
  obtain ⟨⟨⟨h1, h2⟩, h3⟩, h4⟩ := h
  refine ⟨h1, fun i o hi ho e he hb => ?_, fun j o hj ho i hi => ?_, h4⟩
  · have := h2 i hi
    rw [ho] at this
    simp only [Array.all_eq_true_iff_forall_mem, Bool.or_eq_true, Bool.not_eq_true', decide_eq_true_eq] at this
    rcases this e he with h5 | h5
    · rw [hb] at h5; cases h5
    · exact h5
  · have hjN : j < ops.size := (Array.getElem?_eq_some_iff.1 ho).1
    rcases h3 j hjN with h5 | h5
    · omega
    · obtain ⟨oj, hoj, e, he, hb, hon⟩ := Region.waitsFor_spec (h5 i hi)
      have : oj = o := Option.some.inj (hoj.symm.trans ho)
      subst this
      exact ⟨e, he, hb, hon⟩
/-- THE CUT: what is held is held in the head; the tail is a plain list. -/
theorem wp_region_cut {S : World → Prop} {id : Nat} {Q : Exit → Act → World → Prop} {a : Act} {w : World} {l : List Oper} (n : Nat) (hm : P.follows .mixedOrders = true) (hB : cutB l.toArray n = true) (hS : S w.drew)
    (h : S w.drew → wpAnyH P .any l.toArray (cutQ P l.toArray (l.drop n) Q) S n ((Array.replicate n false) ++ (Array.replicate (l.toArray.size - n) true)) a w.drew) : (Code.region id l.toArray true).wp P Q a w := by
  have hc := cutB_ok hB
  have hle := hc.le
  refine wp_region_any hm ?_
  have h1 := wpAny_of_held _ _ _ _ (h hS)
  have h2 := cut_sim rfl hc n (Array.replicate l.toArray.size false) _ a _ ⟨by simp, by simp; simp at hle; omega, fun i hi d => ?_, fun j hj hjN => ?_, fun j hj => ?_⟩ h1
  · rw [show n + (l.toArray.size - n) = l.toArray.size from by omega] at h2
    exact h2
  · have h3 : i < l.length := by simp at hle; omega
    simp only [Array.getD_eq_getD_getElem?]
    rw [Array.getElem?_append_left (by simp; omega), Array.getElem?_replicate, Array.getElem?_replicate, if_pos (by simpa using h3), if_pos hi]
  · have h3 : j < l.length := by simpa using hjN
    simp [h3]
  · have h3 : ¬ j < n := by omega
    simp only [Array.getD_eq_getD_getElem?]
    rw [Array.getElem?_append_right (by simp; omega), Array.getElem?_replicate]
    split <;> rfl
end
end Go.Proofs.YtennmikgehidiaaGreatDoor
namespace Go.Proofs.YtennmikgehidiaaGreatDoor
open Go.RowKit Go.Maps
set_option linter.unusedVariables false
set_option linter.unusedSimpArgs false

/-- Whoever is at its sector has just this place: just if one ahead of it has. -/
theorem anyT_liv (ps : List (Int × Int)) (k : Nat) (hk : k ≤ ps.length) (p : Int × Int) (hp : nwh p = false) : anyT ps p (liv ps k p.1) = tkn ps p k := by
  rw [Bool.eq_iff_iff]
  unfold anyT
  rw [List.any_eq_true, tkn_iff]
  constructor
  · rintro ⟨z, hz, he⟩
    obtain ⟨i, hi, rfl, h1, h2⟩ := (liv_mem ps k p.1 z).1 hz
    rw [plcO_in ps i (by omega)] at he
    exact ⟨i, hi, by simpa using he⟩
  · rintro ⟨i, hi, he⟩
    refine ⟨(i : Int), (liv_mem ps k p.1 i).2 ⟨i, hi, rfl, by rw [he]; exact hp, by rw [he]⟩, ?_⟩
    rw [plcO_in ps i (by omega), he]
    simp

/-- The store at the end of settle. -/
theorem Liv.put {w : World} {M n : Nat} {f : Int → List Int} (h : Liv w M n f) (hn : n ≤ 1000) (s : Int) (hs : (Lit.int .i64 s).wf = true) :
    ∃ v, (Instr.lookup 59 (.map (some M)) (.int .i64 s) false).run Tryz.prog w = .ok v w ∧ OVI w (M + 1) v (f s) ∧ (f s).length ≤ n ∧
      ∀ (w1 : World) (v' : Value) (z : Int), w.grownBy w1 v.ownBlock → OVI w1 (M + 1) v' (f s ++ [z]) → (v'.ownBlock = v.ownBlock ∨ ∃ g, v'.ownBlock = some g ∧ w.heap.size ≤ g) →
        ∃ w2, (Instr.mapUpdate 59 (.map (some M)) (.int .i64 s) v').run Tryz.prog w1 = .ok () w2 ∧ Liv w2 M (n + 1) (fun t => if t = s then f s ++ [z] else f t) ∧ w1.grownBy w2 (some M) := by
  obtain ⟨D, h1, h2, h3⟩ := h
  obtain ⟨v, zs, hrun, hat, hoi, hzl, hback⟩ := h1.at Tryz.lawKI Tryz.underlying59 (Tryz.zeroSI _) (by unfold maxLen; omega) (keyOf_int_mk Tryz.underlying3 hs)
  obtain rfl : zs = f s := (Itm.of hoi hat).eq (h3 s)
  refine ⟨v, hrun, ⟨hoi.1, fun z hz => bounds_i64 (hoi.2 z hz)⟩, hzl, fun w1 v' z hg ho hloc => ?_⟩
  have hoi' : w1.ownsInts (M + 1) 3 .i64 v' (f s ++ [z]) := ⟨ho.1, fun y hy => WalkArith.wf_i64 (ho.2 y hy)⟩
  obtain ⟨w2, hr2, hg2, hgr2⟩ := hback w1 v' (f s ++ [z]) hg hoi' (by simp; omega) hloc
  refine ⟨w2, hr2, ⟨_, hg2, h2.put _ _, fun t => ?_⟩, hgr2⟩
  by_cases ht : t = s
  · subst ht
    show Itm _ (if t = t then _ else _)
    rw [if_pos rfl, atKey_put_same h2 (Tryz.lawKI.key (keyOf_int_mk Tryz.underlying3 hs))]
    exact Itm.of hoi' rfl
  · show Itm _ (if t = s then _ else _)
    rw [if_neg ht, atKey_put_other (by simpa using ht)]
    exact h3 t
end Go.Proofs.YtennmikgehidiaaGreatDoor
namespace Go.Proofs.YtennmikgehidiaaGreatDoor
open Go.RowKit Go.Maps
set_option linter.unusedVariables false
set_option linter.unusedSimpArgs false

theorem wanted_step8 {P : Program} {ops : Array Oper} {o : Oper} {a : Act} {w : World} {K : Act → World → Prop} {Q : Exit → Act → World → Prop} {E : Prop} (hg : o.guard = none) (h : Oper.wp P o a w K Q) :
    if Region.wanted o (yielded ops a.tmps) = true then Oper.wp P o a w K Q else E := by
  rw [if_pos (by simp [Region.wanted, hg])]
  exact h
theorem wp_append_i1 {o : Oper} {a : Act} {w : World} {K : Act → World → Prop} {Q : Exit → Act → World → Prop} (s x : Operand) (ho : o.op = .call { callee := .builtin .append, args := #[s, x], argTypes := #[49, 49] })
    (B : Nat) (v : Value) (zs : List Int) (hs : a.eval s = v) (hown : OVI w B v zs) (X : Nat) (z : Int) (hx : a.eval x = .slice (some ⟨X, 0, none⟩) 1 1) (hX : w.cell? ⟨X, 0, none⟩ = some (.int .i64 z)) (hz0 : -9223372036854775808 ≤ z) (hz1 : z ≤ 9223372036854775807) (hb1 : zs.length ≤ 1000000) (hbase : B ≤ w.heap.size)
    (h : ∀ v' w', OVI w' B v' (zs ++ [z]) → w.grownBy w' v.ownBlock → (v'.ownBlock = v.ownBlock ∨ v'.ownBlock = some w.heap.size) → K (a.put o.dst v') w') : o.wp Tryz.prog a w K Q := by
  obtain ⟨i0, hi, hz0', hz1', hz2⟩ := info_parts Tryz.infoI64
  obtain ⟨v', w', hr, h2, h3, _, h5⟩ := run_append_own_at (P := Tryz.prog) w B 49 o.type 3 i0 (.int .i64 0) 1 8 Tryz.underlying49 hi hz0' hz1' hz2 rfl (by decide) v zs.length _ hown.1 ⟨X, 0, none⟩ 1 1 [.int .i64 z] rfl (by
    intro j u hu
    cases j with
    | zero => simp at hu; subst hu; simpa [Addr.add] using hX
    | succ j => simp at hu) (by simp [Value.oneCell']) (by unfold maxLen; omega) (by omega) hbase
  have hr' : (Builtin.append_ #[49, 49] o.type #[v, .slice (some ⟨X, 0, none⟩) 1 1]).run Tryz.prog w = .ok v' w' := hr
  unfold Oper.wp execOp
  simp only [ho, resolve, invoke, builtin, Sem.run_bind, Sem.run_pure, Result.andThen_ok, List.map_toArray, List.map_cons, List.map_nil, hs, hx, hr']
  refine h v' w' ⟨?_, fun y hy => ?_⟩ h3 h5
  · rw [List.length_append, List.map_append]
    exact h2
  · rcases List.mem_append.1 hy with hy | hy
    · exact hown.2 y hy
    · simp at hy
      omega
theorem blk_cellI {w : World} {R j : Nat} {cur : Array Value} {T : TypeId} {v : Value} (hR : w.heap[R]? = some (.cells cur T (0, 0))) (hv : cur[j]? = some v) : w.cell? ⟨R, j, none⟩ = some v := by
  rw [cell_of_row w R j cur T (0, 0) hR]; exact hv
theorem set_below {w0 w1 w2 : World} {M : Nat} {v : Value} {zs : List Int} {wv : World} (hg1 : w0.grownBy w1 v.ownBlock) (hg2 : w1.grownBy w2 (some M)) (hM : M ≤ w0.heap.size) (ho : OVI wv (M + 1) v zs) : Below M w0 w2 :=
  (((Below.refl M w0).grown hg1 hM (fun j hj => by have := ho.blk hj; omega)).grown hg2 (by have := hg1.size; omega) (fun j hj => by cases hj; exact Nat.le_refl _))
theorem Liv.mono {w : World} {M n m : Nat} {f : Int → List Int} (h : Liv w M n f) (hm : n ≤ m) : Liv w M m f := by
  obtain ⟨D, ⟨es, clock, h1, h2, h3, h4, h5, h6, h7⟩, h8⟩ := h
  exact ⟨D, ⟨es, clock, h1, h2, by omega, h4, h5, fun x hx zs hz => by have := h6 x hx zs hz; omega, h7⟩, h8⟩

set_option maxRecDepth 20000 in
set_option maxHeartbeats 8000000 in
theorem settle_any (R M : Nat) (a : Option Addr) (c : Nat) (ps : List (Int × Int)) (k n : Nat) (w : World) (hA : Atl w R M a ps.length c) (hb : Pls w a ps) (hL : Liv w M n (liv ps k)) (hMR : M ≠ R) (hk : k < ps.length) (hn : ps.length ≤ 16) (hn2 : n ≤ 1000) :
    Calls Tryz.prog 39 #[.pointer (some ⟨R, 0, none⟩), .int .i64 k] w fun e w' =>
      e = .returned (.bool (stpP ps k)) ∧ (stpP ps k = true → Liv w' M (n + 1) (liv ps (k + 1)) ∧ Atl w' R M a ps.length c) ∧ Below M w w' := by
  have hMl := hL.lt
  have a0 := hA.c0
  have hRl := hA.lt
  have HPO := placeOf_any a c ps k w hb (by omega)
  rw [plcO_in ps k hk] at HPO
  have HST : Hid (stpP ps k = (nwh (ps.getD k dp) || (rgt (ps.getD k dp) && !tkn ps (ps.getD k dp) k)) ∧ True) := ⟨rfl, trivial⟩
  have HTK : Hid (nwh (ps.getD k dp) = false → anyT ps (ps.getD k dp) (liv ps k (ps.getD k dp).1) = tkn ps (ps.getD k dp) k) := fun h => anyT_liv ps k (by omega) _ h
  have HNW : Hid (nwh (ps.getD k dp) = true → liv ps (k + 1) = liv ps k) := liv_nw ps k
  have HLI0 : Hid (nwh (ps.getD k dp) = false → ∀ s, liv ps (k + 1) s = if s = (ps.getD k dp).1 then liv ps k s ++ [(k : Int)] else liv ps k s) := liv_at ps k
  have HRG : Hid (rP (ps.getD k dp)) := hb.1 _ (getD_memP hk)
  have HLN : Hid (∀ s, (liv ps k s).length ≤ k) := liv_len ps k
  have HA : Hid (Atl w R M a ps.length c ∧ Pls w a ps ∧ Liv w M n (liv ps k)) := ⟨hA, hb, hL⟩
  clear hA hb hL
  generalize ps.getD k dp = q at *
  obtain ⟨x, y⟩ := q
  simp only at HPO
  go_enter Tryz.func39, Tryz.ntmps39
  go_wp2_with fail
  refine HPO.mono ?_
  clear HPO
  rintro e w1 ⟨rfl, hb1⟩
  have hb2 : Below w.heap.size w (w1.alloc (Obj.cells #[Value.int IntKind.i64 x, Value.int IntKind.i64 y] 72)) := hb1.alloc hb1.size _
  have b0 : (w1.alloc (Obj.cells #[Value.int IntKind.i64 x, Value.int IntKind.i64 y] 72)).cell? ⟨w1.heap.size, 0, none⟩ = some (.int .i64 x) := by simp
  have b1 : (w1.alloc (Obj.cells #[Value.int IntKind.i64 x, Value.int IntKind.i64 y] 72)).cell? ⟨w1.heap.size, 1, none⟩ = some (.int .i64 y) := by simp
  have HBK : Hid ((w1.alloc (Obj.cells #[Value.int IntKind.i64 x, Value.int IntKind.i64 y] 72)).heap[w1.heap.size]? = some (.cells #[.int .i64 x, .int .i64 y] 72 (0, 0)) ∧ w1.heap.size < (w1.alloc (Obj.cells #[Value.int IntKind.i64 x, Value.int IntKind.i64 y] 72)).heap.size) := ⟨heap_alloc_new w1 _, by simp⟩
  have HB2 : Hid (Below w.heap.size w (w1.alloc (Obj.cells #[Value.int IntKind.i64 x, Value.int IntKind.i64 y] 72))) := hb2
  clear hb1 hb2
  go_wp2_with fail
  generalize w1.heap.size = B at *
  generalize w1.alloc (Obj.cells #[Value.int IntKind.i64 x, Value.int IntKind.i64 y] 72) = W at *
  refine (isNowhere_any x y W).mono ?_
  rintro e w3 ⟨rfl, hb3⟩
  have HB3 : Hid (Below w.heap.size w w3) := HB2.out.trans (hb3.mono HB2.out.size)
  have c0 := keep hb3 HBK.out.2 b0
  have c1 := keep hb3 HBK.out.2 b1
  have HBK3 : Hid (w3.heap[B]? = some (.cells #[.int .i64 x, .int .i64 y] 72 (0, 0)) ∧ B < w3.heap.size) := ⟨(hb3.block B HBK.out.2).trans HBK.out.1, Nat.lt_of_lt_of_le HBK.out.2 hb3.size⟩
  clear hb3 b0 b1 HB2 HBK a0
  cases hnw : nwh (x, y) with
  | true =>
    have HF : Hid (stpP ps k = true ∧ liv ps (k + 1) = liv ps k) := ⟨by rw [HST.out.1, hnw]; rfl, HNW.out hnw⟩
    clear HST HTK HNW HLI0 hnw
    go_wp2
    go_ret
    exact ⟨by rw [HF.out.1]; rfl, fun _ => ⟨by rw [HF.out.2]; exact (HA.out.2.2.below HB3.out).mono (by omega), HA.out.1.below HB3.out⟩, HB3.out.mono (by omega)⟩
  | false =>
    have HST1 : Hid (stpP ps k = (rgt (x, y) && !tkn ps (x, y) k) ∧ True) := ⟨by rw [HST.out.1, hnw]; rfl, trivial⟩
    have HTK1 : Hid (anyT ps (x, y) (liv ps k x) = tkn ps (x, y) k ∧ True) := ⟨HTK.out hnw, trivial⟩
    have HLI : Hid (∀ s, liv ps (k + 1) s = if s = x then liv ps k s ++ [(k : Int)] else liv ps k s) := HLI0.out hnw
    clear HST HTK HNW HLI0 hnw
    go_wp2_with fail
    refine (right_any x y w3).mono ?_
    rintro e w4 ⟨rfl, hb4⟩
    have HB4 : Hid (Below w.heap.size w w4) := HB3.out.trans (hb4.mono HB3.out.size)
    have d0 := keep hb4 HBK3.out.2 c0
    have d1 := keep hb4 HBK3.out.2 c1
    have HBK4 : Hid (w4.heap[B]? = some (.cells #[.int .i64 x, .int .i64 y] 72 (0, 0)) ∧ B < w4.heap.size) := ⟨(hb4.block B HBK3.out.2).trans HBK3.out.1, Nat.lt_of_lt_of_le HBK3.out.2 hb4.size⟩
    clear hb4 c0 c1 HB3 HBK3
    cases hrg : rgt (x, y) with
    | false =>
      have HF : Hid (stpP ps k = false ∧ True) := ⟨by rw [HST1.out.1, hrg]; rfl, trivial⟩
      clear HST1 HTK1 hrg
      go_wp2
      go_ret
      exact ⟨by rw [HF.out.1]; rfl, fun h => (by rw [HF.out.1] at h; cases h), HB4.out.mono (by omega)⟩
    | true =>
      have HST2 : Hid (stpP ps k = (!tkn ps (x, y) k) ∧ True) := ⟨by rw [HST1.out.1, hrg]; rfl, trivial⟩
      clear HST1 hrg
      have HIT := isTaken_any R M a c ps x y n k w4 (HA.out.1.below HB4.out) (HA.out.2.1.below HB4.out (Nat.le_refl _)) (HA.out.2.2.below HB4.out) HRG.out.1 (by omega) hn2
      rw [HTK1.out.1] at HIT
      clear HTK1
      go_wp2_with fail
      refine HIT.mono ?_
      clear HIT
      rintro e V ⟨rfl, hb5⟩
      have HB5 : Hid (Below w.heap.size w V) := HB4.out.trans (hb5.mono HB4.out.size)
      have b0 := keep hb5 HBK4.out.2 d0
      have HBK5 : Hid (V.heap[B]? = some (.cells #[.int .i64 x, .int .i64 y] 72 (0, 0)) ∧ B < V.heap.size) := ⟨(hb5.block B HBK4.out.2).trans HBK4.out.1, Nat.lt_of_lt_of_le HBK4.out.2 hb5.size⟩
      clear hb5 d0 d1 HB4 HBK4
      cases htk : tkn ps (x, y) k with
      | true =>
        have HF : Hid (stpP ps k = false ∧ True) := ⟨by rw [HST2.out.1, htk]; rfl, trivial⟩
        clear HST2 htk
        go_wp2
        go_ret
        exact ⟨by rw [HF.out.1]; rfl, fun h => (by rw [HF.out.1] at h; cases h), HB5.out.mono (by omega)⟩
      | false =>
        have HSTT : Hid (stpP ps k = true ∧ True) := ⟨by rw [HST2.out.1, htk]; rfl, trivial⟩
        clear HST2 htk
        have HLV : Hid (Liv V M n (liv ps k)) := HA.out.2.2.below HB5.out
        have hAV := HA.out.1.below HB5.out
        have a1 := hAV.c1
        have HBL : Hid (M ≠ R ∧ V.heap[R]? = some (.cells #[.slice a ps.length c, .map (some M)] 61 (0, 0)) ∧ V.heap[B]? = some (.cells #[.int .i64 x, .int .i64 y] 72 (0, 0)) ∧ R < V.heap.size ∧ B < V.heap.size) := ⟨hMR, hAV.blk, HBK5.out.1, hAV.lt, HBK5.out.2⟩
        have hVd : Below V.heap.size V V.drew := ⟨rfl, rfl, rfl, Nat.le_refl _, fun _ _ => rfl⟩
        have HBV : Hid (Below M w V.drew) := (HB5.out.mono (by omega)).trans (hVd.mono (by have := HB5.out.size; omega))
        have hxr := HRG.out.1
        have hlx := HLN.out x
        have hVl := HLV.out.lt
        clear hAV HBK5 hMR HB5
        go_wp2_with fail
        all_goals
          refine wp_region_cut (S := fun W => W.cell? ⟨R, 1, none⟩ = some (.map (some M)) ∧ W.cell? ⟨B, 0, none⟩ = some (.int .i64 x)) 16 (by kernel_rfl) (by kernel_rfl) (by exact ⟨a1, b0⟩) (fun hHeld => ?_)
          refine wpAnyH_take (i := 0) (v := ?_) rfl (by kernel_rfl) (by kernel_rfl) (by kernel_rfl) (fun _ _ _ h => h) (Or.inl ⟨by rfl, ?_⟩) (by assumption) ?_
          rotate_left 1
          · (intro w hSw; (try dsimp only at hSw); go_simp; try (with_reducible rfl))
          try simp only [List.getElem_toArray, List.getElem_cons_zero, List.getElem_cons_succ, Act.put, List.setIfInBounds_toArray, List.set_cons_zero, List.set_cons_succ]
          refine wpAnyH_take (i := 1) (v := ?_) rfl (by kernel_rfl) (by kernel_rfl) (by kernel_rfl) (fun _ _ _ h => h) (Or.inl ⟨by rfl, ?_⟩) (by assumption) ?_
          rotate_left 1
          · (intro w hSw; (try dsimp only at hSw); go_simp; try (with_reducible rfl))
          try simp only [List.getElem_toArray, List.getElem_cons_zero, List.getElem_cons_succ, Act.put, List.setIfInBounds_toArray, List.set_cons_zero, List.set_cons_succ]
          refine wpAnyH_take (i := 2) (v := ?_) rfl (by kernel_rfl) (by kernel_rfl) (by kernel_rfl) (fun _ _ _ h => h) (Or.inl ⟨by rfl, ?_⟩) (by assumption) ?_
          rotate_left 1
          · (intro w hSw; (try dsimp only at hSw); go_simp; try (with_reducible rfl))
          try simp only [List.getElem_toArray, List.getElem_cons_zero, List.getElem_cons_succ, Act.put, List.setIfInBounds_toArray, List.set_cons_zero, List.set_cons_succ]
          refine wpAnyH_take (i := 3) (v := ?_) rfl (by kernel_rfl) (by kernel_rfl) (by kernel_rfl) (fun _ _ _ h => h) (Or.inl ⟨by rfl, ?_⟩) (by assumption) ?_
          rotate_left 1
          · (intro w hSw; (try dsimp only at hSw); go_simp; try (with_reducible rfl))
          try simp only [List.getElem_toArray, List.getElem_cons_zero, List.getElem_cons_succ, Act.put, List.setIfInBounds_toArray, List.set_cons_zero, List.set_cons_succ]
          refine wpAnyH_take (i := 4) (v := ?_) rfl (by kernel_rfl) (by kernel_rfl) (by kernel_rfl) (fun _ _ _ h => h) (Or.inl ⟨by rfl, ?_⟩) (by assumption) ?_
          rotate_left 1
          · (intro w hSw; (try dsimp only at hSw); go_simp; try (with_reducible rfl))
          try simp only [List.getElem_toArray, List.getElem_cons_zero, List.getElem_cons_succ, Act.put, List.setIfInBounds_toArray, List.set_cons_zero, List.set_cons_succ]
          refine wpAnyH_take (i := 5) (v := ?_) rfl (by kernel_rfl) (by kernel_rfl) (by kernel_rfl) (fun _ _ _ h => h) (Or.inl ⟨by rfl, ?_⟩) (by assumption) ?_
          rotate_left 1
          · (intro w hSw; (try dsimp only at hSw); go_simp; try (with_reducible rfl))
          try simp only [List.getElem_toArray, List.getElem_cons_zero, List.getElem_cons_succ, Act.put, List.setIfInBounds_toArray, List.set_cons_zero, List.set_cons_succ]
          refine wpAnyH_take (i := 6) (v := ?_) rfl (by kernel_rfl) (by kernel_rfl) (by kernel_rfl) (fun _ _ _ h => h) (Or.inl ⟨by rfl, ?_⟩) (by assumption) ?_
          rotate_left 1
          · (intro w hSw; (try dsimp only at hSw); go_simp; try (with_reducible rfl))
          try simp only [List.getElem_toArray, List.getElem_cons_zero, List.getElem_cons_succ, Act.put, List.setIfInBounds_toArray, List.set_cons_zero, List.set_cons_succ]
          refine wpAnyH_take (i := 7) (v := ?_) rfl (by kernel_rfl) (by kernel_rfl) (by kernel_rfl) (fun _ _ _ h => h) (Or.inl ⟨by rfl, ?_⟩) (by assumption) ?_
          rotate_left 1
          · (intro w hSw; (try dsimp only at hSw); go_simp; try (with_reducible rfl))
          try simp only [List.getElem_toArray, List.getElem_cons_zero, List.getElem_cons_succ, Act.put, List.setIfInBounds_toArray, List.set_cons_zero, List.set_cons_succ]
          refine wpAnyH_take (i := 8) (v := ?_) rfl (by kernel_rfl) (by kernel_rfl) (by kernel_rfl) (fun _ _ _ h => h) (Or.inl ⟨by rfl, ?_⟩) (by assumption) ?_
          rotate_left 1
          · (intro w hSw; (try dsimp only at hSw); go_simp; try (with_reducible rfl))
          try simp only [List.getElem_toArray, List.getElem_cons_zero, List.getElem_cons_succ, Act.put, List.setIfInBounds_toArray, List.set_cons_zero, List.set_cons_succ]
          refine wpAnyH_take (i := 9) (v := ?_) rfl (by kernel_rfl) (by kernel_rfl) (by kernel_rfl) (fun _ _ _ h => h) (Or.inl ⟨by rfl, ?_⟩) (by assumption) ?_
          rotate_left 1
          · (intro w hSw; (try dsimp only at hSw); go_simp; try (with_reducible rfl))
          try simp only [List.getElem_toArray, List.getElem_cons_zero, List.getElem_cons_succ, Act.put, List.setIfInBounds_toArray, List.set_cons_zero, List.set_cons_succ]
          refine wpAnyH_take (i := 10) (v := ?_) rfl (by kernel_rfl) (by kernel_rfl) (by kernel_rfl) (fun _ _ _ h => h) (Or.inl ⟨by rfl, ?_⟩) (by assumption) ?_
          rotate_left 1
          · (intro w hSw; (try dsimp only at hSw); go_simp; try (with_reducible rfl))
          try simp only [List.getElem_toArray, List.getElem_cons_zero, List.getElem_cons_succ, Act.put, List.setIfInBounds_toArray, List.set_cons_zero, List.set_cons_succ]
          refine wpAnyH_take (i := 11) (v := ?_) rfl (by kernel_rfl) (by kernel_rfl) (by kernel_rfl) (fun _ _ _ h => h) (Or.inl ⟨by rfl, ?_⟩) (by assumption) ?_
          rotate_left 1
          · (intro w hSw; (try dsimp only at hSw); go_simp; try (with_reducible rfl))
          try simp only [List.getElem_toArray, List.getElem_cons_zero, List.getElem_cons_succ, Act.put, List.setIfInBounds_toArray, List.set_cons_zero, List.set_cons_succ]
          refine wpAnyH_take (i := 13) (v := ?_) rfl (by kernel_rfl) (by kernel_rfl) (by kernel_rfl) (fun _ _ _ h => h) (Or.inl ⟨by rfl, ?_⟩) (by assumption) ?_
          rotate_left 1
          · (intro w hSw; (try dsimp only at hSw); go_simp; try (with_reducible rfl))
          try simp only [List.getElem_toArray, List.getElem_cons_zero, List.getElem_cons_succ, Act.put, List.setIfInBounds_toArray, List.set_cons_zero, List.set_cons_succ]
          refine wpAnyH_ready (rs := [12, 14]) (by kernel_rfl) (by simp) ?_
          refine AllReadyH.cons rfl (fun K hK => ?_) (AllReadyH.cons rfl (fun K hK => ?_) AllReadyH.nil)
          · obtain ⟨v, hlk, hov, hlen, hput⟩ := (HLV.out.below hVd).put hn2 x (WalkArith.wf_i64 hxr)
            obtain ⟨va, vc, rfl⟩ := hov.form
            have hlk2 : Sem.run Tryz.prog (Instr.lookup 59 (.map (some M)) (.int .i64 x) false) V.drew = .ok (.slice va (liv ps k x).length vc) V.drew := hlk
            have HPUT : Hid _ := hput
            have HOV : Hid (OVI (V.drew.alloc (Obj.cells #[.int .i64 k] 3)) (M + 1) (.slice va (liv ps k x).length vc) (liv ps k x) ∧ M ≠ R ∧ (V.drew.alloc (Obj.cells #[.int .i64 k] 3)).heap[R]? = some (.cells #[.slice a ps.length c, .map (some M)] 61 (0, 0)) ∧ (V.drew.alloc (Obj.cells #[.int .i64 k] 3)).heap[B]? = some (.cells #[.int .i64 x, .int .i64 y] 72 (0, 0))) := ⟨hov.below ((Below.refl _ _).alloc (Nat.le_refl _) _), HBL.out.1, (Below.heap_alloc _ _ _ (by exact HBL.out.2.2.2.1)).trans HBL.out.2.1, (Below.heap_alloc _ _ _ (by exact HBL.out.2.2.2.2)).trans HBL.out.2.2.1⟩
            clear hlk hput hov
            go_simp
            refine hK.out _ _ (by exact ⟨a1, b0⟩) (fun hHeld => ?_)
            clear hK K
            try simp only [List.getElem_toArray, List.getElem_cons_zero, List.getElem_cons_succ, Act.put, List.setIfInBounds_toArray, List.set_cons_zero, List.set_cons_succ]
            refine wpAnyH_ready (rs := [14]) (by kernel_rfl) (by simp) ?_
            refine AllReadyH.cons rfl (fun K hK => ?_) AllReadyH.nil
            go_simp
            refine hK.out _ _ (by exact ⟨keepA _ (by exact HBL.out.2.2.2.1) a1, keepA _ (by exact HBL.out.2.2.2.2) b0⟩) (fun hHeld => ?_)
            clear hK K hlk2
            try simp only [List.getElem_toArray, List.getElem_cons_zero, List.getElem_cons_succ, Act.put, List.setIfInBounds_toArray, List.set_cons_zero, List.set_cons_succ]
            refine wpAnyH_ready (rs := [15]) (by kernel_rfl) (by simp) ?_
            refine AllReadyH.cons rfl (fun K hK => ?_) AllReadyH.nil
            refine wanted_step8 rfl (wp_append_i1 (.tmp 34) (.tmp 36) rfl (M + 1) (.slice va (liv ps k x).length vc) (liv ps k x) (by simp [Act.eval]) HOV.out.1 V.drew.heap.size (k : Int) (by simp [Act.eval]) (by simp) (by omega) (by omega) (by omega) (by simp; omega) ?_)
            intro v1 w1 hov1 hg1 hat1
            have hg01 : V.drew.grownBy w1 (Value.slice va (liv ps k x).length vc).ownBlock := (World.grownBy_alloc _ _ _).trans hg1
            obtain ⟨w2, hr2, hl2, hg2⟩ := HPUT.out w1 v1 k hg01 hov1 (hat1.imp id (fun h => ⟨_, h, by simp⟩))
            obtain ⟨va1, vc1, hv1⟩ := hov1.form
            have hln : (liv ps k x ++ [(k : Int)]).length = (liv ps k x).length + 1 := by simp
            rw [hln] at hv1
            clear hln
            subst hv1
            have hne := HOV.out.2
            have A1 := grown_blkI hg1 hne.2.1 (HOV.out.1.blk_ne hne.2.1 (by decide))
            have B1 := grown_blkI hg1 hne.2.2 (HOV.out.1.blk_ne hne.2.2 (by decide))
            have hMR : M ≠ R := hne.1
            have HEND : Hid (Liv w2 M (n + 1) (liv ps (k + 1)) ∧ Atl w2 R M a ps.length c ∧ Below M w w2) := by
              refine ⟨?_, ⟨grown_blkI hg2 A1 (by simpa using fun e : R = M => hMR e.symm)⟩, HBV.out.trans (set_below hg01 hg2 (Nat.le_of_lt HLV.out.lt) HOV.out.1)⟩
              have he : (fun t => if t = x then liv ps k x ++ [(k : Int)] else liv ps k t) = liv ps (k + 1) := by
                funext t
                rw [HLI.out t]
                by_cases ht : t = x
                · rw [if_pos ht, if_pos ht, ht]
                · rw [if_neg ht, if_neg ht]
              rw [← he]
              exact hl2
            have hr2' : Sem.run Tryz.prog (Instr.mapUpdate 59 (.map (some M)) (.int .i64 x) (.slice va1 ((liv ps k x).length + 1) vc1)) w1 = .ok () w2 := hr2
            refine hK.out _ _ (by exact ⟨blk_cellI A1 rfl, blk_cellI B1 rfl⟩) (fun hHeld => ?_)
            clear hK K
            try simp only [List.getElem_toArray, List.getElem_cons_zero, List.getElem_cons_succ, Act.put, List.setIfInBounds_toArray, List.set_cons_zero, List.set_cons_succ]
            refine wpAnyH_done (by kernel_rfl) ?_ _
            simp only [cutQ, List.drop_succ_cons, List.drop_zero]
            clear hHeld hl2 hg2 hg1 hov1 hat1 hg01 hr2
            go_wp2
            go_ret
            exact ⟨by rw [HSTT.out.1]; rfl, fun _ => ⟨HEND.out.1, HEND.out.2.1⟩, HEND.out.2.2⟩
          · have hVa : Below V.heap.size V (V.drew.alloc (Obj.cells #[.int .i64 k] 3)) := hVd.alloc (Nat.le_refl _) _
            obtain ⟨v, hlk, hov, hlen, hput⟩ := (HLV.out.below hVa).put hn2 x (WalkArith.wf_i64 hxr)
            obtain ⟨va, vc, rfl⟩ := hov.form
            have hlk2 : Sem.run Tryz.prog (Instr.lookup 59 (.map (some M)) (.int .i64 x) false) (V.alloc (Obj.cells #[.int .i64 k] 3)).drew = .ok (.slice va (liv ps k x).length vc) (V.alloc (Obj.cells #[.int .i64 k] 3)).drew := hlk
            have HPUT : Hid _ := hput
            have HOV : Hid (OVI (V.drew.alloc (Obj.cells #[.int .i64 k] 3)) (M + 1) (.slice va (liv ps k x).length vc) (liv ps k x) ∧ M ≠ R ∧ (V.drew.alloc (Obj.cells #[.int .i64 k] 3)).heap[R]? = some (.cells #[.slice a ps.length c, .map (some M)] 61 (0, 0)) ∧ (V.drew.alloc (Obj.cells #[.int .i64 k] 3)).heap[B]? = some (.cells #[.int .i64 x, .int .i64 y] 72 (0, 0))) := ⟨hov, HBL.out.1, (Below.heap_alloc _ _ _ (by exact HBL.out.2.2.2.1)).trans HBL.out.2.1, (Below.heap_alloc _ _ _ (by exact HBL.out.2.2.2.2)).trans HBL.out.2.2.1⟩
            clear hlk hput hov
            go_simp
            refine hK.out _ _ (by exact ⟨keepA _ (by exact HBL.out.2.2.2.1) a1, keepA _ (by exact HBL.out.2.2.2.2) b0⟩) (fun hHeld => ?_)
            clear hK K
            try simp only [List.getElem_toArray, List.getElem_cons_zero, List.getElem_cons_succ, Act.put, List.setIfInBounds_toArray, List.set_cons_zero, List.set_cons_succ]
            refine wpAnyH_ready (rs := [12]) (by kernel_rfl) (by simp) ?_
            refine AllReadyH.cons rfl (fun K hK => ?_) AllReadyH.nil
            go_simp
            refine hK.out _ _ (by exact hHeld) (fun hHeld => ?_)
            clear hK K hlk2
            try simp only [List.getElem_toArray, List.getElem_cons_zero, List.getElem_cons_succ, Act.put, List.setIfInBounds_toArray, List.set_cons_zero, List.set_cons_succ]
            refine wpAnyH_ready (rs := [15]) (by kernel_rfl) (by simp) ?_
            refine AllReadyH.cons rfl (fun K hK => ?_) AllReadyH.nil
            refine wanted_step8 rfl (wp_append_i1 (.tmp 34) (.tmp 36) rfl (M + 1) (.slice va (liv ps k x).length vc) (liv ps k x) (by simp [Act.eval]) HOV.out.1 V.drew.heap.size (k : Int) (by simp [Act.eval]) (by simp) (by omega) (by omega) (by omega) (by simp; omega) ?_)
            intro v1 w1 hov1 hg1 hat1
            have hg01 : (V.drew.alloc (Obj.cells #[.int .i64 k] 3)).grownBy w1 (Value.slice va (liv ps k x).length vc).ownBlock := hg1
            obtain ⟨w2, hr2, hl2, hg2⟩ := HPUT.out w1 v1 k hg01 hov1 (hat1.imp id (fun h => ⟨_, h, by simp⟩))
            obtain ⟨va1, vc1, hv1⟩ := hov1.form
            have hln : (liv ps k x ++ [(k : Int)]).length = (liv ps k x).length + 1 := by simp
            rw [hln] at hv1
            clear hln
            subst hv1
            have hne := HOV.out.2
            have A1 := grown_blkI hg1 hne.2.1 (HOV.out.1.blk_ne hne.2.1 (by decide))
            have B1 := grown_blkI hg1 hne.2.2 (HOV.out.1.blk_ne hne.2.2 (by decide))
            have hMR : M ≠ R := hne.1
            have HEND : Hid (Liv w2 M (n + 1) (liv ps (k + 1)) ∧ Atl w2 R M a ps.length c ∧ Below M w w2) := by
              refine ⟨?_, ⟨grown_blkI hg2 A1 (by simpa using fun e : R = M => hMR e.symm)⟩, HBV.out.trans (set_below ((World.grownBy_alloc V.drew _ _).trans hg01) hg2 (Nat.le_of_lt HLV.out.lt) HOV.out.1)⟩
              have he : (fun t => if t = x then liv ps k x ++ [(k : Int)] else liv ps k t) = liv ps (k + 1) := by
                funext t
                rw [HLI.out t]
                by_cases ht : t = x
                · rw [if_pos ht, if_pos ht, ht]
                · rw [if_neg ht, if_neg ht]
              rw [← he]
              exact hl2
            have hr2' : Sem.run Tryz.prog (Instr.mapUpdate 59 (.map (some M)) (.int .i64 x) (.slice va1 ((liv ps k x).length + 1) vc1)) w1 = .ok () w2 := hr2
            refine hK.out _ _ (by exact ⟨blk_cellI A1 rfl, blk_cellI B1 rfl⟩) (fun hHeld => ?_)
            clear hK K
            try simp only [List.getElem_toArray, List.getElem_cons_zero, List.getElem_cons_succ, Act.put, List.setIfInBounds_toArray, List.set_cons_zero, List.set_cons_succ]
            refine wpAnyH_done (by kernel_rfl) ?_ _
            simp only [cutQ, List.drop_succ_cons, List.drop_zero]
            clear hHeld hl2 hg2 hg1 hov1 hat1 hg01 hr2
            go_wp2
            go_ret
            exact ⟨by rw [HSTT.out.1]; rfl, fun _ => ⟨HEND.out.1, HEND.out.2.1⟩, HEND.out.2.2⟩
end Go.Proofs.YtennmikgehidiaaGreatDoor
