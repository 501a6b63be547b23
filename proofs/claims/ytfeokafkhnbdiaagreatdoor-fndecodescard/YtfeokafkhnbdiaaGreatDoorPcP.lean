/-
  packsOf of the program. (Typed by wip/mkpcp.py.)
-/
import Derived.StillTail
import Derived.Deep.RegionHeld3
import Derived.Test.YtfeokafkhnbdiaaGreatDoorPcS
import Derived.BigQuiet
namespace Go.Proofs.YtfeokafkhnbdiaaGreatDoor
set_option linter.unusedVariables false

section
variable {P : Program} {ops : Array Oper} {md : Region.Mode}

/-- Behind the head the tail; any other way out as it was. -/
def cutQ (P : Program) (ops : Array Oper) (l : List Oper) (Q : Exit → Act → World → Prop) : Exit → Act → World → Prop
  | .normal, a, w => wpList P ops Q l a w
  | e, a, w => Q e a w

theorem oper_post {Q Q' : Exit → Act → World → Prop} (hp : ∀ c a w, Q' (.panic c) a w → Q (.panic c) a w) (ho : ∀ a w, Q' .outgrown a w → Q .outgrown a w) {o : Oper} {a : Act} {w : World} {K : Act → World → Prop} (hh : o.wp P a w K Q') : o.wp P a w K Q := by
  have hl : LetsOut Q' → LetsOut Q := fun ⟨a, w, h⟩ => ⟨a, w, ho a w h⟩
  unfold Oper.wp at *
  generalize (execOp a.eval o).run P w = r at *
  cases r with
  | ok n w' =>
    cases n <;> simp only [Oper.upon] at hh ⊢ <;>
      first
        | exact hh
        | exact Calls.mono hh (fun e w'' he => by cases e <;> first | exact he | exact hp _ _ _ he | exact hl he)
  | halt x w' => cases x <;> simp only [Oper.upon] at hh ⊢ <;> first | exact hh | exact hp _ _ _ hh
theorem wpOp_post {Q Q' : Exit → Act → World → Prop} (hp : ∀ c a w, Q' (.panic c) a w → Q (.panic c) a w) (ho : ∀ a w, Q' .outgrown a w → Q .outgrown a w) {i : Nat} {a : Act} {w : World} {K : Act → World → Prop} (hh : wpOp P ops Q' i K a w) : wpOp P ops Q i K a w := by
  have hl : LetsOut Q' → LetsOut Q := fun ⟨a, w, h⟩ => ⟨a, w, ho a w h⟩
  unfold wpOp at *
  split
  · rename_i h; simp only [h] at hh; exact hh
  · rename_i o h
    simp only [h] at hh
    split
    · rename_i hw; simp only [hw, if_true] at hh; exact hh.imp (oper_post hp ho) (fun h => ⟨h.1, hl h.2⟩)
    · rename_i hw; simp only [hw] at hh; exact hh
theorem wpAny_up1 {Q : Exit → Act → World → Prop} : ∀ (m : Nat) (L : Array Bool) (a : Act) (w : World), wpAny P md ops Q m L a w → wpAny P md ops Q (m + 1) L a w
  | 0, L, a, w, h => ⟨fun _ => h.2, fun i hi => by rw [h.1] at hi; cases hi⟩
  | m + 1, L, a, w, h => ⟨h.1, fun i hi => wpOp_mono (fun a' w' h' => wpAny_up1 m _ a' w' h') (h.2 i hi)⟩
theorem wpAny_up {Q : Exit → Act → World → Prop} (m k : Nat) (L : Array Bool) (a : Act) (w : World) (h : wpAny P md ops Q m L a w) : wpAny P md ops Q (k + m) L a w := by
  induction k with
  | zero => rw [Nat.zero_add]; exact h
  | succ k ih => rw [show k + 1 + m = (k + m) + 1 from by omega]; exact wpAny_up1 _ _ _ _ ih

/-- What is asked of a cut at n. -/
structure CutOk (md : Region.Mode) (ops : Array Oper) (n : Nat) : Prop where
  le : n ≤ ops.size
  head : ∀ i o, i < n → ops[i]? = some o → ∀ e ∈ o.after, Region.binds md e = true → e.on < i
  tail : ∀ j o, n ≤ j → ops[j]? = some o → ∀ i, i < n → ∃ e ∈ o.after, Region.binds md e = true ∧ e.on = i
  seq : Region.seqB md ops (ops.size - n) n ((Array.replicate n true) ++ (Array.replicate (ops.size - n) false)) = true
/-- L is listed; in L' the tail is, too. -/
structure CutRel (n N : Nat) (L L' : Array Bool) : Prop where
  s1 : L.size = N
  s2 : L'.size = N
  eq : ∀ i, i < n → ∀ d, L.getD i d = L'.getD i d
  t1 : ∀ j, n ≤ j → j < N → L.getD j true = false
  t2 : ∀ j, n ≤ j → L'.getD j true = true
theorem CutRel.set {n N i : Nat} {L L' : Array Bool} (h : CutRel n N L L') (hi : i < n) (hn : n ≤ N) : CutRel n N (L.setIfInBounds i true) (L'.setIfInBounds i true) := by
  refine ⟨by simp [h.s1], by simp [h.s2], fun j hj d => ?_, fun j hj hjN => ?_, fun j hj => ?_⟩
  · by_cases e : i = j
    · subst e
      have h1 : i < L.size := by rw [h.s1]; omega
      have h2 : i < L'.size := by rw [h.s2]; omega
      simp [h1, h2]
    · rw [getD_set_ne d e, getD_set_ne d e]; exact h.eq j hj d
  · rw [getD_set_ne true (by omega)]; exact h.t1 j hj hjN
  · rw [getD_set_ne true (by omega)]; exact h.t2 j hj
/-- Where none of the head is ready, all of it has come up. -/
theorem CutRel.full {n N : Nat} {L L' : Array Bool} (h : CutRel n N L L') (hc : CutOk md ops n) (hN : ops.size = N) (hr : Region.ready md ops L' = []) : ∀ i, i < n → L.getD i true = true := by
  intro i
  induction i using Nat.strongRecOn with
  | _ i ih =>
    intro hi
    cases hl : L.getD i true with
    | true => rfl
    | false =>
      exfalso
      have hiN : i < ops.size := by have := hc.le; omega
      have hmem : i ∈ Region.ready md ops L' := by
        rw [mem_ready]
        refine ⟨by rw [← h.eq i hi]; exact hl, ops[i], Array.getElem?_eq_getElem hiN, fun e he hb => ?_⟩
        have h1 := hc.head i _ hi (Array.getElem?_eq_getElem hiN) e he hb
        have h2 := ih e.on h1 (by omega)
        rw [← h.eq e.on (by omega)]
        have h3 : e.on < L.size := by rw [h.s1]; omega
        simp [h3] at h2 ⊢
        exact h2
      rw [hr] at hmem
      cases hmem
theorem cut_sim {Q : Exit → Act → World → Prop} {l : List Oper} {n : Nat} (hl : ops = l.toArray) (hc : CutOk md ops n) : ∀ (m : Nat) (L L' : Array Bool) (a : Act) (w : World), CutRel n ops.size L L' →
    wpAny P md ops (cutQ P ops (l.drop n) Q) m L' a w → wpAny P md ops Q (m + (ops.size - n)) L a w := by
  have base : ∀ (L L' : Array Bool) (a : Act) (w : World), CutRel n ops.size L L' → Region.ready md ops L' = [] → wpList P ops Q (l.drop n) a w → wpAny P md ops Q (ops.size - n) L a w := by
    intro L L' a w hr he hw
    have hfull := hr.full hc rfl he
    have hle := hc.le
    have hLe : L = (Array.replicate n true) ++ (Array.replicate (ops.size - n) false) := by
      apply Array.ext
      · simp [hr.s1]; omega
      · intro i h1 h2
        by_cases hi : i < n
        · have := hfull i hi
          simp [h1] at this
          rw [this]
          simp [hi]
        · have := hr.t1 i (by omega) (by rw [hr.s1] at h1; exact h1)
          simp [h1] at this
          rw [this]
          simp [Array.getElem_append, hi]
    have hdl : (l.drop n).length = ops.size - n := by rw [hl]; simp
    have h5 := wpAny_of_seq (P := P) (md := md) (ops := ops) (Q' := Q) (l.drop n) n L a w (fun j => by rw [hl]; simp [List.getElem?_drop]) (by rw [hdl, hLe]; exact hc.seq) hw
    rwa [hdl] at h5
  intro m
  induction m with
  | zero =>
    intro L L' a w hr h
    rw [Nat.zero_add]
    exact base L L' a w hr h.1 h.2
  | succ m ih =>
    intro L L' a w hr h
    by_cases he : Region.ready md ops L' = []
    · exact wpAny_up _ _ _ _ _ (base L L' a w hr he (h.1 he))
    · have h2 : ∀ i, i ∈ Region.ready md ops L' → i < n ∧ i ∈ Region.ready md ops L := by
        intro i hi
        have hin : i < n := by
          rcases Nat.lt_or_ge i n with h3 | h3
          · exact h3
          · have := (mem_ready.1 hi).1
            rw [hr.t2 i h3] at this
            cases this
        refine ⟨hin, ?_⟩
        obtain ⟨h3, o, ho, hall⟩ := mem_ready.1 hi
        rw [mem_ready]
        refine ⟨by rw [hr.eq i hin]; exact h3, o, ho, fun e hee hb => ?_⟩
        rw [hr.eq e.on (by have := hc.head i o hin ho e hee hb; omega)]
        exact hall e hee hb
      obtain ⟨i0, hi0⟩ := List.exists_mem_of_ne_nil _ he
      obtain ⟨hi0n, hi0r⟩ := h2 i0 hi0
      rw [show m + 1 + (ops.size - n) = (m + (ops.size - n)) + 1 from by omega]
      refine ⟨fun h3 => (by rw [h3] at hi0r; cases hi0r), fun i hi => ?_⟩
      have hin : i < n := by
        rcases Nat.lt_or_ge i n with h3 | h3
        · exact h3
        · exfalso
          obtain ⟨_, o, ho, hall⟩ := mem_ready.1 hi
          obtain ⟨e, hee, hb, hon⟩ := hc.tail i o h3 ho i0 hi0n
          have h4 := hall e hee hb
          rw [hon, getD_both (mem_ready.1 hi0r).1] at h4
          cases h4
      have hi' : i ∈ Region.ready md ops L' := by
        obtain ⟨h3, o, ho, hall⟩ := mem_ready.1 hi
        rw [mem_ready]
        refine ⟨by rw [← hr.eq i hin]; exact h3, o, ho, fun e hee hb => ?_⟩
        rw [← hr.eq e.on (by have := hc.head i o hin ho e hee hb; omega)]
        exact hall e hee hb
      exact wpOp_post (Q' := cutQ P ops (l.drop n) Q) (fun _ _ _ h => h) (fun _ _ h => h) (wpOp_mono (fun a' w' h' => ih _ _ a' w' (hr.set hin hc.le) h') (h.2 i hi'))

/-- The cut's conditions, as a check. -/
def cutB (ops : Array Oper) (n : Nat) : Bool :=
  decide (n ≤ ops.size) && (List.range n).all (fun i => match ops[i]? with | some o => o.after.all (fun e => !Region.binds .any e || decide (e.on < i)) | none => true) &&
    (List.range ops.size).all (fun j => decide (j < n) || (List.range n).all (fun i => Region.waitsFor .any ops j i)) &&
    Region.seqB .any ops (ops.size - n) n ((Array.replicate n true) ++ (Array.replicate (ops.size - n) false))
theorem cutB_ok {n : Nat} (h : cutB ops n = true) : CutOk .any ops n := by
  unfold cutB at h
  simp only [Bool.and_eq_true, decide_eq_true_eq, List.all_eq_true, List.mem_range, Bool.or_eq_true] at h
  obtain ⟨⟨⟨h1, h2⟩, h3⟩, h4⟩ := h
  refine ⟨h1, fun i o hi ho e he hb => ?_, fun j o hj ho i hi => ?_, h4⟩
  · have := h2 i hi
    rw [ho] at this
    simp only [Array.all_eq_true_iff_forall_mem, Bool.or_eq_true, Bool.not_eq_true', decide_eq_true_eq] at this
    rcases this e he with h5 | h5
    · rw [hb] at h5; cases h5
    · exact h5
  · have hjN : j < ops.size := (Array.getElem?_eq_some_iff.1 ho).1
    rcases h3 j hjN with h5 | h5
    · omega
    · obtain ⟨oj, hoj, e, he, hb, hon⟩ := Region.waitsFor_spec (h5 i hi)
      have : oj = o := Option.some.inj (hoj.symm.trans ho)
      subst this
      exact ⟨e, he, hb, hon⟩
/-- THE CUT: what is held is held in the head; the tail is a plain list. -/
theorem wp_region_cut {S : World → Prop} {id : Nat} {Q : Exit → Act → World → Prop} {a : Act} {w : World} {l : List Oper} (n : Nat) (hm : P.follows .mixedOrders = true) (hB : cutB l.toArray n = true) (hS : S w.drew)
    (h : S w.drew → wpAnyH P .any l.toArray (cutQ P l.toArray (l.drop n) Q) S n ((Array.replicate n false) ++ (Array.replicate (l.toArray.size - n) true)) a w.drew) : (Code.region id l.toArray true).wp P Q a w := by
  have hc := cutB_ok hB
  have hle := hc.le
  refine wp_region_any hm ?_
  have h1 := wpAny_of_held _ _ _ _ (h hS)
  have h2 := cut_sim rfl hc n (Array.replicate l.toArray.size false) _ a _ ⟨by simp, by simp; simp at hle; omega, fun i hi d => ?_, fun j hj hjN => ?_, fun j hj => ?_⟩ h1
  · rw [show n + (l.toArray.size - n) = l.toArray.size from by omega] at h2
    exact h2
  · have h3 : i < l.length := by simp at hle; omega
    simp only [Array.getD_eq_getD_getElem?]
    rw [Array.getElem?_append_left (by simp; omega), Array.getElem?_replicate, Array.getElem?_replicate, if_pos (by simpa using h3), if_pos hi]
  · have h3 : j < l.length := by simpa using hjN
    simp [h3]
  · have h3 : ¬ j < n := by omega
    simp only [Array.getD_eq_getD_getElem?]
    rw [Array.getElem?_append_right (by simp; omega), Array.getElem?_replicate]
    split <;> rfl
end
end Go.Proofs.YtfeokafkhnbdiaaGreatDoor
namespace Go.Proofs.YtfeokafkhnbdiaaGreatDoor
set_option linter.unusedVariables false

section
variable {P : Program} {ops : Array Oper} {md : Region.Mode} {Q : Exit → Act → World → Prop} {S : World → Prop}
theorem tk (i : Nat) {oi : Oper} {v : Value} {fuel : Nat} {listed : Array Bool} {a : Act} {w : World} (y : ∀ w, S w → (execOp a.eval oi).run P w = .ok (.value v) w)
    (h : wpAnyH P md ops Q S fuel (listed.setIfInBounds i true) (a.put oi.dst v) w) (hi : ops[i]? = some oi := by rfl) (hs : Region.noSelect ops = true := by kernel_rfl) (hf : Region.free md ops listed i = true := by kernel_rfl) (hr : (Region.ready md ops listed).contains i = true := by kernel_rfl)
    (hQ : ∀ c a w, Q (.panic c) (a.put oi.dst v) w → Q (.panic c) a w := by exact fun _ _ _ h => h) (hg : Region.wanted oi (yielded ops a.tmps) = true := by rfl) (hS : S w := by assumption) : wpAnyH P md ops Q S (fuel + 1) listed a w :=
  wpAnyH_take hi hs hf hr hQ (Or.inl ⟨hg, y⟩) hS h
theorem tu (i : Nat) {oi : Oper} {fuel : Nat} {listed : Array Bool} {a : Act} {w : World}
    (h : wpAnyH P md ops Q S fuel (listed.setIfInBounds i true) (a.put oi.dst undef) w) (hi : ops[i]? = some oi := by rfl) (hs : Region.noSelect ops = true := by kernel_rfl) (hf : Region.free md ops listed i = true := by kernel_rfl) (hr : (Region.ready md ops listed).contains i = true := by kernel_rfl)
    (hQ : ∀ c a w, Q (.panic c) (a.put oi.dst undef) w → Q (.panic c) a w := by exact fun _ _ _ h => h) (hg : Region.wanted oi (yielded ops a.tmps) = false := by rfl) (hS : S w := by assumption) : wpAnyH P md ops Q S (fuel + 1) listed a w :=
  wpAnyH_take hi hs hf hr hQ (Or.inr ⟨hg, rfl⟩) hS h
end
theorem tkS : (∀ (α : Type) (l : List α) (i : Nat) (h : i < l.toArray.size), l.toArray[i] = l[i]'(by simpa using h)) ∧ (∀ (α : Type) (a : α) (l : List α) (h : 0 < (a :: l).length), (a :: l)[0] = a) ∧ (∀ (α : Type) (a : α) (l : List α) (i : Nat) (h : i + 1 < (a :: l).length), (a :: l)[i + 1] = l[i]'(Nat.lt_of_succ_lt_succ h)) ∧
    (∀ (a : Act) (d : Tmp) (v : Value), a.put (some d) v = { a with tmps := a.tmps.setIfInBounds d v }) ∧ (∀ (a : Act) (v : Value), a.put none v = a) ∧ (∀ (α : Type) (l : List α) (i : Nat) (a : α), l.toArray.setIfInBounds i a = (l.set i a).toArray) ∧ (∀ (α : Type) (a : α) (l : List α) (b : α), (a :: l).set 0 b = b :: l) ∧ (∀ (α : Type) (a : α) (l : List α) (i : Nat) (b : α), (a :: l).set (i + 1) b = a :: l.set i b) :=
  ⟨fun _ _ _ _ => by simp, fun _ _ _ _ => rfl, fun _ _ _ _ _ => rfl, fun _ _ _ => rfl, fun _ _ => rfl, fun _ _ _ _ => by simp, fun _ _ _ _ => rfl, fun _ _ _ _ _ => rfl⟩
end Go.Proofs.YtfeokafkhnbdiaaGreatDoor
namespace Go.Proofs.YtfeokafkhnbdiaaGreatDoor
open Go.RowKit
set_option linter.unusedVariables false
set_option linter.unusedSimpArgs false

/-- The coins of the first k counts. -/
def coinsL (zs : List Int) : Nat → List Pc
  | 0 => []
  | k + 1 => if 0 < zs.getD k 0 then coinsL zs k ++ [.coin k (zs.getD k 0).toNat] else coinsL zs k
theorem coinsL_len (zs : List Int) : ∀ k, (coinsL zs k).length ≤ k
  | 0 => Nat.le_refl _
  | k + 1 => by
    have := coinsL_len zs k
    simp only [coinsL]
    split
    · simp; omega
    · omega

set_option maxRecDepth 20000 in
set_option maxHeartbeats 4000000 in
theorem coinsOf_any (a : Option Addr) (c : Nat) (zs : List Int) (w : World) (hb : Ins w a zs) (hl : zs.length ≤ 80) (hz : ∀ z ∈ zs, 0 ≤ z) :
    Calls Tryz.prog 120 #[.slice a zs.length c] w fun e w' => ∃ v, e = .returned v ∧ OVV w' w.heap.size v (coinsL zs zs.length) ∧ Below w.heap.size w w' := by
  have HY : Hid (Ins w a zs ∧ ∀ z ∈ zs, 0 ≤ z) := ⟨hb, hz⟩
  have HCL : Hid (∀ k, (coinsL zs k).length ≤ k) := coinsL_len zs
  have HC1 : Hid (∀ k, 0 < zs.getD k 0 → coinsL zs (k + 1) = coinsL zs k ++ [.coin k (zs.getD k 0).toNat]) := fun k h => by simp only [coinsL]; rw [if_pos h]
  have HC0 : Hid (∀ k, ¬ 0 < zs.getD k 0 → coinsL zs k = coinsL zs (k + 1)) := fun k h => by simp only [coinsL]; rw [if_neg h]
  have HCZ : Hid (coinsL zs 0 = [] ∧ True) := ⟨rfl, trivial⟩
  clear hb hz
  generalize hL : zs.length = n at *
  have HL : Hid (zs.length = n ∧ True) := ⟨hL, trivial⟩
  clear hL
  go_enter Tryz.func120, Tryz.ntmps120
  go_wp2
  go_loopw [8, 3] (fun i lv W => ∃ k : Nat, k ≤ n ∧ i = .int .i64 k ∧ OVV W w.heap.size lv (coinsL zs k) ∧ Below w.heap.size w W) (fun i _ _ => n - (intOf i).toNat)
  case atStart => exact ⟨0, Nat.zero_le _, rfl, by rw [HCZ.out.1]; exact OVV.nil _ _, Below.refl _ _⟩
  case round =>
    obtain ⟨k, hk, rfl, hov, hbel⟩ := hrel
    have HR : Hid (OVV wr w.heap.size u3 (coinsL zs k) ∧ Below w.heap.size w wr) := ⟨hov, hbel⟩
    clear hov hbel
    by_cases hlt : k < n
    · obtain ⟨b1, o1, rfl, hb1, hc1⟩ := HY.out.1.2 (by rw [HL.out.1]; omega)
      have hc := keep HR.out.2 hb1 (hc1 k (by rw [HL.out.1]; exact hlt))
      have hz0 : 0 ≤ zs.getD k 0 := HY.out.2 _ (by rw [List.getD_eq_getElem?_getD, List.getElem?_eq_getElem (by rw [HL.out.1]; exact hlt)]; exact List.getElem_mem _)
      obtain ⟨z, hzz⟩ : ∃ z : Nat, zs.getD k 0 = z := ⟨(zs.getD k 0).toNat, by omega⟩
      have H1 := HC1.out k
      have H0 := HC0.out k
      rw [hzz] at hc H1 H0
      have hkn : (k : Int) < (n : Int) := by omega
      have hll := HCL.out k
      obtain ⟨la, lc, hv3, -, -⟩ := HR.out.1.slice
      subst hv3
      clear hc1 hz0 hzz
      by_cases hp : 0 < z
      · have hp2 : (0 : Int) < (z : Int) := by omega
        have HE : Hid (coinsL zs (k + 1) = coinsL zs k ++ [.coin k z]) := H1 hp2
        have HYY : Hid (OVV (wr.alloc (Obj.cells #[.iface 198 (.agg #[.int .i64 k, .int .i64 z])] 166)) w.heap.size (.slice la (coinsL zs k).length lc) (coinsL zs k) ∧ Pcs (wr.alloc (Obj.cells #[.iface 198 (.agg #[.int .i64 k, .int .i64 z])] 166)) (some ⟨wr.heap.size, 0, none⟩) [.coin k z] ∧ w.heap.size ≤ (wr.alloc (Obj.cells #[.iface 198 (.agg #[.int .i64 k, .int .i64 z])] 166)).heap.size ∧ Below w.heap.size w (wr.alloc (Obj.cells #[.iface 198 (.agg #[.int .i64 k, .int .i64 z])] 166))) :=
          ⟨HR.out.1.below ((Below.refl _ _).alloc (Nat.le_refl _) _), pcs_one wr (.coin k z), by have := HR.out.2.size; simp; omega, HR.out.2.alloc HR.out.2.size _⟩
        clear H1 H0
        go_wp2_with (at_builtin; (refine wpList_append_pc (v := .slice la (coinsL zs k).length lc) (qs := [.coin k z]) rfl (.tmp 15) (.tmp 20) 163 163 rfl Tryz.underlying163 Tryz.underlying163 rfl rfl rfl HYY.out.1 HYY.out.2.1 (show (coinsL zs k).length + 1 ≤ 100000 by omega) HYY.out.2.2.1 ?_; intro v9 w9 hov9 hg9 hat9; have H9 : Hid (OVV w9 w.heap.size v9 (coinsL zs (k + 1)) ∧ Below w.heap.size w w9) := ⟨(by rw [HE.out]; exact hov9), HYY.out.2.2.2.grown hg9 HYY.out.2.2.1 (fun j hj => (World.ownsRow.lt HYY.out.1 j hj).1)⟩; clear hov9 hg9 hat9))
        go_roundw
        case rel => exact ⟨k + 1, by omega, by go_num, H9.out.1, H9.out.2⟩
        case measure => simp [intOf]; omega
      · have hp2 : ¬ (0 : Int) < (z : Int) := by omega
        have HE : Hid (coinsL zs k = coinsL zs (k + 1)) := H0 (by omega)
        clear H1 H0
        go_wp2
        go_roundw
        case rel => exact ⟨k + 1, by omega, by go_num, by rw [← HE.out]; exact HR.out.1, HR.out.2⟩
        case measure => simp [intOf]; omega
    · have hkn : k = n := by omega
      subst hkn
      go_wp2
      go_ret
      exact ⟨_, rfl, HR.out.1, HR.out.2⟩
/-- The first k packs of two. -/
def pairL (l : List Pc) : Nat → List Pc
  | 0 => []
  | k + 1 => pairL l k ++ [.pack (l.getD (2 * k) dpc) (l.getD (2 * k + 1) dpc) k]
theorem pairL_len (l : List Pc) : ∀ k, (pairL l k).length = k
  | 0 => rfl
  | k + 1 => by simp [pairL, pairL_len l k]
/-- What is asked of a parcel by its method. -/
theorem Pc.asked (p : Pc) (hp : p.fine) : (∃ x, p.vl = .iface 198 x ∧ ∀ W, Calls Tryz.prog 184 #[x] W fun e w' => e = .returned (.int .i64 (p.wt : Nat)) ∧ Below W.heap.size W w') ∨ (∃ x, p.vl = .iface 205 x ∧ ∀ W, Calls Tryz.prog 193 #[x] W fun e w' => e = .returned (.int .i64 (p.wt : Nat)) ∧ Below W.heap.size W w') := by
  cases p with
  | coin s c => exact .inl ⟨_, rfl, fun W => coinWeight_any s c W⟩
  | pack a b n => exact .inr ⟨_, rfl, fun W => packWeight_any a b n W⟩

set_option maxRecDepth 20000 in
set_option maxHeartbeats 8000000 in
theorem packsOf_any (a : Option Addr) (c : Nat) (l : List Pc) (w : World) (hb : Pcs w a l) (hl : l.length ≤ 900) (hf : ∀ p ∈ l, p.fine) :
    Calls Tryz.prog 122 #[.slice a l.length c] w fun e w' => ∃ v, e = .returned v ∧ OVV w' w.heap.size v (pairL l (l.length / 2)) ∧ Below w.heap.size w w' := by
  have HY : Hid (Pcs w a l) := hb
  have HFI : Hid (∀ i, (l.getD i dpc).fine) := fun i => by
    rw [List.getD_eq_getElem?_getD]
    cases he : l[i]? with
    | none => exact ⟨by simp [dpc, Pc.wt], by simp [dpc, Pc.plc]⟩
    | some p => exact hf p (List.mem_of_getElem? he)
  have HPL : Hid (∀ k, (pairL l k).length = k) := pairL_len l
  clear hb hf
  obtain ⟨n, hn⟩ : ∃ n, n = l.length / 2 := ⟨_, rfl⟩
  rw [← hn]
  have hq : Int.tdiv (l.length : Int) 2 = (n : Int) := by rw [Int.tdiv_eq_ediv_of_nonneg (by omega)]; omega
  have HN : Hid (2 * n ≤ l.length ∧ True) := ⟨by omega, trivial⟩
  have hn1 : n ≤ 450 := by omega
  clear hn
  obtain ⟨N, hN⟩ : ∃ N, N = l.length := ⟨_, rfl⟩
  rw [← hN] at hq HN hl ⊢
  have HNL : Hid (N = l.length ∧ True) := ⟨hN, trivial⟩
  clear hN
  have mcw := Tryz.meth_coin_weight
  have mpw := Tryz.meth_coinPack_weight
  go_enter Tryz.func122, Tryz.ntmps122
  go_wp2
  go_loopw [11, 3] (fun i lv W => ∃ k : Nat, k ≤ n ∧ i = .int .i64 k ∧ OVV W w.heap.size lv (pairL l k) ∧ Below w.heap.size w W) (fun i _ _ => n - (intOf i).toNat)
  case atStart => exact ⟨0, Nat.zero_le _, rfl, OVV.nil _ _, Below.refl _ _⟩
  case round =>
    obtain ⟨k, hk, rfl, hov, hbel⟩ := hrel
    have HR : Hid (OVV wr w.heap.size u3 (pairL l k) ∧ Below w.heap.size w wr) := ⟨hov, hbel⟩
    have HBD : Hid (∀ nq, Below w.heap.size w (wr.drewN nq) ∧ OVV (wr.drewN nq) w.heap.size u3 (pairL l k)) := fun nq => ⟨⟨hbel.os, hbel.tape, hbel.output, hbel.size, hbel.block⟩, hov⟩
    clear hov hbel
    by_cases hlt : k < n
    · obtain ⟨b1, o1, rfl, hb1, hc1⟩ := HY.out (by have := HN.out.1; have := HNL.out.1; omega)
      obtain ⟨i0, hi0⟩ : ∃ i, i = 2 * k := ⟨_, rfl⟩
      obtain ⟨i1, hi1⟩ : ∃ i, i = 2 * k + 1 := ⟨_, rfl⟩
      have hb1w : b1 < wr.heap.size := by have := HR.out.2.size; omega
      have hc0 := keep HR.out.2 hb1 (hc1 i0 (by have := HN.out.1; have := HNL.out.1; omega))
      have hc2 := keep HR.out.2 hb1 (hc1 i1 (by have := HN.out.1; have := HNL.out.1; omega))
      have hi0i : 2 * (k : Int) = (i0 : Int) := by omega
      have hi1i : (i0 : Int) + 1 = (i1 : Int) := by omega
      have hi0n : (i0 : Int) < (N : Int) := by have := HN.out.1; omega
      have hi1n : (i1 : Int) < (N : Int) := by have := HN.out.1; omega
      have hf0 := HFI.out i0
      have hf1 := HFI.out i1
      have HPK : Hid (pairL l (k + 1) = pairL l k ++ [.pack (l.getD i0 dpc) (l.getD i1 dpc) k]) := by rw [hi0, hi1]; rfl
      have hkn : (k : Int) < (n : Int) := by omega
      have hll := HPL.out k
      obtain ⟨la, lc, hv3, -, -⟩ := HR.out.1.slice
      rw [hll] at hv3
      subst hv3
      have HI : Hid (i0 = 2 * k ∧ i1 = 2 * k + 1) := ⟨hi0, hi1⟩
      clear hc1 hi0 hi1 hll
      generalize l.getD i0 dpc = p at *
      generalize l.getD i1 dpc = q at *
      have hw0 := hf0.1
      have hw1 := hf1.1
      rcases p.asked hf0 with ⟨x, hx, hcx⟩ | ⟨x, hx, hcx⟩
      · rcases q.asked hf1 with ⟨y, hy, hcy⟩ | ⟨y, hy, hcy⟩
        · have HVP : Hid (p.vl = .iface 198 x ∧ q.vl = .iface 198 y) := ⟨hx, hy⟩
          rw [hx] at hc0
          rw [hy] at hc2
          obtain ⟨u, hu⟩ : ∃ u, u = p.wt := ⟨_, rfl⟩
          obtain ⟨v, hv⟩ : ∃ v, v = q.wt := ⟨_, rfl⟩
          rw [← hu] at hcx hw0
          rw [← hv] at hcy hw1
          have HUV : Hid (u = p.wt ∧ v = q.wt) := ⟨hu, hv⟩
          obtain ⟨m, hm⟩ : ∃ m, m = u + v := ⟨_, rfl⟩
          have hmi : (u : Int) + (v : Int) = (m : Int) := by omega
          have HM : Hid (m = u + v ∧ True) := ⟨hm, trivial⟩
          have HCX : Hid _ := hcx
          have HCY : Hid _ := hcy
          clear hx hy hu hv hm hcx hcy hf0 hf1
          go_wp2
          go_quiet (fail)
          go_wp2_with fail
          generalize hW : wr.drewN nq = W4 at *
          have HB4 : Hid (Below w.heap.size w W4 ∧ OVV W4 w.heap.size (.slice la k lc) (pairL l k)) := by have := HBD.out nq; rw [hW] at this; exact this
          clear hW
          refine (HCX.out _).mono ?_
          rintro e w4 ⟨rfl, hb4⟩
          go_wp2_with fail
          refine (HCY.out _).mono ?_
          rintro e w5 ⟨rfl, hb5⟩
          have HB5 : Hid (Below w.heap.size w w5 ∧ OVV w5 w.heap.size (.slice la k lc) (pairL l k)) := ⟨(HB4.out.1.trans (hb4.mono HB4.out.1.size)).trans (hb5.mono (Nat.le_trans HB4.out.1.size hb4.size)), (HB4.out.2.below hb4).below hb5⟩
          have HYY : Hid (OVV (w5.alloc (Obj.cells #[.iface 205 (.agg #[.iface 198 x, .iface 198 y, .int .i64 ((m : Nat) : Int), .int .i64 k])] 166)) w.heap.size (.slice la k lc) (pairL l k) ∧ Pcs (w5.alloc (Obj.cells #[.iface 205 (.agg #[.iface 198 x, .iface 198 y, .int .i64 ((m : Nat) : Int), .int .i64 k])] 166)) (some ⟨w5.heap.size, 0, none⟩) [.pack p q k] ∧ w.heap.size ≤ (w5.alloc (Obj.cells #[.iface 205 (.agg #[.iface 198 x, .iface 198 y, .int .i64 ((m : Nat) : Int), .int .i64 k])] 166)).heap.size ∧ Below w.heap.size w (w5.alloc (Obj.cells #[.iface 205 (.agg #[.iface 198 x, .iface 198 y, .int .i64 ((m : Nat) : Int), .int .i64 k])] 166))) := by
            refine ⟨HB5.out.2.below ((Below.refl _ _).alloc (Nat.le_refl _) _), ?_, by have := HB5.out.1.size; simp; omega, HB5.out.1.alloc HB5.out.1.size _⟩
            have h1 := pcs_one w5 (.pack p q k)
            have h2 : (Pc.pack p q k).vl = .iface 205 (.agg #[.iface 198 x, .iface 198 y, .int .i64 ((m : Nat) : Int), .int .i64 k]) := by
              show Value.iface 205 (Pc.pack p q k).bd = _
              rw [Pc.bd_pack, HVP.out.1, HVP.out.2, HM.out.1, HUV.out.1, HUV.out.2]
            rw [h2] at h1
            exact h1
          clear hb4 hb5
          go_wp2_with (at_builtin; (refine wpList_append_pc (v := .slice la k lc) (ps := pairL l k) (qs := [.pack p q k]) rfl (.tmp 30) (.tmp 37) 163 163 rfl Tryz.underlying163 Tryz.underlying163 rfl rfl rfl HYY.out.1 HYY.out.2.1 (show (pairL l k).length + 1 ≤ 100000 by rw [HPL.out]; omega) HYY.out.2.2.1 ?_; intro v9 w9 hov9 hg9 hat9; have H9 : Hid (OVV w9 w.heap.size v9 (pairL l (k + 1)) ∧ Below w.heap.size w w9) := ⟨(by rw [HPK.out]; exact hov9), HYY.out.2.2.2.grown hg9 HYY.out.2.2.1 (fun j hj => (World.ownsRow.lt HYY.out.1 j hj).1)⟩; clear hov9 hg9 hat9))
          go_roundw
          case rel => exact ⟨k + 1, by omega, by go_num, H9.out.1, H9.out.2⟩
          case measure => simp [intOf]; omega
        · have HVP : Hid (p.vl = .iface 198 x ∧ q.vl = .iface 205 y) := ⟨hx, hy⟩
          rw [hx] at hc0
          rw [hy] at hc2
          obtain ⟨u, hu⟩ : ∃ u, u = p.wt := ⟨_, rfl⟩
          obtain ⟨v, hv⟩ : ∃ v, v = q.wt := ⟨_, rfl⟩
          rw [← hu] at hcx hw0
          rw [← hv] at hcy hw1
          have HUV : Hid (u = p.wt ∧ v = q.wt) := ⟨hu, hv⟩
          obtain ⟨m, hm⟩ : ∃ m, m = u + v := ⟨_, rfl⟩
          have hmi : (u : Int) + (v : Int) = (m : Int) := by omega
          have HM : Hid (m = u + v ∧ True) := ⟨hm, trivial⟩
          have HCX : Hid _ := hcx
          have HCY : Hid _ := hcy
          clear hx hy hu hv hm hcx hcy hf0 hf1
          go_wp2
          go_quiet (fail)
          go_wp2_with fail
          generalize hW : wr.drewN nq = W4 at *
          have HB4 : Hid (Below w.heap.size w W4 ∧ OVV W4 w.heap.size (.slice la k lc) (pairL l k)) := by have := HBD.out nq; rw [hW] at this; exact this
          clear hW
          refine (HCX.out _).mono ?_
          rintro e w4 ⟨rfl, hb4⟩
          go_wp2_with fail
          refine (HCY.out _).mono ?_
          rintro e w5 ⟨rfl, hb5⟩
          have HB5 : Hid (Below w.heap.size w w5 ∧ OVV w5 w.heap.size (.slice la k lc) (pairL l k)) := ⟨(HB4.out.1.trans (hb4.mono HB4.out.1.size)).trans (hb5.mono (Nat.le_trans HB4.out.1.size hb4.size)), (HB4.out.2.below hb4).below hb5⟩
          have HYY : Hid (OVV (w5.alloc (Obj.cells #[.iface 205 (.agg #[.iface 198 x, .iface 205 y, .int .i64 ((m : Nat) : Int), .int .i64 k])] 166)) w.heap.size (.slice la k lc) (pairL l k) ∧ Pcs (w5.alloc (Obj.cells #[.iface 205 (.agg #[.iface 198 x, .iface 205 y, .int .i64 ((m : Nat) : Int), .int .i64 k])] 166)) (some ⟨w5.heap.size, 0, none⟩) [.pack p q k] ∧ w.heap.size ≤ (w5.alloc (Obj.cells #[.iface 205 (.agg #[.iface 198 x, .iface 205 y, .int .i64 ((m : Nat) : Int), .int .i64 k])] 166)).heap.size ∧ Below w.heap.size w (w5.alloc (Obj.cells #[.iface 205 (.agg #[.iface 198 x, .iface 205 y, .int .i64 ((m : Nat) : Int), .int .i64 k])] 166))) := by
            refine ⟨HB5.out.2.below ((Below.refl _ _).alloc (Nat.le_refl _) _), ?_, by have := HB5.out.1.size; simp; omega, HB5.out.1.alloc HB5.out.1.size _⟩
            have h1 := pcs_one w5 (.pack p q k)
            have h2 : (Pc.pack p q k).vl = .iface 205 (.agg #[.iface 198 x, .iface 205 y, .int .i64 ((m : Nat) : Int), .int .i64 k]) := by
              show Value.iface 205 (Pc.pack p q k).bd = _
              rw [Pc.bd_pack, HVP.out.1, HVP.out.2, HM.out.1, HUV.out.1, HUV.out.2]
            rw [h2] at h1
            exact h1
          clear hb4 hb5
          go_wp2_with (at_builtin; (refine wpList_append_pc (v := .slice la k lc) (ps := pairL l k) (qs := [.pack p q k]) rfl (.tmp 30) (.tmp 37) 163 163 rfl Tryz.underlying163 Tryz.underlying163 rfl rfl rfl HYY.out.1 HYY.out.2.1 (show (pairL l k).length + 1 ≤ 100000 by rw [HPL.out]; omega) HYY.out.2.2.1 ?_; intro v9 w9 hov9 hg9 hat9; have H9 : Hid (OVV w9 w.heap.size v9 (pairL l (k + 1)) ∧ Below w.heap.size w w9) := ⟨(by rw [HPK.out]; exact hov9), HYY.out.2.2.2.grown hg9 HYY.out.2.2.1 (fun j hj => (World.ownsRow.lt HYY.out.1 j hj).1)⟩; clear hov9 hg9 hat9))
          go_roundw
          case rel => exact ⟨k + 1, by omega, by go_num, H9.out.1, H9.out.2⟩
          case measure => simp [intOf]; omega
      · rcases q.asked hf1 with ⟨y, hy, hcy⟩ | ⟨y, hy, hcy⟩
        · have HVP : Hid (p.vl = .iface 205 x ∧ q.vl = .iface 198 y) := ⟨hx, hy⟩
          rw [hx] at hc0
          rw [hy] at hc2
          obtain ⟨u, hu⟩ : ∃ u, u = p.wt := ⟨_, rfl⟩
          obtain ⟨v, hv⟩ : ∃ v, v = q.wt := ⟨_, rfl⟩
          rw [← hu] at hcx hw0
          rw [← hv] at hcy hw1
          have HUV : Hid (u = p.wt ∧ v = q.wt) := ⟨hu, hv⟩
          obtain ⟨m, hm⟩ : ∃ m, m = u + v := ⟨_, rfl⟩
          have hmi : (u : Int) + (v : Int) = (m : Int) := by omega
          have HM : Hid (m = u + v ∧ True) := ⟨hm, trivial⟩
          have HCX : Hid _ := hcx
          have HCY : Hid _ := hcy
          clear hx hy hu hv hm hcx hcy hf0 hf1
          go_wp2
          go_quiet (fail)
          go_wp2_with fail
          generalize hW : wr.drewN nq = W4 at *
          have HB4 : Hid (Below w.heap.size w W4 ∧ OVV W4 w.heap.size (.slice la k lc) (pairL l k)) := by have := HBD.out nq; rw [hW] at this; exact this
          clear hW
          refine (HCX.out _).mono ?_
          rintro e w4 ⟨rfl, hb4⟩
          go_wp2_with fail
          refine (HCY.out _).mono ?_
          rintro e w5 ⟨rfl, hb5⟩
          have HB5 : Hid (Below w.heap.size w w5 ∧ OVV w5 w.heap.size (.slice la k lc) (pairL l k)) := ⟨(HB4.out.1.trans (hb4.mono HB4.out.1.size)).trans (hb5.mono (Nat.le_trans HB4.out.1.size hb4.size)), (HB4.out.2.below hb4).below hb5⟩
          have HYY : Hid (OVV (w5.alloc (Obj.cells #[.iface 205 (.agg #[.iface 205 x, .iface 198 y, .int .i64 ((m : Nat) : Int), .int .i64 k])] 166)) w.heap.size (.slice la k lc) (pairL l k) ∧ Pcs (w5.alloc (Obj.cells #[.iface 205 (.agg #[.iface 205 x, .iface 198 y, .int .i64 ((m : Nat) : Int), .int .i64 k])] 166)) (some ⟨w5.heap.size, 0, none⟩) [.pack p q k] ∧ w.heap.size ≤ (w5.alloc (Obj.cells #[.iface 205 (.agg #[.iface 205 x, .iface 198 y, .int .i64 ((m : Nat) : Int), .int .i64 k])] 166)).heap.size ∧ Below w.heap.size w (w5.alloc (Obj.cells #[.iface 205 (.agg #[.iface 205 x, .iface 198 y, .int .i64 ((m : Nat) : Int), .int .i64 k])] 166))) := by
            refine ⟨HB5.out.2.below ((Below.refl _ _).alloc (Nat.le_refl _) _), ?_, by have := HB5.out.1.size; simp; omega, HB5.out.1.alloc HB5.out.1.size _⟩
            have h1 := pcs_one w5 (.pack p q k)
            have h2 : (Pc.pack p q k).vl = .iface 205 (.agg #[.iface 205 x, .iface 198 y, .int .i64 ((m : Nat) : Int), .int .i64 k]) := by
              show Value.iface 205 (Pc.pack p q k).bd = _
              rw [Pc.bd_pack, HVP.out.1, HVP.out.2, HM.out.1, HUV.out.1, HUV.out.2]
            rw [h2] at h1
            exact h1
          clear hb4 hb5
          go_wp2_with (at_builtin; (refine wpList_append_pc (v := .slice la k lc) (ps := pairL l k) (qs := [.pack p q k]) rfl (.tmp 30) (.tmp 37) 163 163 rfl Tryz.underlying163 Tryz.underlying163 rfl rfl rfl HYY.out.1 HYY.out.2.1 (show (pairL l k).length + 1 ≤ 100000 by rw [HPL.out]; omega) HYY.out.2.2.1 ?_; intro v9 w9 hov9 hg9 hat9; have H9 : Hid (OVV w9 w.heap.size v9 (pairL l (k + 1)) ∧ Below w.heap.size w w9) := ⟨(by rw [HPK.out]; exact hov9), HYY.out.2.2.2.grown hg9 HYY.out.2.2.1 (fun j hj => (World.ownsRow.lt HYY.out.1 j hj).1)⟩; clear hov9 hg9 hat9))
          go_roundw
          case rel => exact ⟨k + 1, by omega, by go_num, H9.out.1, H9.out.2⟩
          case measure => simp [intOf]; omega
        · have HVP : Hid (p.vl = .iface 205 x ∧ q.vl = .iface 205 y) := ⟨hx, hy⟩
          rw [hx] at hc0
          rw [hy] at hc2
          obtain ⟨u, hu⟩ : ∃ u, u = p.wt := ⟨_, rfl⟩
          obtain ⟨v, hv⟩ : ∃ v, v = q.wt := ⟨_, rfl⟩
          rw [← hu] at hcx hw0
          rw [← hv] at hcy hw1
          have HUV : Hid (u = p.wt ∧ v = q.wt) := ⟨hu, hv⟩
          obtain ⟨m, hm⟩ : ∃ m, m = u + v := ⟨_, rfl⟩
          have hmi : (u : Int) + (v : Int) = (m : Int) := by omega
          have HM : Hid (m = u + v ∧ True) := ⟨hm, trivial⟩
          have HCX : Hid _ := hcx
          have HCY : Hid _ := hcy
          clear hx hy hu hv hm hcx hcy hf0 hf1
          go_wp2
          go_quiet (fail)
          go_wp2_with fail
          generalize hW : wr.drewN nq = W4 at *
          have HB4 : Hid (Below w.heap.size w W4 ∧ OVV W4 w.heap.size (.slice la k lc) (pairL l k)) := by have := HBD.out nq; rw [hW] at this; exact this
          clear hW
          refine (HCX.out _).mono ?_
          rintro e w4 ⟨rfl, hb4⟩
          go_wp2_with fail
          refine (HCY.out _).mono ?_
          rintro e w5 ⟨rfl, hb5⟩
          have HB5 : Hid (Below w.heap.size w w5 ∧ OVV w5 w.heap.size (.slice la k lc) (pairL l k)) := ⟨(HB4.out.1.trans (hb4.mono HB4.out.1.size)).trans (hb5.mono (Nat.le_trans HB4.out.1.size hb4.size)), (HB4.out.2.below hb4).below hb5⟩
          have HYY : Hid (OVV (w5.alloc (Obj.cells #[.iface 205 (.agg #[.iface 205 x, .iface 205 y, .int .i64 ((m : Nat) : Int), .int .i64 k])] 166)) w.heap.size (.slice la k lc) (pairL l k) ∧ Pcs (w5.alloc (Obj.cells #[.iface 205 (.agg #[.iface 205 x, .iface 205 y, .int .i64 ((m : Nat) : Int), .int .i64 k])] 166)) (some ⟨w5.heap.size, 0, none⟩) [.pack p q k] ∧ w.heap.size ≤ (w5.alloc (Obj.cells #[.iface 205 (.agg #[.iface 205 x, .iface 205 y, .int .i64 ((m : Nat) : Int), .int .i64 k])] 166)).heap.size ∧ Below w.heap.size w (w5.alloc (Obj.cells #[.iface 205 (.agg #[.iface 205 x, .iface 205 y, .int .i64 ((m : Nat) : Int), .int .i64 k])] 166))) := by
            refine ⟨HB5.out.2.below ((Below.refl _ _).alloc (Nat.le_refl _) _), ?_, by have := HB5.out.1.size; simp; omega, HB5.out.1.alloc HB5.out.1.size _⟩
            have h1 := pcs_one w5 (.pack p q k)
            have h2 : (Pc.pack p q k).vl = .iface 205 (.agg #[.iface 205 x, .iface 205 y, .int .i64 ((m : Nat) : Int), .int .i64 k]) := by
              show Value.iface 205 (Pc.pack p q k).bd = _
              rw [Pc.bd_pack, HVP.out.1, HVP.out.2, HM.out.1, HUV.out.1, HUV.out.2]
            rw [h2] at h1
            exact h1
          clear hb4 hb5
          go_wp2_with (at_builtin; (refine wpList_append_pc (v := .slice la k lc) (ps := pairL l k) (qs := [.pack p q k]) rfl (.tmp 30) (.tmp 37) 163 163 rfl Tryz.underlying163 Tryz.underlying163 rfl rfl rfl HYY.out.1 HYY.out.2.1 (show (pairL l k).length + 1 ≤ 100000 by rw [HPL.out]; omega) HYY.out.2.2.1 ?_; intro v9 w9 hov9 hg9 hat9; have H9 : Hid (OVV w9 w.heap.size v9 (pairL l (k + 1)) ∧ Below w.heap.size w w9) := ⟨(by rw [HPK.out]; exact hov9), HYY.out.2.2.2.grown hg9 HYY.out.2.2.1 (fun j hj => (World.ownsRow.lt HYY.out.1 j hj).1)⟩; clear hov9 hg9 hat9))
          go_roundw
          case rel => exact ⟨k + 1, by omega, by go_num, H9.out.1, H9.out.2⟩
          case measure => simp [intOf]; omega
    · have hkn : k = n := by omega
      subst hkn
      go_wp2
      go_ret
      exact ⟨_, rfl, HR.out.1, HR.out.2⟩
end Go.Proofs.YtfeokafkhnbdiaaGreatDoor
