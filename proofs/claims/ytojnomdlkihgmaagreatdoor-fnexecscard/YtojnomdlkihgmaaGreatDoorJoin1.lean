/-
  The model's l1join: the bits of one behind another's, one by one.
-/
import Derived.Test.YtojnomdlkihgmaaGreatDoorITxtI
import Derived.Test.YtojnomdlkihgmaaGreatDoorEnL
import Derived.Maps.AppendAt
import Derived.Test.YtojnomdlkihgmaaGreatDoorPmA
import Derived.Test.YtojnomdlkihgmaaGreatDoorPcN
import Derived.Test.YtojnomdlkihgmaaGreatDoorSyms
import Derived.Test.YtojnomdlkihgmaaGreatDoorPcV
import Derived.BigQuiet
import Derived.Test.YtojnomdlkihgmaaGreatDoorLPutT1
import Derived.Test.YtojnomdlkihgmaaGreatDoorILensC
import Derived.Test.YtojnomdlkihgmaaGreatDoorLPutM
import Derived.Test.YtojnomdlkihgmaaGreatDoorWCells
import Derived.Test.YtojnomdlkihgmaaGreatDoorNum
import Derived.Test.YtojnomdlkihgmaaGreatDoorPut3
import Derived.Test.YtojnomdlkihgmaaGreatDoorOwn1
namespace Go.Proofs.YtojnomdlkihgmaaGreatDoor
open Go.RowKit
set_option linter.unusedVariables false
set_option linter.unusedSimpArgs false
def Pc.sy : Pc → List Int
  | .coin s c => [(s : Int)]
  | .pack a b n => a.sy ++ b.sy
theorem sy_len (p : Pc) : p.sy.length = p.sz := by
  induction p with
  | coin s c => rfl
  | pack a b n iha ihb => simp [Pc.sy, Pc.sz, iha, ihb]
/-- A pack, and where its symbols lie. -/
structure Ek where
  p : Pc
  a : Option Addr
  c : Nat
def dek : Ek := ⟨dpc, none, 0⟩
def Ek.cells (e : Ek) : List Value := [.int .i64 e.p.wt, .slice e.a e.p.sy.length e.c]
theorem ek_flat (es : List Ek) (i : Nat) (hi : i < es.length) (j : Nat) (hj : j < 2) : (es.flatMap Ek.cells)[i * 2 + j]? = ((es.getD i dek).cells)[j]? := by
  induction es generalizing i with
  | nil => simp at hi
  | cons e es ih =>
    cases i with
    | zero =>
      simp only [List.flatMap_cons, Nat.zero_mul, Nat.zero_add]
      rw [List.getElem?_append_left (by simp [Ek.cells]; exact hj)]
      rfl
    | succ i =>
      simp only [List.flatMap_cons]
      rw [List.getElem?_append_right (by simp [Ek.cells]; omega)]
      have h := ih i (by simpa using hi)
      rw [show (i + 1) * 2 + j - e.cells.length = i * 2 + j by simp [Ek.cells]; omega, h]
      rfl
theorem ek_flen (es : List Ek) : (es.flatMap Ek.cells).length = es.length * 2 := by
  induction es with
  | nil => rfl
  | cons e es ih => simp [List.flatMap_cons, ih, Ek.cells]; omega
theorem ek_one (es : List Ek) : ∀ u ∈ es.flatMap Ek.cells, u.oneCell' = true := fun u hu => by
  obtain ⟨e, _, he⟩ := List.mem_flatMap.1 hu
  simp only [Ek.cells, List.mem_cons, List.not_mem_nil, or_false] at he
  rcases he with rfl | rfl <;> rfl
/-- The slice at a has the packs es. -/
def Eks (w : World) (a : Option Addr) (es : List Ek) : Prop :=
  0 < es.length → ∃ b off, a = some ⟨b, off, none⟩ ∧ b < w.heap.size ∧ ∀ i, i < es.length → w.cell? ⟨b, off + i * 2, none⟩ = some (.int .i64 (es.getD i dek).p.wt) ∧ w.cell? ⟨b, off + i * 2 + 1, none⟩ = some (.slice (es.getD i dek).a (es.getD i dek).p.sy.length (es.getD i dek).c)
theorem Eks.below {w w' : World} {a : Option Addr} {es : List Ek} (h : Eks w a es) (hb : Below w.heap.size w w') : Eks w' a es := fun h0 => by
  obtain ⟨b, o, e, hl, hc⟩ := h h0
  exact ⟨b, o, e, Nat.lt_of_lt_of_le hl hb.size, fun i hi => ⟨keep hb hl (hc i hi).1, keep hb hl (hc i hi).2⟩⟩
def mrgE : List Ek → List Ek → List Ek
  | [], b => b
  | a :: ar, [] => a :: ar
  | a :: ar, b :: br => if a.p.wt ≤ b.p.wt then a :: mrgE ar (b :: br) else b :: mrgE (a :: ar) br
termination_by a b => a.length + b.length
theorem mrgE_map : ∀ a b, (mrgE a b).map Ek.p = mrg (a.map Ek.p) (b.map Ek.p)
  | [], b => by rw [mrgE]; simp [mrg]
  | a :: ar, [] => by rw [mrgE]; simp [mrg]
  | a :: ar, b :: br => by
    rw [mrgE, List.map_cons, List.map_cons, mrg]
    split
    · rw [List.map_cons, mrgE_map ar (b :: br)]
      rfl
    · rw [List.map_cons, mrgE_map (a :: ar) br]
      rfl
termination_by a b => a.length + b.length
theorem mrgE_len : ∀ a b, (mrgE a b).length = a.length + b.length
  | [], b => by rw [mrgE]; simp
  | a :: ar, [] => by rw [mrgE]; simp
  | a :: ar, b :: br => by
    rw [mrgE]
    split
    · rw [List.length_cons, mrgE_len ar (b :: br)]; simp; omega
    · rw [List.length_cons, mrgE_len (a :: ar) br]; simp; omega
termination_by a b => a.length + b.length
theorem mrgE_mem : ∀ {a b : List Ek} {e : Ek}, e ∈ mrgE a b → e ∈ a ∨ e ∈ b
  | [], b, e, h => by rw [mrgE] at h; exact .inr h
  | a :: ar, [], e, h => by rw [mrgE] at h; exact .inl h
  | a :: ar, b :: br, e, h => by
    rw [mrgE] at h
    split at h
    · rcases List.mem_cons.1 h with h | h
      · exact .inl (by simp [h])
      · rcases mrgE_mem h with h | h
        · exact .inl (by simp [h])
        · exact .inr h
    · rcases List.mem_cons.1 h with h | h
      · exact .inr (by simp [h])
      · rcases mrgE_mem h with h | h
        · exact .inl h
        · exact .inr (by simp [h])
termination_by a b => a.length + b.length
theorem drop_getE {l : List Ek} {i : Nat} (h : i < l.length) : l.drop i = l.getD i dek :: l.drop (i + 1) := by
  rw [List.drop_eq_getElem_cons h]
  simp [List.getD_eq_getElem?_getD, h]
theorem mrgE_left {a b : List Ek} {i k : Nat} (hi : i < a.length) (h : b.length ≤ k ∨ (a.getD i dek).p.wt ≤ (b.getD k dek).p.wt) : mrgE (a.drop i) (b.drop k) = a.getD i dek :: mrgE (a.drop (i + 1)) (b.drop k) := by
  rw [drop_getE hi]
  by_cases hk : k < b.length
  · rw [drop_getE hk, mrgE, if_pos (by omega)]
  · rw [List.drop_eq_nil_of_le (show b.length ≤ k by omega), mrgE]
    cases a.drop (i + 1) <;> rw [mrgE]
theorem mrgE_right {a b : List Ek} {i k : Nat} (hk : k < b.length) (h : a.length ≤ i ∨ ¬ (a.getD i dek).p.wt ≤ (b.getD k dek).p.wt) : mrgE (a.drop i) (b.drop k) = b.getD k dek :: mrgE (a.drop i) (b.drop (k + 1)) := by
  rw [drop_getE hk]
  by_cases hi : i < a.length
  · rw [drop_getE hi, mrgE, if_neg (by omega)]
  · rw [List.drop_eq_nil_of_le (show a.length ≤ i by omega), mrgE, mrgE]

/-- The cells of a pack, by letters. -/
def Ekc (e : Ek) (u : Nat) (ea : Option Addr) (el ec : Nat) : Prop := u = e.p.wt ∧ ea = e.a ∧ el = e.p.sy.length ∧ ec = e.c
theorem Eks.read {w wr : World} {a : Option Addr} {es : List Ek} (h : Eks w a es) (hb : Below w.heap.size w wr) (i : Nat) (hi : i < es.length) : ∃ b o u ea el ec, a = some ⟨b, o, none⟩ ∧ b < wr.heap.size ∧ wr.cell? ⟨b, o + i * 2, none⟩ = some (.int .i64 (u : Nat)) ∧ wr.cell? ⟨b, o + i * 2 + 1, none⟩ = some (.slice ea el ec) ∧ Ekc (es.getD i dek) u ea el ec := by
  obtain ⟨b, o, e, hl, hc⟩ := h (by omega)
  exact ⟨b, o, _, _, _, _, e, Nat.lt_of_lt_of_le hl hb.size, keep hb hl (hc i hi).1, keep hb hl (hc i hi).2, rfl, rfl, rfl, rfl⟩
/-- The symbols of each pack lie in a row of numbers of their own, behind the block M. -/
def EkSy (w : World) (M : Nat) (es : List Ek) : Prop := ∀ e ∈ es, ∃ b cur, e.a = some ⟨b, 0, none⟩ ∧ M < b ∧ e.p.sy.length ≤ e.c ∧ w.heap[b]? = some (.cells cur 3 (0, 0)) ∧ ∀ i, i < e.p.sy.length → cur[i]? = some (.int .i64 (e.p.sy.getD i 0))
theorem EkSy.only {S : Nat → Prop} {w w' : World} {M : Nat} {es : List Ek} (h : EkSy w M es) (ho : Only S w w') (hS : ∀ k, S k → k ≤ M ∨ ∃ cur T, w.heap[k]? = some (.cells cur T (0, 0)) ∧ T ≠ 3) : EkSy w' M es := fun e he => by
  obtain ⟨b, cur, h1, h2, h3, h4, h5⟩ := h e he
  refine ⟨b, cur, h1, h2, h3, (ho.block b (Array.getElem?_eq_some_iff.1 h4).1 (fun hs => ?_)).trans h4, h5⟩
  rcases hS b hs with h | ⟨cur', T, hc, hT⟩
  · omega
  · rw [h4] at hc
    simp at hc
    exact hT hc.2.symm
theorem EkSy.below {w w' : World} {M : Nat} {es : List Ek} (h : EkSy w M es) (hb : Below w.heap.size w w') : EkSy w' M es := h.only (Only.ofBelow (S := fun _ => False) hb (Nat.le_refl _)) (by simp)
theorem EkSy.sub {w : World} {M : Nat} {es fs : List Ek} (h : EkSy w M es) (hs : ∀ e ∈ fs, e ∈ es) : EkSy w M fs := fun e he => h e (hs e he)
theorem EkSy.ins {w : World} {M : Nat} {es : List Ek} (h : EkSy w M es) {e : Ek} (he : e ∈ es) (hr : ∀ z ∈ e.p.sy, -9223372036854775808 ≤ z ∧ z ≤ 9223372036854775807) : Ins w e.a e.p.sy := by
  obtain ⟨b, cur, h1, h2, h3, h4, h5⟩ := h e he
  refine ⟨hr, fun _ => ⟨b, 0, h1, (Array.getElem?_eq_some_iff.1 h4).1, fun i hi => ?_⟩⟩
  rw [Nat.zero_add]
  exact cell_blk h4 (h5 i hi)
theorem Eks.drop {w : World} {a : Option Addr} {c : Nat} {es : List Ek} (h : Eks w a es) (k : Nat) (hk : k ≤ es.length) (hc : es.length ≤ c) : Eks w (if c = k then a else a.map (·.add (k * 2))) (es.drop k) := fun h0 => by
  rw [List.length_drop] at h0
  obtain ⟨b, o, rfl, hl, hcl⟩ := h (by omega)
  rw [if_neg (by omega)]
  refine ⟨b, o + k * 2, by cases k <;> simp [Addr.add], hl, fun i hi => ?_⟩
  rw [List.length_drop] at hi
  have h1 := hcl (k + i) (by omega)
  have e : (es.drop k).getD i dek = es.getD (k + i) dek := by simp [List.getD_eq_getElem?_getD]
  rw [e, show o + k * 2 + i * 2 = o + (k + i) * 2 by omega]
  exact h1
theorem insP_split (p : Pc) : ∀ (l : List Pc) (k : Nat), k ≤ l.length → (∀ j, j < k → (l.getD j dpc).wt ≤ p.wt) → (k < l.length → ¬ (l.getD k dpc).wt ≤ p.wt) → insP p l = l.take k ++ ([p] ++ l.drop k)
  | [], k, hk, _, _ => by simp at hk; subst hk; rfl
  | q :: l, 0, _, _, h2 => by
    have := h2 (by simp)
    simp only [insP]
    rw [if_neg (by simpa using this)]
    rfl
  | q :: l, k + 1, hk, h1, h2 => by
    have h0 := h1 0 (by omega)
    simp only [insP]
    rw [if_pos (by simpa using h0), insP_split p l k (by simpa using hk) (fun j hj => by simpa using h1 (j + 1) (by omega)) (fun h => by simpa using h2 (by simpa using h))]
    rfl
theorem ek_mapD (es : List Ek) (i : Nat) : (es.map Ek.p).getD i dpc = (es.getD i dek).p := by
  simp only [List.getD_eq_getElem?_getD, List.getElem?_map]
  cases es[i]? <;> rfl
/-- The model's list, one coin more. -/
theorem srt_step {zs : List Int} {es : List Ek} {i k z : Nat} {a : Option Addr} {c : Nat} (hm : es.map Ek.p = srt zs i) (hz : zs.getD i 0 = (z : Int)) (hz0 : 0 < z) (hk : k ≤ es.length) (h1 : ∀ j, j < k → (es.getD j dek).p.wt ≤ z) (h2 : k < es.length → ¬ (es.getD k dek).p.wt ≤ z) :
    (es.take k ++ ([(⟨.coin i z, a, c⟩ : Ek)] ++ es.drop k)).map Ek.p = srt zs (i + 1) := by
  simp only [srt]
  rw [if_pos (by omega), ← hm]
  have e : (zs.getD i 0).toNat = z := by omega
  rw [e, insP_split (.coin i z) (es.map Ek.p) k (by simpa using hk) (fun j hj => by rw [ek_mapD]; exact h1 j hj) (fun h => by rw [ek_mapD]; exact h2 (by simpa using h))]
  simp [List.map_take, List.map_drop]
theorem wanted_ek {P : Program} {ops : Array Oper} {o : Oper} {a : Act} {w : World} {K : Act → World → Prop} {Q : Exit → Act → World → Prop} {E : Prop} (hg : o.guard = none) (h : Oper.wp P o a w K Q) :
    if Region.wanted o (yielded ops a.tmps) = true then Oper.wp P o a w K Q else E := by
  rw [if_pos (by simp [Region.wanted, hg])]
  exact h

theorem lensV_one {zs : List Int} {L s k : Nat} (h : (coinsS zs).length = 1) (hp : (coinsS zs).getD 0 dpc = .coin s k) (hs : s < zs.length) : lensV zs L = (List.replicate zs.length (0 : Int)).set s 1 := by
  unfold lensV
  rw [if_pos h, hp]
  show bump _ _ = _
  unfold bump
  have e : (List.replicate zs.length (0 : Int)).getD (s : Int).toNat 0 = 0 := by
    simp only [Int.toNat_natCast, List.getD_eq_getElem?_getD, List.getElem?_replicate]
    split <;> rfl
  rw [e]
  simp
/-- What the model has in hand in its rounds. -/
structure RoI (w W : World) (N n : Nat) (zs : List Int) (ca : Option Addr) (es : List Ek) (pa : Option Addr) (ks : List Ek) : Prop where
  coins : Eks W ca es
  sye : EkSy W N es
  packs : Eks W pa ks
  syk : EkSy W N ks
  out : OwI W N N n (List.replicate zs.length 0)
  bel : Below N w W
theorem RoI.below {w W W' : World} {N n : Nat} {zs : List Int} {ca pa : Option Addr} {es ks : List Ek} (h : RoI w W N n zs ca es pa ks) (hb : Below W.heap.size W W') : RoI w W' N n zs ca es pa ks := ⟨h.coins.below hb, h.sye.below hb, h.packs.below hb, h.syk.below hb, h.out.below hb (Nat.le_refl _), h.bel.trans (hb.mono (Nat.le_of_lt h.out.lt.2))⟩

theorem cntP_fold (p : Pc) : ∀ zs : List Int, cntP p zs = p.sy.foldl bump zs := by
  induction p with
  | coin s c => intro zs; rfl
  | pack a b n iha ihb => intro zs; rw [cntP, iha, ihb, Pc.sy, List.foldl_append]
theorem sy_rng {n : Nat} (p : Pc) : p.ok n → ∀ z ∈ p.sy, 0 ≤ z ∧ z < n := by
  induction p with
  | coin s c => intro h z hz; simp [Pc.sy] at hz; have := h.1; omega
  | pack a b m iha ihb =>
    intro h z hz
    rcases List.mem_append.1 hz with hz | hz
    · exact iha h.1 z hz
    · exact ihb h.2 z hz
theorem foldB_len (l : List Int) : ∀ zs : List Int, (l.foldl bump zs).length = zs.length := by
  induction l with
  | nil => intro zs; rfl
  | cons z l ih => intro zs; rw [List.foldl_cons, ih, bump_len]
theorem foldB_rng (l : List Int) : ∀ (zs : List Int) (M : Int), 0 ≤ M → (∀ z ∈ zs, 0 ≤ z ∧ z ≤ M) → ∀ z ∈ l.foldl bump zs, 0 ≤ z ∧ z ≤ M + l.length := by
  induction l with
  | nil => intro zs M h0 h z hz; have := h z hz; simp; omega
  | cons y l ih =>
    intro zs M h0 h z hz
    have := ih (bump zs y) (M + 1) (by omega) (bump_rng h h0) z hz
    simp only [List.length_cons]
    omega
theorem foldB_step (l : List Int) (zs : List Int) (k : Nat) (hk : k < l.length) : (l.take (k + 1)).foldl bump zs = bump ((l.take k).foldl bump zs) (l.getD k 0) := by
  rw [List.take_succ_eq_append_getElem hk, List.foldl_append]
  simp [List.getD_eq_getElem?_getD, hk]

theorem bump_at {cs : List Int} {s : Nat} {x : Int} (h : cs.getD s 0 = x) : bump cs (s : Int) = cs.set s (x + 1) := by
  unfold bump
  rw [Int.toNat_natCast, h]
theorem sz_pos (p : Pc) : 1 ≤ p.sz := by
  induction p with
  | coin s c => exact Nat.le_refl _
  | pack a b n iha ihb => simp only [Pc.sz]; omega
theorem wp_append_iv {o : Oper} {act : Act} {w : World} {K : Act → World → Prop} {Q : Exit → Act → World → Prop} (s x : Operand) (ho : o.op = .call { callee := .builtin .append, args := #[s, x], argTypes := #[42, 42] })
    {B : Nat} {v : Value} {zs ys : List Int} {a : Option Addr} {c n : Nat} (hs : act.eval s = v) (hx : act.eval x = .slice a n c) (hn : n = ys.length) (h : OVI w B v zs) (hq : Ins w a ys) (h0 : 1 ≤ ys.length) (hl : zs.length + ys.length ≤ 100000000000) (hB : B ≤ w.heap.size)
    (hk : ∀ v' w', OVI w' B v' (zs ++ ys) → w.grownBy w' v.ownBlock → K (act.put o.dst v') w') : o.wp Tryz.prog act w K Q := by
  obtain ⟨i0, hi, hz0, hz1, hz2⟩ := info_parts Tryz.infoI64
  subst hn
  obtain ⟨b, off, rfl, hbl, hc⟩ := hq.2 (by omega)
  obtain ⟨v', w', hr, h2, h3, _, _⟩ := run_append_own_at (P := Tryz.prog) w B 42 o.type 3 i0 _ 1 8 Tryz.underlying42 hi hz0 hz1 hz2 rfl (by decide) v zs.length (zs.map (Value.int .i64)) h.1 ⟨b, off, none⟩ ys.length c (ys.map (Value.int .i64)) (by simp) (by
    intro j u hu
    simp only [List.getElem?_map, Option.map_eq_some_iff] at hu
    obtain ⟨y, hy, rfl⟩ := hu
    have hj : j < ys.length := (List.getElem?_eq_some_iff.1 hy).1
    have e : (⟨b, off, none⟩ : Addr).add j = ⟨b, off + j, none⟩ := by
      cases j with
      | zero => simp [Addr.add]
      | succ j => simp [Addr.add]
    simp [e, hc j hj, List.getD_eq_getElem?_getD, hy]) (by
    intro u hu
    obtain ⟨y, _, rfl⟩ := List.mem_map.1 hu
    rfl) (by unfold maxLen; omega) (by omega) hB
  unfold Oper.wp execOp
  simp only [ho, resolve, invoke, builtin, Sem.run_bind, Sem.run_pure, Result.andThen_ok, List.map_toArray, List.map_cons, List.map_nil, hs, hx, hr]
  refine hk v' w' ⟨by rw [List.length_append, List.map_append]; exact h2, fun y hy => ?_⟩ h3
  rcases List.mem_append.1 hy with hy | hy
  · exact h.2 y hy
  · exact hq.1 y hy
theorem ovi_made (w : World) : OVI (w.alloc (Obj.cells #[] 3)) w.heap.size (.slice (some ⟨w.heap.size, 0, none⟩) 0 0) [] :=
  ⟨⟨rfl, .inr ⟨w.heap.size, 0, #[], rfl, Nat.le_refl _, heap_alloc_new w _, Nat.le_refl _, by decide, rfl, rfl⟩⟩, by simp⟩
theorem wpow (k : Nat) (h : k ≤ 12) : wrap64 (2 ^ k) = ((2 ^ k : Nat) : Int) := by
  have h2 : 2 ^ k ≤ 2 ^ 12 := Nat.pow_le_pow_right (by omega) h
  have e : ((2 : Int) ^ k) = ((2 ^ k : Nat) : Int) := by simp
  rw [e]
  generalize 2 ^ k = P at *
  exact IntWalk.wrap64_in _ (by omega)

theorem csum_bnd {cs : List Int} (hc : ∀ i, i < cs.length → 0 ≤ cs.getD i 0 ∧ cs.getD i 0 ≤ 1000000) (k : Nat) (hk : k ≤ cs.length) : 0 ≤ (cs.take k).sum ∧ (cs.take k).sum ≤ 1000000 * k := by
  induction k with
  | zero => simp
  | succ k ih =>
    have h1 := ih (by omega)
    have h2 := hc k (by omega)
    rw [sum_succ cs k (by omega)]
    omega

/-- The bit at place p of some bytes. -/
def bitAt (zs : List Int) (p : Nat) : Nat := (zs.getD (p / 8) 0).toNat / 2 ^ (p % 8) % 2

/-- What stays as it is while out grows. -/
structure Stay (w wr : World) (a : Option Addr) (K ca : Nat) (N : Int) (b : Option Addr) (L cb : Nat) (m : Int) (B : Nat) : Prop where
  bel : Below w.heap.size w wr
  a0 : wr.cell? ⟨w.heap.size, 0, none⟩ = some (.slice a K ca)
  a1 : wr.cell? ⟨w.heap.size, 1, none⟩ = some (.int .i64 N)
  b0 : wr.cell? ⟨w.heap.size + 1, 0, none⟩ = some (.slice b L cb)
  b1 : wr.cell? ⟨w.heap.size + 1, 1, none⟩ = some (.int .i64 m)
  r0 : wr.cell? ⟨w.heap.size + 1 + 1, 0, none⟩ = some (.slice none 0 0)
  r1 : wr.cell? ⟨w.heap.size + 1 + 1, 1, none⟩ = some (.int .i64 0)
  f0 : wr.frozen? ⟨w.heap.size + 1 + 1, 0, none⟩ = false
  f1 : wr.frozen? ⟨w.heap.size + 1 + 1, 1, none⟩ = false
  hB : B = w.heap.size + 1 + 1 + 1
  sz : B ≤ wr.heap.size

theorem Stay.only {S : Nat → Prop} {w wr w' : World} {a : Option Addr} {K ca : Nat} {N : Int} {b : Option Addr} {L cb : Nat} {m : Int} {B : Nat} (h : Stay w wr a K ca N b L cb m B) (ho : Only S wr w') (hs : ∀ k, S k → B ≤ k) : Stay w w' a K ca N b L cb m B := by
  have hB := h.hB; have hz := h.sz; have hs' := ho.size
  have n : ∀ k, k < B → ¬ S k := fun k hk hS => by have := hs k hS; omega
  exact ⟨h.bel.trans (ho.below (by omega) (fun k hk => by have := hs k hk; omega)), ho.cell (by omega) (n _ (by omega)) h.a0, ho.cell (by omega) (n _ (by omega)) h.a1, ho.cell (by omega) (n _ (by omega)) h.b0, ho.cell (by omega) (n _ (by omega)) h.b1, ho.cell (by omega) (n _ (by omega)) h.r0, ho.cell (by omega) (n _ (by omega)) h.r1,
    (World.frozen?_of_block (ho.block (w.heap.size + 1 + 1) (by omega) (n _ (by omega)))).trans h.f0, (World.frozen?_of_block (ho.block (w.heap.size + 1 + 1) (by omega) (n _ (by omega)))).trans h.f1, h.hB, by omega⟩

theorem Stay.step {w wr w' : World} {a : Option Addr} {K ca : Nat} {N : Int} {b : Option Addr} {L cb : Nat} {m : Int} {B : Nat} (h : Stay w wr a K ca N b L cb m B) (hb : Below wr.heap.size wr w') : Stay w w' a K ca N b L cb m B :=
  h.only (Only.ofBelow (S := fun _ => False) hb (Nat.le_refl _)) (by simp)

theorem Stay.start (w : World) (a : Option Addr) (K ca : Nat) (N : Int) (b : Option Addr) (L cb : Nat) (m : Int) : Stay w (((w.alloc (Obj.cells #[Value.slice a K ca, Value.int IntKind.i64 N] 80)).alloc (Obj.cells #[Value.slice b L cb, Value.int IntKind.i64 m] 80)).alloc (Obj.cells #[Value.slice none 0 0, Value.int IntKind.i64 0] 80)) a K ca N b L cb m (w.heap.size + 1 + 1 + 1) := by
  have hn := heap_alloc_new ((w.alloc (Obj.cells #[Value.slice a K ca, Value.int IntKind.i64 N] 80)).alloc (Obj.cells #[Value.slice b L cb, Value.int IntKind.i64 m] 80)) (Obj.cells #[Value.slice none 0 0, Value.int IntKind.i64 0] 80)
  simp only [World.size_alloc] at hn
  refine ⟨(((Below.refl _ _).alloc (Nat.le_refl _) _).alloc (by simp) _).alloc (by simp; omega) _, keepA _ (by simp; omega) (keepA _ (by simp) (by simp)), keepA _ (by simp; omega) (keepA _ (by simp) (by simp)), keepA _ (by simp) (by simp), keepA _ (by simp) (by simp), cellR (j := 0) hn rfl, cellR (j := 1) hn rfl, frozenR hn, frozenR hn, rfl, by simp⟩

theorem OwnV.ge {w : World} {B k : Nat} {v : Value} {zs : List Int} (h : OwnV w B v zs) (hk : v.ownBlock = some k) : B ≤ k ∧ k < w.heap.size := h.1.lt k hk
theorem OwnV.below {w w' : World} {B : Nat} {v : Value} {zs : List Int} (h : OwnV w B v zs) (hb : Below w.heap.size w w') : OwnV w' B v zs := by
  rcases h.1.2 with ⟨h1, h2⟩ | ⟨g, cap, cur, rfl, r⟩
  · exact ⟨⟨h.1.1, .inl ⟨h1, h2⟩⟩, h.2⟩
  · exact Own.below (g := g) (cap := cap) h hb (Nat.le_refl _)

end Go.Proofs.YtojnomdlkihgmaaGreatDoor
