/-
  The model's packs in memory: what each weighs, and the symbols that it has.
-/
import Derived.Test.YtkjebacpmmfflaaDoorPcA
import Derived.Test.YtkjebacpmmfflaaDoorPcQ
import Derived.Maps.AppendAt
namespace Go.Proofs.YtkjebacpmmfflaaDoor
open Go.RowKit
set_option linter.unusedVariables false

theorem getD_memP2 {l : List Pc} {i : Nat} (h : i < l.length) : l.getD i dpc ∈ l := by
  rw [List.getD_eq_getElem?_getD, List.getElem?_eq_getElem h]
  exact List.getElem_mem _
theorem coinsL_mem (zs : List Int) (hz : ∀ z ∈ zs, 0 ≤ z ∧ z ≤ 1000000) : ∀ k, k ≤ zs.length → ∀ p ∈ coinsL zs k, p.wt ≤ 1000000 ∧ p.plc < k ∧ p.ok k ∧ ∃ s c, p = .coin s c
  | 0, _, p, h => by simp [coinsL] at h
  | k + 1, hk, p, h => by
    have ih := coinsL_mem zs hz k (by omega)
    have up : ∀ p ∈ coinsL zs k, p.wt ≤ 1000000 ∧ p.plc < k + 1 ∧ p.ok (k + 1) ∧ ∃ s c, p = .coin s c := fun p hp => by
      obtain ⟨h1, h2, h3, s, c, rfl⟩ := ih p hp
      exact ⟨h1, by omega, ⟨by have := h3.1; omega, h3.2⟩, s, c, rfl⟩
    simp only [coinsL] at h
    split at h
    · rename_i hp
      rcases List.mem_append.1 h with h | h
      · exact up p h
      · simp only [List.mem_singleton] at h
        subst h
        have := hz _ (getD_mem (show k < zs.length by omega))
        exact ⟨by simp only [Pc.wt]; omega, by simp [Pc.plc], ⟨Nat.lt_succ_self _, by omega⟩, _, _, rfl⟩
    · exact up p h
theorem ok_mono {n m : Nat} (h : n ≤ m) (p : Pc) : p.ok n → p.ok m := by
  induction p with
  | coin s c => exact fun h1 => ⟨by have := h1.1; omega, h1.2⟩
  | pack a b k iha ihb => exact fun h1 => ⟨iha h1.1, ihb h1.2⟩
/-- The sorted coins of all counts. -/
def coinsS (zs : List Int) : List Pc := srt zs zs.length
theorem coinsS_len (zs : List Int) : (coinsS zs).length = (coinsL zs zs.length).length := (srt_perm zs zs.length).length_eq
theorem coinsS_mem {zs : List Int} (hz : ∀ z ∈ zs, 0 ≤ z ∧ z ≤ 1000000) : ∀ p ∈ coinsS zs, p.wt ≤ 1000000 ∧ p.plc < zs.length ∧ p.ok zs.length ∧ ∃ s c, p = .coin s c := fun p hp => coinsL_mem zs hz zs.length (Nat.le_refl _) p ((srt_perm zs zs.length).mem_iff.1 hp)
/-- What holds of each round's list. -/
theorem rnd_inv {zs : List Int} (hz : ∀ z ∈ zs, 0 ≤ z ∧ z ≤ 1000000) (hn : zs.length ≤ 80) : ∀ k, KS (rnd (coinsS zs) k) ∧ (∀ p ∈ rnd (coinsS zs) k, p.wt ≤ 1000000 * 2 ^ k ∧ p.plc < 240 ∧ p.ok zs.length) ∧ (rnd (coinsS zs) k).length ≤ 2 * (coinsS zs).length
  | 0 => ⟨List.Pairwise.nil, by simp [rnd], by simp [rnd]⟩
  | k + 1 => by
    obtain ⟨h1, h2, h3⟩ := rnd_inv hz hn k
    have hm : (coinsS zs).length ≤ 80 := by rw [coinsS_len]; have := coinsL_len zs zs.length; omega
    have hpk := pairL_KS h1 (fun p hp => by have := (h2 p hp).2.1; omega) (by omega)
    have hpm : ∀ p ∈ pairL (rnd (coinsS zs) k) ((rnd (coinsS zs) k).length / 2), p.wt ≤ 1000000 * 2 ^ (k + 1) ∧ 80 ≤ p.plc ∧ p.plc < 240 ∧ p.ok zs.length := fun p hp => by
      obtain ⟨i, hi, rfl⟩ := pairL_mem hp
      obtain ⟨a1, a2, a3⟩ := h2 _ (getD_memP2 (show 2 * i < (rnd (coinsS zs) k).length by omega))
      obtain ⟨b1, b2, b3⟩ := h2 _ (getD_memP2 (show 2 * i + 1 < (rnd (coinsS zs) k).length by omega))
      refine ⟨?_, by simp only [Pc.plc]; omega, by simp only [Pc.plc]; omega, a3, b3⟩
      simp only [Pc.wt]
      rw [Nat.pow_succ]
      omega
    have h2p : 1 ≤ 2 ^ (k + 1) := Nat.one_le_two_pow
    refine ⟨mrg_KS (srt_KS zs zs.length hn) hpk (fun p hp => by have := (coinsS_mem hz p hp).2.1; omega) (fun p hp => by have := hpm p hp; omega), ?_, ?_⟩
    · intro p hp
      rcases List.mem_append.1 ((mrg_perm _ _).mem_iff.1 hp) with hp | hp
      · obtain ⟨c1, c2, c3, _⟩ := coinsS_mem hz p hp
        refine ⟨Nat.le_trans c1 ?_, by omega, c3⟩
        exact Nat.le_mul_of_pos_right _ (by omega)
      · obtain ⟨c1, c2, c3, c4⟩ := hpm p hp
        exact ⟨c1, c3, c4⟩
    · show (mrg _ _).length ≤ _
      rw [(mrg_perm _ _).length_eq, List.length_append, pairL_len]
      omega
theorem rnd_long (S : List Pc) (L : Nat) (h : S.length ≤ 2 ^ L) : ∀ k, k ≤ L → 2 * S.length ≤ (rnd S (k + 1)).length + 2 ^ (L - k)
  | 0, _ => by
    show _ ≤ (mrg _ _).length + _
    rw [(mrg_perm _ _).length_eq, List.length_append]
    simp only [Nat.sub_zero]
    omega
  | k + 1, hk => by
    have ih := rnd_long S L h k (by omega)
    show _ ≤ (mrg _ _).length + _
    rw [(mrg_perm _ _).length_eq, List.length_append, pairL_len]
    have e : 2 ^ (L - k) = 2 * 2 ^ (L - (k + 1)) := by rw [show L - k = (L - (k + 1)) + 1 by omega, Nat.pow_succ, Nat.mul_comm]
    omega
theorem rnd_enough (S : List Pc) (L : Nat) (hL : 1 ≤ L) (h : S.length ≤ 2 ^ L) : 2 * S.length - 2 ≤ (rnd S L).length := by
  have := rnd_long S L h (L - 1) (by omega)
  rw [show L - 1 + 1 = L by omega, show L - (L - 1) = 1 by omega] at this
  omega
/-- What roundList makes of coins and packs is the next round's list. -/
theorem rnd_round {zs : List Int} (hz : ∀ z ∈ zs, 0 ≤ z ∧ z ≤ 1000000) (hn : zs.length ≤ 80) (k : Nat) {m : List Pc} (hp : m.Perm (coinsL zs zs.length ++ pairL (rnd (coinsS zs) k) ((rnd (coinsS zs) k).length / 2))) (hs : m.Pairwise (fun p q => p.key ≤ q.key)) : m = rnd (coinsS zs) (k + 1) :=
  KS_only (rnd_inv hz hn (k + 1)).1 (hp.trans ((List.Perm.append_right _ (srt_perm zs zs.length).symm).trans (mrg_perm _ _).symm)) hs

def cntL : List Pc → List Int → List Int
  | [], zs => zs
  | p :: l, zs => cntL l (cntP p zs)
theorem cntL_snoc (l : List Pc) (p : Pc) : ∀ zs, cntL (l ++ [p]) zs = cntP p (cntL l zs) := by
  induction l with
  | nil => intro zs; rfl
  | cons q l ih => intro zs; exact ih _
theorem cntL_len (l : List Pc) : ∀ zs, (cntL l zs).length = zs.length := by
  induction l with
  | nil => intro zs; rfl
  | cons q l ih => intro zs; rw [cntL, ih, cntP_len]
/-- What Lens answers. -/
def lensOkB (zs : List Int) (x : Int) : Prop := cntB zs = true ∧ 1 ≤ x ∧ x ≤ 12 ∧ 1 ≤ (coinsS zs).length ∧ (coinsS zs).length ≤ 2 ^ x.toNat
def lensV (zs : List Int) (L : Nat) : List Int := if (coinsS zs).length = 1 then cntP ((coinsS zs).getD 0 dpc) (List.replicate zs.length 0) else cntL ((rnd (coinsS zs) L).take (2 * (coinsS zs).length - 2)) (List.replicate zs.length 0)
theorem lensV_len (zs : List Int) (L : Nat) : (lensV zs L).length = zs.length := by
  unfold lensV
  split
  · rw [cntP_len]; simp
  · rw [cntL_len]; simp
set_option linter.unusedSimpArgs false
def Pc.sy : Pc → List Int
  | .coin s c => [(s : Int)]
  | .pack a b n => a.sy ++ b.sy
theorem sy_len (p : Pc) : p.sy.length = p.sz := by
  induction p with
  | coin s c => rfl
  | pack a b n iha ihb => simp [Pc.sy, Pc.sz, iha, ihb]
/-- A pack, and where its symbols lie. -/
structure Ek where
  p : Pc
  a : Option Addr
  c : Nat
def dek : Ek := ⟨dpc, none, 0⟩
def Ek.cells (e : Ek) : List Value := [.int .i64 e.p.wt, .slice e.a e.p.sy.length e.c]
theorem ek_flat (es : List Ek) (i : Nat) (hi : i < es.length) (j : Nat) (hj : j < 2) : (es.flatMap Ek.cells)[i * 2 + j]? = ((es.getD i dek).cells)[j]? := by
  induction es generalizing i with
  | nil => simp at hi
  | cons e es ih =>
    cases i with
    | zero =>
      simp only [List.flatMap_cons, Nat.zero_mul, Nat.zero_add]
      rw [List.getElem?_append_left (by simp [Ek.cells]; exact hj)]
      rfl
    | succ i =>
      simp only [List.flatMap_cons]
      rw [List.getElem?_append_right (by simp [Ek.cells]; omega)]
      have h := ih i (by simpa using hi)
      rw [show (i + 1) * 2 + j - e.cells.length = i * 2 + j by simp [Ek.cells]; omega, h]
      rfl
theorem ek_flen (es : List Ek) : (es.flatMap Ek.cells).length = es.length * 2 := by
  induction es with
  | nil => rfl
  | cons e es ih => simp [List.flatMap_cons, ih, Ek.cells]; omega
theorem ek_one (es : List Ek) : ∀ u ∈ es.flatMap Ek.cells, u.oneCell' = true := fun u hu => by
  obtain ⟨e, _, he⟩ := List.mem_flatMap.1 hu
  simp only [Ek.cells, List.mem_cons, List.not_mem_nil, or_false] at he
  rcases he with rfl | rfl <;> rfl
/-- The slice at a has the packs es. -/
def Eks (w : World) (a : Option Addr) (es : List Ek) : Prop :=
  0 < es.length → ∃ b off, a = some ⟨b, off, none⟩ ∧ b < w.heap.size ∧ ∀ i, i < es.length → w.cell? ⟨b, off + i * 2, none⟩ = some (.int .i64 (es.getD i dek).p.wt) ∧ w.cell? ⟨b, off + i * 2 + 1, none⟩ = some (.slice (es.getD i dek).a (es.getD i dek).p.sy.length (es.getD i dek).c)
theorem Eks.below {w w' : World} {a : Option Addr} {es : List Ek} (h : Eks w a es) (hb : Below w.heap.size w w') : Eks w' a es := fun h0 => by
  obtain ⟨b, o, e, hl, hc⟩ := h h0
  exact ⟨b, o, e, Nat.lt_of_lt_of_le hl hb.size, fun i hi => ⟨keep hb hl (hc i hi).1, keep hb hl (hc i hi).2⟩⟩
/-- A slice value (nil, or a row of the call's own from block B on) that has the packs es. -/
def OVk (w : World) (B : Nat) (v : Value) (es : List Ek) : Prop := w.ownsRow B 119 2 v es.length (es.flatMap Ek.cells)
theorem OVk.nil (w : World) (B : Nat) : OVk w B (.slice none 0 0) [] := ⟨rfl, .inl ⟨rfl, rfl⟩⟩
theorem OVk.slice {w : World} {B : Nat} {v : Value} {es : List Ek} (h : OVk w B v es) : ∃ a c, v = .slice a es.length c ∧ Eks w a es ∧ es.length ≤ c ∧ ((a = none ∧ es = [] ∧ c = 0) ∨ ∃ g, a = some ⟨g, 0, none⟩) := by
  rcases h.2 with ⟨rfl, h1⟩ | ⟨g, cap, cur, rfl, hg, hh, h4, h5, h6, h7⟩
  · have : es = [] := List.length_eq_zero_iff.1 h1
    subst this
    exact ⟨none, 0, rfl, fun h => by simp at h, Nat.le_refl _, .inl ⟨rfl, rfl, rfl⟩⟩
  · refine ⟨_, cap, rfl, fun h0 => ⟨g, 0, rfl, (Array.getElem?_eq_some_iff.1 hh).1, fun i hi => ?_⟩, h4, .inr ⟨g, rfl⟩⟩
    have e0 := ek_flat es i hi 0 (by omega)
    have e1 := ek_flat es i hi 1 (by omega)
    have c0 := World.ownsRow.cellAt h (i * 2 + 0) (by omega)
    have c1 := World.ownsRow.cellAt h (i * 2 + 1) (by omega)
    rw [e0] at c0
    rw [e1] at c1
    simp only [Nat.zero_add, Nat.add_zero] at c0 c1 ⊢
    exact ⟨by rw [c0]; rfl, by rw [c1]; rfl⟩
theorem OVk.below {w w' : World} {B : Nat} {v : Value} {es : List Ek} (h : OVk w B v es) (hb : Below w.heap.size w w') : OVk w' B v es := by
  have hg : w.grownBy w' none := ⟨hb.os, hb.tape, hb.output, hb.size, fun k hk _ => hb.block k hk⟩
  exact World.ownsRow.kept h hg (by cases v.ownBlock <;> simp)
theorem OVk.mono {w : World} {B B' : Nat} {v : Value} {es : List Ek} (h : OVk w B v es) (hB : B' ≤ B) : OVk w B' v es := by
  refine ⟨h.1, ?_⟩
  rcases h.2 with h' | ⟨g, cap, cur, h', hg, r⟩
  · exact .inl h'
  · exact .inr ⟨g, cap, cur, h', by omega, r⟩
theorem OVk.onlyS {S : Nat → Prop} {w w' : World} {B : Nat} {v : Value} {es : List Ek} (h : OVk w B v es) (ho : Only S w w') (hs : ∀ k, v.ownBlock = some k → ¬ S k) : OVk w' B v es := by
  refine ⟨h.1, ?_⟩
  rcases h.2 with h' | ⟨g, cap, cur, rfl, hg, hh, r⟩
  · exact .inl h'
  · exact .inr ⟨g, cap, cur, rfl, hg, (ho.block g (Array.getElem?_eq_some_iff.1 hh).1 (hs g rfl)).trans hh, r⟩
theorem OVk.tag {w : World} {B : Nat} {v : Value} {es : List Ek} (h : OVk w B v es) {k : Nat} (hk : v.ownBlock = some k) : ∃ cur, w.heap[k]? = some (.cells cur 119 (0, 0)) := by
  rcases h.2 with ⟨rfl, _⟩ | ⟨g, cap, cur, rfl, hg, hh, r⟩
  · simp [Value.ownBlock] at hk
  · simp [Value.ownBlock] at hk
    subst hk
    exact ⟨cur, hh⟩
theorem Tryd.infoEk : (Tryd.prog.info? 119).map (fun i => (i.zero, i.size, i.bytes)) = some (some (.agg #[.int .i64 0, .slice none 0 0]), 2, 32) := by kernel_rfl
theorem run_append_ek {w : World} {ty : TypeId} {B : Nat} {v : Value} {es fs : List Ek} {a : Option Addr} {c : Nat} (h : OVk w B v es) (hq : Eks w a fs) (hl : es.length + fs.length ≤ 100000) (hB : B ≤ w.heap.size) :
    ∃ v' w', (Builtin.append_ #[117, 117] ty #[v, .slice a fs.length c]).run Tryd.prog w = .ok v' w' ∧ OVk w' B v' (es ++ fs) ∧ w.grownBy w' v.ownBlock ∧ (v'.ownBlock = v.ownBlock ∨ v'.ownBlock = some w.heap.size) := by
  obtain ⟨i0, hi, hz0, hz1, hz2⟩ := info_parts Tryd.infoEk
  have h1 := Tryd.underlying117
  by_cases h0 : fs.length = 0
  · obtain rfl : fs = [] := List.length_eq_zero_iff.1 h0
    refine ⟨v, w, ?_, by simpa using h, ⟨rfl, rfl, rfl, Nat.le_refl _, fun _ _ _ => rfl⟩, .inl rfl⟩
    obtain ⟨a', c', rfl, _, hc, _⟩ := h.slice
    simp [Builtin.append_, run_underlying h1, sizeOf, typeInfo, hi, Builtin.lenOf, Builtin.firstCells, loadCells, loadCellsFrom, hc]
    cases a <;> cases a' <;> simp [Result.andThen, storeCells]
  · obtain ⟨b, off, rfl, hbl, hc⟩ := hq (by omega)
    obtain ⟨v', w', hr, ho, hg, _, hat⟩ := run_append_own_at (P := Tryd.prog) w B 117 ty 119 i0 _ 2 32 h1 hi hz0 hz1 hz2 rfl (by decide) v es.length (es.flatMap Ek.cells) h ⟨b, off, none⟩ fs.length c (fs.flatMap Ek.cells) (ek_flen fs) (by
      intro j u hu
      have hj : j < fs.length * 2 := by rw [← ek_flen fs]; exact (List.getElem?_eq_some_iff.1 hu).1
      have h2 : (⟨b, off, none⟩ : Addr).add j = ⟨b, off + j, none⟩ := by
        cases j with
        | zero => simp [Addr.add]
        | succ j => simp [Addr.add]
      rw [h2]
      have hcj := hc (j / 2) (by omega)
      have hf := ek_flat fs (j / 2) (by omega) (j % 2) (by omega)
      rw [show j / 2 * 2 + j % 2 = j by omega, hu] at hf
      rcases Nat.mod_two_eq_zero_or_one j with hm | hm
      · rw [hm] at hf
        rw [show off + j = off + j / 2 * 2 by omega, hcj.1]
        simpa [Ek.cells] using hf.symm
      · rw [hm] at hf
        rw [show off + j = off + j / 2 * 2 + 1 by omega, hcj.2]
        simpa [Ek.cells] using hf.symm) (ek_one fs) (by unfold maxLen; omega) (by omega) hB
    refine ⟨v', w', hr, ?_, hg, hat⟩
    unfold OVk
    rw [List.length_append, List.flatMap_append]
    exact ho
theorem wp_append_ek {o : Oper} {act : Act} {w : World} {K : Act → World → Prop} {Q : Exit → Act → World → Prop} (s x : Operand) (ho : o.op = .call { callee := .builtin .append, args := #[s, x], argTypes := #[117, 117] })
    {B : Nat} {v : Value} {es fs : List Ek} {a : Option Addr} {c n : Nat} (hs : act.eval s = v) (hx : act.eval x = .slice a n c) (hn : n = fs.length) (h : OVk w B v es) (hq : Eks w a fs) (hl : es.length + fs.length ≤ 100000) (hB : B ≤ w.heap.size)
    (hk : ∀ v' w', OVk w' B v' (es ++ fs) → w.grownBy w' v.ownBlock → (v'.ownBlock = v.ownBlock ∨ v'.ownBlock = some w.heap.size) → K (act.put o.dst v') w') : o.wp Tryd.prog act w K Q := by
  subst hn
  obtain ⟨v', w', hr, r1, r2, r3⟩ := run_append_ek (ty := o.type) (c := c) h hq hl hB
  unfold Oper.wp execOp
  simp only [ho, resolve, invoke, builtin, Sem.run_bind, Sem.run_pure, Result.andThen_ok, List.map_toArray, List.map_cons, List.map_nil, hs, hx, hr]
  exact hk v' w' r1 r2 r3
theorem wpList_append_ek {ops : Array Oper} {rest : List Oper} {o : Oper} {act : Act} {w : World} {Q : Exit → Act → World → Prop} (hgd : o.guard = none) (s x : Operand) (ho : o.op = .call { callee := .builtin .append, args := #[s, x], argTypes := #[117, 117] })
    {B : Nat} {v : Value} {es fs : List Ek} {a : Option Addr} {c n : Nat} (hs : act.eval s = v) (hx : act.eval x = .slice a n c) (hn : n = fs.length) (h : OVk w B v es) (hq : Eks w a fs) (hl : es.length + fs.length ≤ 100000) (hB : B ≤ w.heap.size)
    (hk : ∀ v' w', OVk w' B v' (es ++ fs) → w.grownBy w' v.ownBlock → (v'.ownBlock = v.ownBlock ∨ v'.ownBlock = some w.heap.size) → wpList Tryd.prog ops Q rest (act.put o.dst v') w') : wpList Tryd.prog ops Q (o :: rest) act w := by
  refine wpList_plain hgd fun K hK => ?_
  exact wp_append_ek s x ho hs hx hn h hq hl hB (fun v' w' r1 r2 r3 => hK _ _ (hk v' w' r1 r2 r3))
theorem eks_one (w : World) (e : Ek) : Eks (w.alloc (Obj.cells #[.int .i64 e.p.wt, .slice e.a e.p.sy.length e.c] 119)) (some ⟨w.heap.size, 0, none⟩) [e] := fun _ =>
  ⟨w.heap.size, 0, rfl, by simp, fun i hi => by
    have hi0 : i = 0 := by simpa using hi
    subst hi0
    exact ⟨cell_blk (heap_alloc_new w _) rfl, cell_blk (heap_alloc_new w _) rfl⟩⟩
end Go.Proofs.YtkjebacpmmfflaaDoor
