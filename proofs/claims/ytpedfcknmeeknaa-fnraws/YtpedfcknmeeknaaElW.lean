/-
  laws.toByteSS, toPend, toPendS and toRaw copy into memory of their own.
-/
import Derived.Test.YtpedfcknmeeknaaElP
import Derived.Test.YtpedfcknmeeknaaBox2
namespace Go.Proofs.Ytpedfcknmeeknaa
open Go.RowKit
set_option linter.unusedVariables false

theorem Try.infoBs : (Try.prog.info? 22).map (fun i => (i.zero, i.size, i.bytes)) = some (some (.slice none 0 0), 1, 24) := by kernel_rfl
theorem Try.infoPend : (Try.prog.info? 44).map (fun i => (i.zero, i.size, i.bytes)) = some (some (.agg #[.int .i64 0, .slice none 0 0]), 2, 32) := by kernel_rfl

theorem getD_replE (n k : Nat) : (List.replicate n de).getD k de = de := by
  rw [List.getD_eq_getElem?_getD, List.getElem?_replicate]; split <;> rfl
theorem made_secs (n : Nat) : (madeCells (Value.slice none 0 0).cells (n * 1)).toList = (List.replicate n de).flatMap (El.cells false) := by
  apply List.ext_getElem?
  intro i
  by_cases hi : i < n * 1
  · have e := eflat_get false (List.replicate n de) i (by simp; omega) 0 (by simp [eW])
    rw [getD_replE] at e
    simp only [eW, cond_false, Nat.mul_one, Nat.add_zero] at e
    rw [e]
    simp only [madeCells, Array.toList_map, Array.toList_range, List.getElem?_map, List.getElem?_range hi, Option.map_some]
    simp [Value.cells, de, El.cells, Nat.mod_one]
  · rw [List.getElem?_eq_none (by simp [madeCells]; omega), List.getElem?_eq_none (by rw [eflat_len]; simp [eW]; omega)]
theorem made_pens (n : Nat) : (madeCells (Value.agg #[.int .i64 0, .slice none 0 0]).cells (n * 2)).toList = (List.replicate n de).flatMap (El.cells true) := by
  apply List.ext_getElem?
  intro i
  by_cases hi : i < n * 2
  · have e := eflat_get true (List.replicate n de) (i / 2) (by simp; omega) (i % 2) (by simp [eW]; omega)
    rw [getD_replE] at e
    simp only [eW, cond_true] at e
    rw [show i / 2 * 2 + i % 2 = i from by omega] at e
    rw [e]
    simp only [madeCells, Array.toList_map, Array.toList_range, List.getElem?_map, List.getElem?_range hi, Option.map_some]
    have h2 : i % 2 = 0 ∨ i % 2 = 1 := by omega
    rcases h2 with h2 | h2 <;> simp [Value.cells, de, El.cells, h2]
  · rw [List.getElem?_eq_none (by simp [madeCells]; omega), List.getElem?_eq_none (by rw [eflat_len]; simp [eW]; omega)]

theorem getD_app_replE (bs : List El) (m i : Nat) (h : bs.length ≤ i) : (bs ++ List.replicate m de).getD i de = de := by
  rw [List.getD_eq_getElem?_getD, List.getElem?_append_right h, List.getElem?_replicate]; split <;> rfl
theorem set_app_replE (bs : List El) (m k : Nat) (s : El) (h : bs.length = k) (hk : 0 < m) : (bs ++ List.replicate m de).set k s = (bs ++ [s]) ++ List.replicate (m - 1) de := by
  rw [List.set_append_right _ _ (by omega), h, Nat.sub_self, show m = (m - 1) + 1 from by omega, List.replicate_succ, List.set_cons_zero, List.append_assoc]
  rfl
theorem ctE_take_succ (ss : List El) (k : Nat) (h : k < ss.length) : (ss.take (k + 1)).map El.ct = (ss.take k).map El.ct ++ [(ss.getD k de).ct] := by
  rw [List.take_succ_eq_append_getElem h, List.map_append]
  simp [List.getD_eq_getElem?_getD, List.getElem?_eq_getElem h]
theorem rE_snoc {p : Bool} {bs : List El} {e : El} (h : ∀ x ∈ bs, rE p x) (he : rE p e) : ∀ x ∈ bs ++ [e], rE p x := by
  intro x hx
  rcases List.mem_append.1 hx with hx | hx
  · exact h x hx
  · simp at hx; subst hx; exact he
theorem Deep.lt {w : World} {B : Nat} {es : List El} (h : Deep w B es) : ∀ x ∈ es, ∀ k, rowOf x.a k → k < w.heap.size := fun x hx k hk => ((h.mine x hx).rowE hk).2

/-- Copies: a row of the call's own, whose lists are its own, too. -/
structure Cop (p : Bool) (w : World) (B : Nat) (v : Value) (ts ss : List El) : Prop where
  ct : ts.map El.ct = ss.map El.ct
  row : OVr p w B v ts
  deep : Deep w B ts
  rng : ∀ e ∈ ts, rE p e

theorem Deep.app {w : World} {B U : Nat} {es fs : List El} (h : Deep w B es) (h2 : Deep w U fs) (hU : ∀ x ∈ es, ∀ k, rowOf x.a k → k < U) (hB : B ≤ U) : Deep w B (es ++ fs) := by
  refine ⟨?_, ?_⟩
  · intro x hx
    rcases List.mem_append.1 hx with hx | hx
    · exact h.mine x hx
    · exact (h2.mine x hx).mono hB (Nat.le_refl _)
  · rw [List.map_append, List.pairwise_append]
    refine ⟨h.apart, h2.apart, ?_⟩
    intro x hx y hy k hk hk2
    obtain ⟨z, hz, rfl⟩ := List.mem_map.1 hx
    obtain ⟨z2, hz2, rfl⟩ := List.mem_map.1 hy
    have h3 := hU z hz k hk
    have h4 := ((h2.mine z2 hz2).rowE hk2).1
    omega

/-- A device of the call's own: two rows, and all their lists. -/
structure RawO (w : World) (B : Nat) (vs vp : Value) (ss ps : List El) : Prop where
  rs : OVr false w B vs ss
  rp : OVr true w B vp ps
  deep : Deep w B (ss ++ ps)
  rng : (∀ e ∈ ss, rE false e) ∧ ∀ e ∈ ps, rE true e
/-- A device that can be read. -/
def RawI (w : World) (sa pa : Option Addr) (ss ps : List El) : Prop := Els false w sa ss ∧ Els true w pa ps
theorem RawI.below {w w' : World} {sa pa : Option Addr} {ss ps : List El} {B : Nat} (h : RawI w sa pa ss ps) (hb : Below B w w') (hB : w.heap.size ≤ B) : RawI w' sa pa ss ps := ⟨h.1.below hb hB, h.2.below hb hB⟩
theorem RawO.inn {w : World} {B n c n2 c2 : Nat} {sa pa : Option Addr} {ss ps : List El} (h : RawO w B (.slice sa n c) (.slice pa n2 c2) ss ps) : RawI w sa pa ss ps :=
  ⟨h.rs.els (fun e he => ⟨h.rng.1 e he, h.deep.byt e (List.mem_append_left _ he)⟩), h.rp.els (fun e he => ⟨h.rng.2 e he, h.deep.byt e (List.mem_append_right _ he)⟩)⟩
theorem RawO.below {w w' : World} {B : Nat} {vs vp : Value} {ss ps : List El} (h : RawO w B vs vp ss ps) (hb : Below w.heap.size w w') : RawO w' B vs vp ss ps := ⟨h.rs.below hb, h.rp.below hb, h.deep.below hb, h.rng⟩
theorem RawO.weak {w : World} {B B' : Nat} {vs vp : Value} {ss ps : List El} (h : RawO w B vs vp ss ps) (hB : B' ≤ B) : RawO w B' vs vp ss ps := ⟨h.rs.weak hB, h.rp.weak hB, h.deep.weak hB, h.rng⟩
theorem RawO.form {w : World} {B : Nat} {vs vp : Value} {ss ps : List El} (h : RawO w B vs vp ss ps) : ∃ sa sc pa pc, vs = .slice sa ss.length sc ∧ vp = .slice pa ps.length pc := by
  obtain ⟨sa, sc, h1⟩ := h.rs.form
  obtain ⟨pa, pc, h2⟩ := h.rp.form
  exact ⟨sa, sc, pa, pc, h1, h2⟩
/-- The blocks of a device. -/
def blkR (vs vp : Value) (ss ps : List El) (k : Nat) : Prop := vs.ownBlock = some k ∨ vp.ownBlock = some k ∨ ∃ e ∈ ss ++ ps, rowOf e.a k
theorem RawO.inside {w : World} {B : Nat} {vs vp : Value} {ss ps : List El} (h : RawO w B vs vp ss ps) : ∀ k, blkR vs vp ss ps k → B ≤ k ∧ k < w.heap.size := by
  rintro k (hk | hk | ⟨e, he, hk⟩)
  · exact h.rs.blk hk
  · exact h.rp.blk hk
  · exact (h.deep.mine e he).rowE hk
theorem RawO.stay {S : Nat → Prop} {w w' : World} {B : Nat} {vs vp : Value} {ss ps : List El} (h : RawO w B vs vp ss ps) (ho : Only S w w') (hs : ∀ k, blkR vs vp ss ps k → ¬ S k) : RawO w' B vs vp ss ps :=
  ⟨h.rs.stay ho (fun k hk => hs k (.inl hk)), h.rp.stay ho (fun k hk => hs k (.inr (.inl hk))), h.deep.stay ho (fun e he k hk => hs k (.inr (.inr ⟨e, he, hk⟩))), h.rng⟩
end Go.Proofs.Ytpedfcknmeeknaa
