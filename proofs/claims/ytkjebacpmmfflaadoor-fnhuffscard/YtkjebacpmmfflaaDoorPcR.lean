/-
  Rows of parcels that grow by an append.
-/
import Derived.Maps.AppendAt
import Derived.Test.YtkjebacpmmfflaaDoorPcD
namespace Go.Proofs.YtkjebacpmmfflaaDoor
open Go.RowKit
set_option linter.unusedVariables false
set_option linter.unusedSimpArgs false

theorem Tryd.infoPc : (Tryd.prog.info? 56).map (fun i => (i.zero, i.size, i.bytes)) = some (some .nilIface, 1, 16) := by kernel_rfl
/-- A slice value (nil, or a row of the call's own from block B on) that has the parcels ps. -/
def OVV (w : World) (B : Nat) (v : Value) (ps : List Pc) : Prop := w.ownsRow B 56 1 v ps.length (ps.map Pc.vl)
theorem OVV.nil (w : World) (B : Nat) : OVV w B (.slice none 0 0) [] := ⟨rfl, .inl ⟨rfl, rfl⟩⟩
theorem OVV.form {w : World} {B : Nat} {v : Value} {ps : List Pc} (h : OVV w B v ps) : (v = .slice none 0 0 ∧ ps = []) ∨ ∃ g c, v = .slice (some ⟨g, 0, none⟩) ps.length c ∧ OwV w B g c ps := by
  have h0 := h
  rcases h.2 with ⟨rfl, h1⟩ | ⟨g, cap, cur, rfl, r⟩
  · exact .inl ⟨rfl, List.length_eq_zero_iff.1 h1⟩
  · exact .inr ⟨g, cap, rfl, h0⟩
theorem OVV.slice {w : World} {B : Nat} {v : Value} {ps : List Pc} (h : OVV w B v ps) : ∃ a c, v = .slice a ps.length c ∧ Pcs w a ps ∧ ps.length ≤ c := by
  rcases h.form with ⟨rfl, rfl⟩ | ⟨g, c, rfl, ho⟩
  · exact ⟨none, 0, rfl, fun h => by simp at h, Nat.le_refl _⟩
  · exact ⟨_, c, rfl, fun _ => ⟨g, 0, rfl, ho.lt.2, fun i hi => by rw [Nat.zero_add]; exact ho.cell i hi⟩, ho.caps.1⟩
theorem OVV.below {w w' : World} {B : Nat} {v : Value} {ps : List Pc} (h : OVV w B v ps) (hb : Below w.heap.size w w') : OVV w' B v ps := by
  have hg : w.grownBy w' none := ⟨hb.os, hb.tape, hb.output, hb.size, fun k hk _ => hb.block k hk⟩
  exact World.ownsRow.kept h hg (by cases v.ownBlock <;> simp)
theorem OVV.off {w w' : World} {B T : Nat} {v : Value} {ps : List Pc} (h : OVV w B v ps) (ho : Only (fun b => b = T) w w') (hT : v.ownBlock ≠ some T) : OVV w' B v ps := by
  have hg : w.grownBy w' (some T) := ⟨ho.os, ho.tape, ho.output, ho.size, fun i hi hn => ho.block i hi (fun e => hn (by rw [e]))⟩
  exact World.ownsRow.kept h hg (.inr hT)
theorem OVV.mono {w : World} {B B' : Nat} {v : Value} {ps : List Pc} (h : OVV w B v ps) (hB : B' ≤ B) : OVV w B' v ps := by
  refine ⟨h.1, ?_⟩
  rcases h.2 with h' | ⟨g, cap, cur, h', hg, r⟩
  · exact .inl h'
  · exact .inr ⟨g, cap, cur, h', by omega, r⟩

theorem append_types {P : Program} {t1 t2 ty e : TypeId} {sa xa : Option Addr} {sn sc xn xc : Nat} (h1 : P.underlying t1 = some (.slice e)) (h2 : P.underlying t2 = some (.slice e)) (w : World) : (Builtin.append_ #[t1, t2] ty #[.slice sa sn sc, .slice xa xn xc]).run P w = (Builtin.append_ #[t1, t1] ty #[.slice sa sn sc, .slice xa xn xc]).run P w := by
  unfold Builtin.append_
  simp [run_underlying h1, run_underlying h2]
theorem run_append_pc {w : World} {t1 t2 ty : TypeId} {B : Nat} {v : Value} {ps qs : List Pc} {a : Option Addr} {c : Nat} (h1 : Tryd.prog.underlying t1 = some (.slice 56)) (h2 : Tryd.prog.underlying t2 = some (.slice 56)) (h : OVV w B v ps) (hq : Pcs w a qs) (hl : ps.length + qs.length ≤ 100000) (hB : B ≤ w.heap.size) :
    ∃ v' w', (Builtin.append_ #[t1, t2] ty #[v, .slice a qs.length c]).run Tryd.prog w = .ok v' w' ∧ OVV w' B v' (ps ++ qs) ∧ w.grownBy w' v.ownBlock ∧ (v'.ownBlock = v.ownBlock ∨ v'.ownBlock = some w.heap.size) := by
  obtain ⟨i0, hi, hz0, hz1, hz2⟩ := info_parts Tryd.infoPc
  have hty : (Builtin.append_ #[t1, t2] ty #[v, .slice a qs.length c]).run Tryd.prog w = (Builtin.append_ #[t1, t1] ty #[v, .slice a qs.length c]).run Tryd.prog w := by
    obtain ⟨a', c', rfl, _, _⟩ := h.slice
    exact append_types h1 h2 w
  rw [hty]
  by_cases h0 : qs.length = 0
  · obtain rfl : qs = [] := List.length_eq_zero_iff.1 h0
    refine ⟨v, w, ?_, by simpa using h, ⟨rfl, rfl, rfl, Nat.le_refl _, fun _ _ _ => rfl⟩, .inl rfl⟩
    obtain ⟨a', c', rfl, _, hc⟩ := h.slice
    simp [Builtin.append_, run_underlying h1, sizeOf, typeInfo, hi, Builtin.lenOf, Builtin.firstCells, loadCells, loadCellsFrom, hc]
    cases a <;> cases a' <;> simp [Result.andThen, storeCells]
  · obtain ⟨b, off, rfl, hbl, hc⟩ := hq (by omega)
    obtain ⟨v', w', hr, ho, hg, _, hat⟩ := run_append_own_at (P := Tryd.prog) w B t1 ty 56 i0 .nilIface 1 16 h1 hi hz0 hz1 hz2 rfl (by decide) v ps.length (ps.map Pc.vl) h ⟨b, off, none⟩ qs.length c (qs.map Pc.vl) (by simp) (by
      intro j u hu
      simp only [List.getElem?_map, Option.map_eq_some_iff] at hu
      obtain ⟨p, hp, rfl⟩ := hu
      have hj : j < qs.length := (List.getElem?_eq_some_iff.1 hp).1
      have := hc j hj
      have h2 : (⟨b, off, none⟩ : Addr).add j = ⟨b, off + j, none⟩ := by
        cases j with
        | zero => simp [Addr.add]
        | succ j => simp [Addr.add]
      rw [h2, this, List.getD_eq_getElem?_getD, hp]
      rfl) (fun u hu => by
      obtain ⟨p, _, rfl⟩ := List.mem_map.1 hu
      exact p.one) (by unfold maxLen; omega) (by omega) hB
    refine ⟨v', w', hr, ?_, hg, hat⟩
    unfold OVV
    rw [List.length_append, List.map_append]
    exact ho
theorem wpList_append_pc {ops : Array Oper} {rest : List Oper} {o : Oper} {act : Act} {w : World} {Q : Exit → Act → World → Prop} (hgd : o.guard = none) (s x : Operand) (t1 t2 : TypeId) (ho : o.op = .call { callee := .builtin .append, args := #[s, x], argTypes := #[t1, t2] })
    (h1 : Tryd.prog.underlying t1 = some (.slice 56)) (h2 : Tryd.prog.underlying t2 = some (.slice 56)) {B : Nat} {v : Value} {ps qs : List Pc} {a : Option Addr} {c n : Nat} (hs : act.eval s = v) (hx : act.eval x = .slice a n c) (hn : n = qs.length) (h : OVV w B v ps) (hq : Pcs w a qs) (hl : ps.length + qs.length ≤ 100000) (hB : B ≤ w.heap.size)
    (hk : ∀ v' w', OVV w' B v' (ps ++ qs) → w.grownBy w' v.ownBlock → (v'.ownBlock = v.ownBlock ∨ v'.ownBlock = some w.heap.size) → wpList Tryd.prog ops Q rest (act.put o.dst v') w') : wpList Tryd.prog ops Q (o :: rest) act w := by
  refine wpList_plain hgd fun K hK => ?_
  subst hn
  obtain ⟨v', w', hr, r1, r2, r3⟩ := run_append_pc (ty := o.type) (c := c) h1 h2 h hq hl hB
  unfold Oper.wp execOp
  simp only [ho, resolve, invoke, builtin, Sem.run_bind, Sem.run_pure, Result.andThen_ok, List.map_toArray, List.map_cons, List.map_nil, hs, hx, hr]
  exact hK _ _ (hk v' w' r1 r2 r3)
end Go.Proofs.YtkjebacpmmfflaaDoor
