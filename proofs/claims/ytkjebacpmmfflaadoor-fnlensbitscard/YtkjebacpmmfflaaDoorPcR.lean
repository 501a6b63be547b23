/-
  Rows of parcels that grow by an append.
-/
import Derived.Test.YtkjebacpmmfflaaDoorPcD
import Derived.Maps.AppendAt
import Derived.Test.YtkjebacpmmfflaaDoorPcO
namespace Go.Proofs.YtkjebacpmmfflaaDoor
open Go.RowKit
set_option linter.unusedVariables false
set_option linter.unusedSimpArgs false

theorem HO_half (ps : List Pc) (n : Nat) : HO ps (n / 2) n n := fun p c hc hn hl _ => by omega
/-- The first one is the least. -/
theorem HO_min {ps : List Pc} {n : Nat} (h : HO ps 0 n n) : ∀ i, i < n → kAt ps 0 ≤ kAt ps i := by
  intro i
  induction i using Nat.strongRecOn with
  | ind i ih =>
    intro hi
    by_cases h0 : i = 0
    · rw [h0]; exact Nat.le_refl _
    · have h1 := ih ((i - 1) / 2) (by omega) (by omega)
      have h2 := h ((i - 1) / 2) i (by omega) hi (Nat.zero_le _) (by omega)
      omega
theorem HO_swap0 {ps : List Pc} {n : Nat} (h : HO ps 0 (n + 1) (n + 1)) (hn : n < ps.length) : HO (swp ps 0 n) (0 + 1) n n := fun p c hc hcn hl hp => by
  rw [kAt_swp ps 0 n p (by omega) hn, kAt_swp ps 0 n c (by omega) hn, if_neg (by omega), if_neg (by omega), if_neg (by omega), if_neg (by omega)]
  exact h p c hc (by omega) (Nat.zero_le _) (by omega)
theorem HO_take {ps : List Pc} {n : Nat} (h : HO ps 0 n n) : HO (ps.take n) 0 n n := fun p c hc hcn hl hp => by
  have he : ∀ i, i < n → kAt (ps.take n) i = kAt ps i := fun i hi => by
    unfold kAt
    simp [List.getD_eq_getElem?_getD, List.getElem?_take, hi]
  rw [he p (by omega), he c hcn]
  exact h p c hc hcn hl hp

set_option maxHeartbeats 4000000 in
theorem init_any (B H g cap : Nat) (ps : List Pc) (w : World) (h : HpS w B H g cap ps) (hm : ps.length ≤ 1000) :
    Calls Tryd.prog 54 #[.iface 96 (.pointer (some ⟨H, 0, none⟩))] w fun e w' => e = .returned (.tuple #[]) ∧
      ∃ qs : List Pc, qs.Perm ps ∧ HpS w' B H g cap qs ∧ HO qs 0 ps.length ps.length ∧ Only (fun k => k = g) w w' := by
  have H0 : Hid (HpS w B H g cap ps) := h
  have hml := h.mLen
  have HL := len_any (some ⟨g, 0, none⟩) ps.length cap w
  obtain ⟨n, hn⟩ : ∃ n, n = ps.length := ⟨_, rfl⟩
  have HN : Hid (ps.length = n ∧ True) := ⟨hn.symm, trivial⟩
  rw [← hn] at hml HL hm ⊢
  clear h hn
  obtain ⟨m, hm2⟩ : ∃ m, m = n / 2 := ⟨_, rfl⟩
  have hq : Int.tdiv (n : Int) 2 = (m : Int) := by rw [Int.tdiv_eq_ediv_of_nonneg (by omega)]; omega
  have hmb : m ≤ 500 := by omega
  have HM : Hid (m = n / 2 ∧ True) := ⟨hm2, trivial⟩
  clear hm2
  go_enter Tryd.func54, Tryd.ntmps54
  go_wp2_with fail
  refine HL.mono ?_
  clear HL hml
  rintro e w1 ⟨rfl, rfl⟩
  go_wp2
  go_loopw [3] (fun i W => ∃ (k : Nat) (qs : List Pc), i = .int .i64 ((k : Int) - 1) ∧ k ≤ m ∧ qs.Perm ps ∧ HpS W B H g cap qs ∧ HO qs k n n ∧ Only (fun k => k = g) w1 W) (fun i _ => (intOf i + 1).toNat)
  case atStart => exact ⟨m, ps, by first | rfl | go_num, Nat.le_refl _, List.Perm.refl _, H0.out, by rw [HM.out.1]; exact HO_half ps n, Only.refl _ _⟩
  case round =>
    obtain ⟨k, qs, rfl, hk, hperm, hps, hho, hon⟩ := hrel
    have HR : Hid (qs.Perm ps ∧ HpS wr B H g cap qs ∧ HO qs k n n ∧ Only (fun k => k = g) w1 wr) := ⟨hperm, hps, hho, hon⟩
    clear hperm hps hho hon
    cases k with
    | zero =>
      go_wp2
      go_end0
      exact ⟨rfl, qs, HR.out.1, HR.out.2.1, HR.out.2.2.1, HR.out.2.2.2⟩
    | succ k =>
      have e1 : ((k + 1 : Nat) : Int) - 1 = (k : Int) := by omega
      rw [e1]
      have hk0 : (0 : Int) ≤ (k : Int) := by omega
      have HD := down_any B H g cap k n qs wr HR.out.2.1 (by rw [HR.out.1.length_eq, HN.out.1]; exact Nat.le_refl _) (by rw [HR.out.1.length_eq, HN.out.1]; omega) (by omega) HR.out.2.2.1
      go_wp2_with fail
      refine HD.mono ?_
      clear HD
      rintro e w2 ⟨⟨b, rfl⟩, rs, hp2, hs2, ho2, -, on2⟩
      have HS : Hid (rs.Perm ps ∧ HpS w2 B H g cap rs ∧ HO rs k n n ∧ Only (fun k => k = g) w1 w2) := ⟨hp2.trans HR.out.1, hs2, ho2, HR.out.2.2.2.trans on2⟩
      clear hp2 hs2 ho2 on2 e1
      go_wp2
      go_roundw
      case rel => exact ⟨k, rs, by first | rfl | go_num, by omega, HS.out.1, HS.out.2.1, HS.out.2.2.1, HS.out.2.2.2⟩
      case measure => first | (simp [intOf]; done) | (simp [intOf]; omega)

theorem Tryd.methH_Pop (H : Nat) (w : World) : Sem.run Tryd.prog (method 288 96 (.pointer (some ⟨H, 0, none⟩)) "Pop") w = .ok (106, .pointer (some ⟨H, 0, none⟩)) w := by kernel_rfl

set_option maxHeartbeats 4000000 in
theorem popLast_any (B H g cap n : Nat) (ps : List Pc) (w : World) (h : HpS w B H g cap ps) (hn : ps.length = n + 1) (hm : n ≤ 1000) (hB : B ≤ H) :
    Calls Tryd.prog 106 #[.pointer (some ⟨H, 0, none⟩)] w fun e w' => e = .returned (ps.getD n dpc).vl ∧ HpS w' B H g cap (ps.take n) ∧ Only (fun k => k = H) w w' := by
  have c0 := h.c0
  have cl := h.row.cell n (by omega)
  have hcap := h.row.caps
  have f0 := frozen_of_row w H 0 _ _ h.blk
  have HE : Hid (HpS (w.setCell ⟨H, 0, none⟩ (.slice (some ⟨g, 0, none⟩) n cap)) B H g cap (ps.take n) ∧ Only (fun k => k = H) w (w.setCell ⟨H, 0, none⟩ (.slice (some ⟨g, 0, none⟩) n cap))) := by
    have hon : Only (fun k => k = H) w (w.setCell ⟨H, 0, none⟩ (.slice (some ⟨g, 0, none⟩) n cap)) := (Only.refl (fun k => k = H) w).setCell (p := ⟨H, 0, none⟩) (.inl rfl) _
    refine ⟨⟨?_, ((h.row.drop n (by omega)).only hon (fun e => h.ne e.symm)), fun p hp => h.fin p (List.mem_of_mem_take hp)⟩, hon⟩
    rw [heap_setCell_same _ H 0 _ _ _ h.blk, List.length_take, Nat.min_eq_left (by omega)]
    rfl
  obtain ⟨tl, xl, hvl⟩ := (ps.getD n dpc).form
  rw [hvl] at cl ⊢
  clear hvl h
  have hi : ((ps.length : Nat) : Int) - 1 = (n : Int) := by omega
  have hi2 : (n : Int) < (ps.length : Int) := by omega
  have hi3 : ¬ (ps.length : Int) ≤ (n : Int) := by omega
  have hnc : (n : Int) ≤ (cap : Int) := by omega
  clear hcap
  obtain ⟨N, hN⟩ : ∃ N, N = ps.length := ⟨_, rfl⟩
  rw [← hN] at c0 hi hi2 hi3
  clear hN hn
  obtain ⟨i0, hif, hz0, hz1, hz2⟩ := info_parts (show (Tryd.prog.info? 56).map (fun i => (i.zero, i.size, i.bytes)) = some (some .nilIface, 1, 16) by kernel_rfl)
  have hsl : ∀ W, (Instr.slice 94 (.slice (some ⟨g, 0, none⟩) N cap) none (some (.int .i64 (n : Int))) none).run Tryd.prog W = .ok (.slice (some ⟨g, 0, none⟩) n cap) W := by
    intro W
    rw [run_slice_h W 94 _ _ _ (by simp [Program.elem, Tryd.underlying94]) .i64 _ (by omega) (by omega)]
    simp [Program.elem, Tryd.underlying94, Go.sizeOf, typeInfo, hif, hz1, Result.andThen, sliced, Addr.add]
  go_enter Tryd.func106, Tryd.ntmps106
  go_wp2
  go_ret
  exact ⟨rfl, HE.out.1, HE.out.2⟩

set_option maxHeartbeats 4000000 in
theorem pop_any (B H g cap n : Nat) (ps : List Pc) (w : World) (h : HpS w B H g cap ps) (hn : ps.length = n + 1) (hm : n ≤ 999) (hB : B ≤ H) (ho : HO ps 0 (n + 1) (n + 1)) :
    Calls Tryd.prog 56 #[.iface 96 (.pointer (some ⟨H, 0, none⟩))] w fun e w' => e = .returned (ps.getD 0 dpc).vl ∧
      ∃ qs : List Pc, (ps.getD 0 dpc :: qs).Perm ps ∧ qs.length = n ∧ HpS w' B H g cap qs ∧ HO qs 0 n n ∧ Only (fun k => k = g ∨ k = H) w w' := by
  have H0 : Hid (HpS w B H g cap ps) := h
  have hml := h.mLen
  have HL := len_any (some ⟨g, 0, none⟩) ps.length cap w
  have hms := h.mSwap
  have HSW := h.swap 0 n (by omega) (by omega)
  have HS1 : Hid (HO (swp ps 0 n) (0 + 1) n n ∧ (swp ps 0 n).Perm ps ∧ (swp ps 0 n).getD n dpc = ps.getD 0 dpc) := ⟨HO_swap0 ho (by omega), swp_perm ps 0 n (by omega) (by omega), by rw [swp_get ps 0 n n (by omega) (by omega), if_pos rfl]⟩
  have hmp := Tryd.methH_Pop H
  have HN : Hid (ps.length = n + 1 ∧ True) := ⟨hn, trivial⟩
  rw [hn] at hml HL hms HSW
  have hi : ((n + 1 : Nat) : Int) - 1 = (n : Int) := by omega
  clear h hn ho
  go_enter Tryd.func56, Tryd.ntmps56
  go_wp2_with fail
  refine HL.mono ?_
  clear HL hml
  rintro e w1 ⟨rfl, rfl⟩
  go_wp2_with fail
  refine HSW.mono ?_
  clear HSW hms
  rintro e w2 ⟨rfl, hp2, on2⟩
  have HD := down_any B H g cap 0 n (swp ps 0 n) w2 hp2 (by rw [swp_len, HN.out.1]; omega) (by rw [swp_len, HN.out.1]; omega) (by omega) HS1.out.1
  go_wp2_with fail
  refine HD.mono ?_
  clear HD hp2
  rintro e w3 ⟨⟨b, rfl⟩, rs, hp3, hs3, ho3, hg3, on3⟩
  have hrl : rs.length = n + 1 := by rw [hp3.length_eq, swp_len]; exact HN.out.1
  have HPL := popLast_any B H g cap n rs w3 hs3 hrl (by omega) hB
  have hlast : rs.getD n dpc = ps.getD 0 dpc := (hg3 n (Nat.le_refl _)).trans HS1.out.2.2
  have hpm : (ps.getD 0 dpc :: rs.take n).Perm ps := by
    have h1 : rs = rs.take n ++ [rs.getD n dpc] := by
      have h2 := List.take_succ_eq_append_getElem (l := rs) (i := n) (by omega)
      rw [List.take_of_length_le (by omega)] at h2
      rw [List.getD_eq_getElem?_getD, List.getElem?_eq_getElem (by omega)]
      exact h2
    rw [hlast] at h1
    refine List.Perm.trans ?_ (hp3.trans HS1.out.2.1)
    rw [h1]
    rw [List.take_append_of_le_length (by rw [List.length_take]; omega), List.take_take, Nat.min_self]
    exact (List.perm_append_singleton _ _).symm
  have HF : Hid ((ps.getD 0 dpc :: rs.take n).Perm ps ∧ (rs.take n).length = n ∧ HO (rs.take n) 0 n n ∧ Only (fun k => k = g ∨ k = H) w1 w3) := ⟨hpm, by rw [List.length_take]; omega, HO_take ho3, (on2.mono (fun _ _ h => .inl h)).trans (on3.mono (fun _ _ h => .inl h))⟩
  rw [hlast] at HPL
  clear hs3 hp3 ho3 hg3 on3 on2 hrl hlast hpm
  go_wp2_with fail
  refine HPL.mono ?_
  clear HPL
  rintro e w4 ⟨rfl, hs4, on4⟩
  obtain ⟨tl, xl, hvl⟩ := (ps.getD 0 dpc).form
  have HG4 : Hid (HpS w4 B H g cap (rs.take n) ∧ Only (fun k => k = g ∨ k = H) w1 w4 ∧ (ps.getD 0 dpc).vl = .iface tl xl) := ⟨hs4, HF.out.2.2.2.trans (on4.mono (fun _ _ h => .inr h)), hvl⟩
  rw [hvl]
  clear hs4 on4 hvl
  go_wp2
  go_ret
  exact ⟨by rw [HG4.out.2.2]; rfl, _, HF.out.1, HF.out.2.1, HG4.out.1, HF.out.2.2.1, HG4.out.2.1⟩
theorem Tryd.infoPc : (Tryd.prog.info? 56).map (fun i => (i.zero, i.size, i.bytes)) = some (some .nilIface, 1, 16) := by kernel_rfl
/-- A slice value (nil, or a row of the call's own from block B on) that has the parcels ps. -/
def OVV (w : World) (B : Nat) (v : Value) (ps : List Pc) : Prop := w.ownsRow B 56 1 v ps.length (ps.map Pc.vl)
theorem OVV.nil (w : World) (B : Nat) : OVV w B (.slice none 0 0) [] := ⟨rfl, .inl ⟨rfl, rfl⟩⟩
theorem OVV.form {w : World} {B : Nat} {v : Value} {ps : List Pc} (h : OVV w B v ps) : (v = .slice none 0 0 ∧ ps = []) ∨ ∃ g c, v = .slice (some ⟨g, 0, none⟩) ps.length c ∧ OwV w B g c ps := by
  have h0 := h
  rcases h.2 with ⟨rfl, h1⟩ | ⟨g, cap, cur, rfl, r⟩
  · exact .inl ⟨rfl, List.length_eq_zero_iff.1 h1⟩
  · exact .inr ⟨g, cap, rfl, h0⟩
theorem OVV.slice {w : World} {B : Nat} {v : Value} {ps : List Pc} (h : OVV w B v ps) : ∃ a c, v = .slice a ps.length c ∧ Pcs w a ps ∧ ps.length ≤ c := by
  rcases h.form with ⟨rfl, rfl⟩ | ⟨g, c, rfl, ho⟩
  · exact ⟨none, 0, rfl, fun h => by simp at h, Nat.le_refl _⟩
  · exact ⟨_, c, rfl, fun _ => ⟨g, 0, rfl, ho.lt.2, fun i hi => by rw [Nat.zero_add]; exact ho.cell i hi⟩, ho.caps.1⟩
theorem OVV.below {w w' : World} {B : Nat} {v : Value} {ps : List Pc} (h : OVV w B v ps) (hb : Below w.heap.size w w') : OVV w' B v ps := by
  have hg : w.grownBy w' none := ⟨hb.os, hb.tape, hb.output, hb.size, fun k hk _ => hb.block k hk⟩
  exact World.ownsRow.kept h hg (by cases v.ownBlock <;> simp)
theorem OVV.off {w w' : World} {B T : Nat} {v : Value} {ps : List Pc} (h : OVV w B v ps) (ho : Only (fun b => b = T) w w') (hT : v.ownBlock ≠ some T) : OVV w' B v ps := by
  have hg : w.grownBy w' (some T) := ⟨ho.os, ho.tape, ho.output, ho.size, fun i hi hn => ho.block i hi (fun e => hn (by rw [e]))⟩
  exact World.ownsRow.kept h hg (.inr hT)
theorem OVV.mono {w : World} {B B' : Nat} {v : Value} {ps : List Pc} (h : OVV w B v ps) (hB : B' ≤ B) : OVV w B' v ps := by
  refine ⟨h.1, ?_⟩
  rcases h.2 with h' | ⟨g, cap, cur, h', hg, r⟩
  · exact .inl h'
  · exact .inr ⟨g, cap, cur, h', by omega, r⟩

theorem append_types {P : Program} {t1 t2 ty e : TypeId} {sa xa : Option Addr} {sn sc xn xc : Nat} (h1 : P.underlying t1 = some (.slice e)) (h2 : P.underlying t2 = some (.slice e)) (w : World) : (Builtin.append_ #[t1, t2] ty #[.slice sa sn sc, .slice xa xn xc]).run P w = (Builtin.append_ #[t1, t1] ty #[.slice sa sn sc, .slice xa xn xc]).run P w := by
  unfold Builtin.append_
  simp [run_underlying h1, run_underlying h2]
theorem run_append_pc {w : World} {t1 t2 ty : TypeId} {B : Nat} {v : Value} {ps qs : List Pc} {a : Option Addr} {c : Nat} (h1 : Tryd.prog.underlying t1 = some (.slice 56)) (h2 : Tryd.prog.underlying t2 = some (.slice 56)) (h : OVV w B v ps) (hq : Pcs w a qs) (hl : ps.length + qs.length ≤ 100000) (hB : B ≤ w.heap.size) :
    ∃ v' w', (Builtin.append_ #[t1, t2] ty #[v, .slice a qs.length c]).run Tryd.prog w = .ok v' w' ∧ OVV w' B v' (ps ++ qs) ∧ w.grownBy w' v.ownBlock ∧ (v'.ownBlock = v.ownBlock ∨ v'.ownBlock = some w.heap.size) := by
  obtain ⟨i0, hi, hz0, hz1, hz2⟩ := info_parts Tryd.infoPc
  have hty : (Builtin.append_ #[t1, t2] ty #[v, .slice a qs.length c]).run Tryd.prog w = (Builtin.append_ #[t1, t1] ty #[v, .slice a qs.length c]).run Tryd.prog w := by
    obtain ⟨a', c', rfl, _, _⟩ := h.slice
    exact append_types h1 h2 w
  rw [hty]
  by_cases h0 : qs.length = 0
  · obtain rfl : qs = [] := List.length_eq_zero_iff.1 h0
    refine ⟨v, w, ?_, by simpa using h, ⟨rfl, rfl, rfl, Nat.le_refl _, fun _ _ _ => rfl⟩, .inl rfl⟩
    obtain ⟨a', c', rfl, _, hc⟩ := h.slice
    simp [Builtin.append_, run_underlying h1, sizeOf, typeInfo, hi, Builtin.lenOf, Builtin.firstCells, loadCells, loadCellsFrom, hc]
    cases a <;> cases a' <;> simp [Result.andThen, storeCells]
  · obtain ⟨b, off, rfl, hbl, hc⟩ := hq (by omega)
    obtain ⟨v', w', hr, ho, hg, _, hat⟩ := run_append_own_at (P := Tryd.prog) w B t1 ty 56 i0 .nilIface 1 16 h1 hi hz0 hz1 hz2 rfl (by decide) v ps.length (ps.map Pc.vl) h ⟨b, off, none⟩ qs.length c (qs.map Pc.vl) (by simp) (by
      intro j u hu
      simp only [List.getElem?_map, Option.map_eq_some_iff] at hu
      obtain ⟨p, hp, rfl⟩ := hu
      have hj : j < qs.length := (List.getElem?_eq_some_iff.1 hp).1
      have := hc j hj
      have h2 : (⟨b, off, none⟩ : Addr).add j = ⟨b, off + j, none⟩ := by
        cases j with
        | zero => simp [Addr.add]
        | succ j => simp [Addr.add]
      rw [h2, this, List.getD_eq_getElem?_getD, hp]
      rfl) (fun u hu => by
      obtain ⟨p, _, rfl⟩ := List.mem_map.1 hu
      exact p.one) (by unfold maxLen; omega) (by omega) hB
    refine ⟨v', w', hr, ?_, hg, hat⟩
    unfold OVV
    rw [List.length_append, List.map_append]
    exact ho
theorem wpList_append_pc {ops : Array Oper} {rest : List Oper} {o : Oper} {act : Act} {w : World} {Q : Exit → Act → World → Prop} (hgd : o.guard = none) (s x : Operand) (t1 t2 : TypeId) (ho : o.op = .call { callee := .builtin .append, args := #[s, x], argTypes := #[t1, t2] })
    (h1 : Tryd.prog.underlying t1 = some (.slice 56)) (h2 : Tryd.prog.underlying t2 = some (.slice 56)) {B : Nat} {v : Value} {ps qs : List Pc} {a : Option Addr} {c n : Nat} (hs : act.eval s = v) (hx : act.eval x = .slice a n c) (hn : n = qs.length) (h : OVV w B v ps) (hq : Pcs w a qs) (hl : ps.length + qs.length ≤ 100000) (hB : B ≤ w.heap.size)
    (hk : ∀ v' w', OVV w' B v' (ps ++ qs) → w.grownBy w' v.ownBlock → (v'.ownBlock = v.ownBlock ∨ v'.ownBlock = some w.heap.size) → wpList Tryd.prog ops Q rest (act.put o.dst v') w') : wpList Tryd.prog ops Q (o :: rest) act w := by
  refine wpList_plain hgd fun K hK => ?_
  subst hn
  obtain ⟨v', w', hr, r1, r2, r3⟩ := run_append_pc (ty := o.type) (c := c) h1 h2 h hq hl hB
  unfold Oper.wp execOp
  simp only [ho, resolve, invoke, builtin, Sem.run_bind, Sem.run_pure, Result.andThen_ok, List.map_toArray, List.map_cons, List.map_nil, hs, hx, hr]
  exact hK _ _ (hk v' w' r1 r2 r3)
end Go.Proofs.YtkjebacpmmfflaaDoor
