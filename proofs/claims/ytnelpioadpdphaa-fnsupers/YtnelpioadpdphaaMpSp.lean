/-
  Places read out of bytes: the program's savedPlaces. (Typed by wip/mksr8.py.)
-/
import Derived.Test.YtnelpioadpdphaaPlP
import Derived.Test.YtnelpioadpdphaaBCut
import Derived.Test.YtnelpioadpdphaaCut
import Derived.Maps.AppendAt
namespace Go.Proofs.Ytnelpioadpdphaa
open Go.RowKit
set_option linter.unusedVariables false
set_option linter.unusedSimpArgs false

theorem wp_append_p1 {o : Oper} {a : Act} {w : World} {K : Act → World → Prop} {Q : Exit → Act → World → Prop} (s x : Operand) (ho : o.op = .call { callee := .builtin .append, args := #[s, x], argTypes := #[23, 23] })
    (B : Nat) (v : Value) (ps : List (Int × Int)) (hs : a.eval s = v) (hown : OVp w B v ps) (X : Nat) (y z : Int) (hx : a.eval x = .slice (some ⟨X, 0, none⟩) 1 1) (hX0 : w.cell? ⟨X, 0, none⟩ = some (.int .i64 y)) (hX1 : w.cell? ⟨X, 1, none⟩ = some (.int .i64 z)) (hr : rP (y, z)) (hb1 : ps.length ≤ 1000000) (hbase : B ≤ w.heap.size)
    (h : ∀ v' w', OVp w' B v' (ps ++ [(y, z)]) → w.grownBy w' v.ownBlock → K (a.put o.dst v') w') : o.wp Try.prog a w K Q := by
  obtain ⟨i0, hi, hz0', hz1', hz2⟩ := info_parts Try.infoPl
  obtain ⟨v', w', hr', h2, h3, _, h5⟩ := run_append_own_at (P := Try.prog) w B 23 o.type 49 i0 (.agg #[.int .i64 0, .int .i64 0]) 2 16 Try.underlying23 hi hz0' hz1' hz2 rfl (by decide) v ps.length _ hown.1 ⟨X, 0, none⟩ 1 1 [.int .i64 y, .int .i64 z] rfl (by
    intro j u hu
    match j with
    | 0 => simp at hu; subst hu; simpa [Addr.add] using hX0
    | 1 => simp at hu; subst hu; simpa [Addr.add] using hX1
    | j + 2 => simp at hu) (by simp [Value.oneCell']) (by unfold maxLen; omega) (by omega) hbase
  have hrun : (Builtin.append_ #[23, 23] o.type #[v, .slice (some ⟨X, 0, none⟩) 1 1]).run Try.prog w = .ok v' w' := hr'
  unfold Oper.wp execOp
  simp only [ho, resolve, invoke, builtin, Sem.run_bind, Sem.run_pure, Result.andThen_ok, List.map_toArray, List.map_cons, List.map_nil, hs, hx, hrun]
  refine h v' w' ⟨?_, fun q hq => ?_⟩ h3
  · rw [List.length_append, List.flatMap_append]
    exact h2
  · rcases List.mem_append.1 hq with hq | hq
    · exact hown.2 q hq
    · simp at hq
      rw [hq]
      exact hr

/-- The places that stand in bytes. -/
def pl2 (ys : List Int) : Nat → List (Int × Int)
  | 0 => []
  | k + 1 => pl2 ys k ++ [(ys.getD (2 * k) 0, ys.getD (2 * k + 1) 0)]
theorem pl2_len (ys : List Int) (k : Nat) : (pl2 ys k).length = k := by
  induction k with
  | zero => rfl
  | succ k ih => simp [pl2, ih]

set_option maxRecDepth 20000 in
set_option maxHeartbeats 8000000 in
theorem savedPlaces_any (a : Option Addr) (c : Nat) (ys : List Int) (m : Nat) (w : World) (hb : Byt w a ys) (hm : m ≤ 16) (hl : 2 * m ≤ ys.length) (hl2 : ys.length ≤ 1000) :
    Calls Try.prog 18 #[.slice a ys.length c, .int .i64 m] w fun r w' => (∃ v, r = .returned v ∧ OVp w' w.heap.size v (pl2 ys m)) ∧ Below w.heap.size w w' := by
  have HB : Hid (Byt w a ys) := hb
  have HP : Hid (∀ k, pl2 ys k ++ [(ys.getD (2 * k) 0, ys.getD (2 * k + 1) 0)] = pl2 ys (k + 1)) := fun k => rfl
  have HPL : Hid (∀ k, (pl2 ys k).length = k) := pl2_len ys
  have HP0 : Hid (pl2 ys 0 = [] ∧ True) := ⟨rfl, trivial⟩
  have hr := hb.1
  have HRG : Hid (∀ i, 0 ≤ ys.getD i 0 ∧ ys.getD i 0 ≤ 255) := fun i => getD_rng hr i
  clear hb hr
  generalize hlen : ys.length = L at *
  have HL : Hid (ys.length = L ∧ True) := ⟨hlen, trivial⟩
  clear hlen
  go_enter Try.func18, Try.ntmps18
  go_wp2
  go_loopw [5, 6] (fun v i wr => ∃ (k j : Nat) (va : Option Addr) (vc : Nat), k ≤ m ∧ j = 2 * k ∧ i = .int .i64 j ∧ v = .slice va (pl2 ys k).length vc ∧ OVp wr w.heap.size (.slice va (pl2 ys k).length vc) (pl2 ys k) ∧ Below w.heap.size w wr) (fun _ i _ => 2 * m - (intOf i).toNat)
  case atStart => exact ⟨0, 0, none, 0, Nat.zero_le _, rfl, rfl, by rw [HP0.out.1]; rfl, by rw [HP0.out.1]; exact OVp.nil _ _, Below.refl _ _⟩
  case round =>
    obtain ⟨k, j, va, vc, hk, hj, rfl, rfl, hov, hbel⟩ := hrel
    have HJ : Hid (j = 2 * k ∧ True) := ⟨hj, trivial⟩
    have HR : Hid (Below w.heap.size w wr ∧ w.heap.size ≤ wr.heap.size) := ⟨hbel, hbel.size⟩
    have HOV : Hid (OVp wr w.heap.size (.slice va (pl2 ys k).length vc) (pl2 ys k)) := hov
    have hpl := HPL.out k
    clear hbel hov
    by_cases hlt : k < m
    · obtain ⟨b, off, rfl, hbw, hc1⟩ := HB.out.len_pos j (by rw [HL.out.1]; omega)
      have c00 := hc1 j (by rw [HL.out.1]; omega)
      have c01 := hc1 (j + 1) (by rw [HL.out.1]; omega)
      have c0 := keep HR.out.1 hbw c00
      have c1 := keep HR.out.1 hbw c01
      have HE : Hid (pl2 ys k ++ [(ys.getD j 0, ys.getD (j + 1) 0)] = pl2 ys (k + 1) ∧ True) := ⟨by rw [hj]; exact HP.out k, trivial⟩
      have hx := HRG.out j
      have hy := HRG.out (j + 1)
      have hbr : b < wr.heap.size := by have := HR.out.2; omega
      have hjb : j + 1 < L ∧ j ≤ 1000 ∧ (j : Int) < (m : Int) * 2 := by omega
      obtain ⟨hj1, hj2, hj3⟩ := hjb
      have hj4 : j < L := by omega
      have hwj : IntKind.i64.wrap ((j : Int) + 1) = (j : Int) + 1 := IntWalk.i64_in _ (by omega)
      have hj5 : (0 : Int) ≤ (j : Int) + 1 := by omega
      have hj6 : (j : Int) + 1 < (L : Int) := by omega
      have HK : Hid (k < m ∧ j + 2 ≤ 2 * m) := ⟨hlt, by omega⟩
      clear hc1 HP HRG hj hlt
      generalize ys.getD j 0 = x at *
      generalize ys.getD (j + 1) 0 = y at *
      generalize pl2 ys k = qs at *
      have hql : qs.length ≤ 1000 := by omega
      clear hpl
      have hwx : IntKind.i64.wrap x = x := IntWalk.i64_in _ (by omega)
      have hwy : IntKind.i64.wrap y = y := IntWalk.i64_in _ (by omega)
      have HXY : Hid (rP (x, y)) := ⟨by simp only; omega, by simp only; omega⟩
      have HAL : Hid (Below wr.heap.size wr (wr.alloc (Obj.cells #[.int .i64 x, .int .i64 y] 49))) := (Below.refl _ _).alloc (Nat.le_refl _) _
      go_wp2
      refine wp_region_cut (S := fun W => W.cell? ⟨b, off + j, none⟩ = some (.int .u8 x) ∧ W.cell? ⟨b, off + (j + 1), none⟩ = some (.int .u8 y)) 15 (by kernel_rfl) (by kernel_rfl) (by exact ⟨c0, c1⟩) (fun hHeld => ?_)
      refine wpAnyH_take (i := 0) (v := ?_) rfl (by kernel_rfl) (by kernel_rfl) (by kernel_rfl) (fun _ _ _ h => h) (Or.inl ⟨by rfl, ?_⟩) (by assumption) ?_
      rotate_left 1
      · (intro w hSw; (try dsimp only at hSw); go_simp; try (with_reducible rfl))
      try simp only [List.getElem_toArray, List.getElem_cons_zero, List.getElem_cons_succ, Act.put, List.setIfInBounds_toArray, List.set_cons_zero, List.set_cons_succ]
      refine wpAnyH_take (i := 1) (v := ?_) rfl (by kernel_rfl) (by kernel_rfl) (by kernel_rfl) (fun _ _ _ h => h) (Or.inl ⟨by rfl, ?_⟩) (by assumption) ?_
      rotate_left 1
      · (intro w hSw; (try dsimp only at hSw); go_simp; try (with_reducible rfl))
      try simp only [List.getElem_toArray, List.getElem_cons_zero, List.getElem_cons_succ, Act.put, List.setIfInBounds_toArray, List.set_cons_zero, List.set_cons_succ]
      refine wpAnyH_take (i := 2) (v := ?_) rfl (by kernel_rfl) (by kernel_rfl) (by kernel_rfl) (fun _ _ _ h => h) (Or.inl ⟨by rfl, ?_⟩) (by assumption) ?_
      rotate_left 1
      · (intro w hSw; (try dsimp only at hSw); go_simp; try (with_reducible rfl))
      try simp only [List.getElem_toArray, List.getElem_cons_zero, List.getElem_cons_succ, Act.put, List.setIfInBounds_toArray, List.set_cons_zero, List.set_cons_succ]
      refine wpAnyH_take (i := 3) (v := ?_) rfl (by kernel_rfl) (by kernel_rfl) (by kernel_rfl) (fun _ _ _ h => h) (Or.inl ⟨by rfl, ?_⟩) (by assumption) ?_
      rotate_left 1
      · (intro w hSw; (try dsimp only at hSw); go_simp; try (with_reducible rfl))
      try simp only [List.getElem_toArray, List.getElem_cons_zero, List.getElem_cons_succ, Act.put, List.setIfInBounds_toArray, List.set_cons_zero, List.set_cons_succ]
      refine wpAnyH_take (i := 4) (v := ?_) rfl (by kernel_rfl) (by kernel_rfl) (by kernel_rfl) (fun _ _ _ h => h) (Or.inl ⟨by rfl, ?_⟩) (by assumption) ?_
      rotate_left 1
      · (intro w hSw; (try dsimp only at hSw); go_simp; try (with_reducible rfl))
      try simp only [List.getElem_toArray, List.getElem_cons_zero, List.getElem_cons_succ, Act.put, List.setIfInBounds_toArray, List.set_cons_zero, List.set_cons_succ]
      refine wpAnyH_take (i := 5) (v := ?_) rfl (by kernel_rfl) (by kernel_rfl) (by kernel_rfl) (fun _ _ _ h => h) (Or.inl ⟨by rfl, ?_⟩) (by assumption) ?_
      rotate_left 1
      · (intro w hSw; (try dsimp only at hSw); go_simp; try (with_reducible rfl))
      try simp only [List.getElem_toArray, List.getElem_cons_zero, List.getElem_cons_succ, Act.put, List.setIfInBounds_toArray, List.set_cons_zero, List.set_cons_succ]
      refine wpAnyH_take (i := 6) (v := ?_) rfl (by kernel_rfl) (by kernel_rfl) (by kernel_rfl) (fun _ _ _ h => h) (Or.inl ⟨by rfl, ?_⟩) (by assumption) ?_
      rotate_left 1
      · (intro w hSw; (try dsimp only at hSw); go_simp; try (with_reducible rfl))
      try simp only [List.getElem_toArray, List.getElem_cons_zero, List.getElem_cons_succ, Act.put, List.setIfInBounds_toArray, List.set_cons_zero, List.set_cons_succ]
      refine wpAnyH_take (i := 7) (v := ?_) rfl (by kernel_rfl) (by kernel_rfl) (by kernel_rfl) (fun _ _ _ h => h) (Or.inl ⟨by rfl, ?_⟩) (by assumption) ?_
      rotate_left 1
      · (intro w hSw; (try dsimp only at hSw); go_simp; try (with_reducible rfl))
      try simp only [List.getElem_toArray, List.getElem_cons_zero, List.getElem_cons_succ, Act.put, List.setIfInBounds_toArray, List.set_cons_zero, List.set_cons_succ]
      refine wpAnyH_take (i := 8) (v := ?_) rfl (by kernel_rfl) (by kernel_rfl) (by kernel_rfl) (fun _ _ _ h => h) (Or.inl ⟨by rfl, ?_⟩) (by assumption) ?_
      rotate_left 1
      · (intro w hSw; (try dsimp only at hSw); go_simp; try (with_reducible rfl))
      try simp only [List.getElem_toArray, List.getElem_cons_zero, List.getElem_cons_succ, Act.put, List.setIfInBounds_toArray, List.set_cons_zero, List.set_cons_succ]
      refine wpAnyH_take (i := 9) (v := ?_) rfl (by kernel_rfl) (by kernel_rfl) (by kernel_rfl) (fun _ _ _ h => h) (Or.inl ⟨by rfl, ?_⟩) (by assumption) ?_
      rotate_left 1
      · (intro w hSw; (try dsimp only at hSw); go_simp; try (with_reducible rfl))
      try simp only [List.getElem_toArray, List.getElem_cons_zero, List.getElem_cons_succ, Act.put, List.setIfInBounds_toArray, List.set_cons_zero, List.set_cons_succ]
      refine wpAnyH_take (i := 10) (v := ?_) rfl (by kernel_rfl) (by kernel_rfl) (by kernel_rfl) (fun _ _ _ h => h) (Or.inl ⟨by rfl, ?_⟩) (by assumption) ?_
      rotate_left 1
      · (intro w hSw; (try dsimp only at hSw); go_simp; try (with_reducible rfl))
      try simp only [List.getElem_toArray, List.getElem_cons_zero, List.getElem_cons_succ, Act.put, List.setIfInBounds_toArray, List.set_cons_zero, List.set_cons_succ]
      refine wpAnyH_take (i := 11) (v := ?_) rfl (by kernel_rfl) (by kernel_rfl) (by kernel_rfl) (fun _ _ _ h => h) (Or.inl ⟨by rfl, ?_⟩) (by assumption) ?_
      rotate_left 1
      · (intro w hSw; (try dsimp only at hSw); go_simp; try (with_reducible rfl))
      try simp only [List.getElem_toArray, List.getElem_cons_zero, List.getElem_cons_succ, Act.put, List.setIfInBounds_toArray, List.set_cons_zero, List.set_cons_succ]
      refine wpAnyH_take (i := 12) (v := ?_) rfl (by kernel_rfl) (by kernel_rfl) (by kernel_rfl) (fun _ _ _ h => h) (Or.inl ⟨by rfl, ?_⟩) (by assumption) ?_
      rotate_left 1
      · (intro w hSw; (try dsimp only at hSw); go_simp; try (with_reducible rfl))
      try simp only [List.getElem_toArray, List.getElem_cons_zero, List.getElem_cons_succ, Act.put, List.setIfInBounds_toArray, List.set_cons_zero, List.set_cons_succ]
      refine wpAnyH_ready (rs := [13]) (by kernel_rfl) (by simp) ?_
      refine AllReadyH.cons rfl (fun K hK => ?_) AllReadyH.nil
      go_simp
      refine hK.out _ _ (by exact ⟨keepA _ (by exact hbr) c0, keepA _ (by exact hbr) c1⟩) (fun hHeld => ?_)
      clear hK K
      try simp only [List.getElem_toArray, List.getElem_cons_zero, List.getElem_cons_succ, Act.put, List.setIfInBounds_toArray, List.set_cons_zero, List.set_cons_succ]
      refine wpAnyH_ready (rs := [14]) (by kernel_rfl) (by simp) ?_
      refine AllReadyH.cons rfl (fun K hK => ?_) AllReadyH.nil
      refine wanted_step rfl (wp_append_p1 (.tmp 13) (.tmp 26) rfl w.heap.size (.slice va qs.length vc) qs (by simp [Act.eval]) (by exact OVp.below HOV.out HAL.out.drew) wr.heap.size x y (by simp [Act.eval]) (by simp) (by simp) HXY.out (by omega) (by have := HR.out.2; simp; omega) ?_)
      intro v1 w1 hov1 hg1
      have hb1' : Below w.heap.size w w1 := by exact ((HR.out.1.alloc HR.out.2 _).drew).grown hg1 (by have := HR.out.2; simp; omega) (fun k hk => (HOV.out.blk hk).1)
      obtain ⟨va1, vc1, hv1⟩ := hov1.form
      rw [HE.out.1] at hov1 hv1
      subst hv1
      have HN1 : Hid (OVp w1 w.heap.size (.slice va1 (pl2 ys (k + 1)).length vc1) (pl2 ys (k + 1)) ∧ Below w.heap.size w w1) := ⟨hov1, hb1'⟩
      refine hK.out _ _ (by exact ⟨keep hb1' hbw c00, keep hb1' hbw c01⟩) (fun hHeld => ?_)
      clear hK K
      try simp only [List.getElem_toArray, List.getElem_cons_zero, List.getElem_cons_succ, Act.put, List.setIfInBounds_toArray, List.set_cons_zero, List.set_cons_succ]
      refine wpAnyH_done (by kernel_rfl) ?_ _
      simp only [cutQ, List.drop_succ_cons, List.drop_zero]
      clear hHeld hg1 hov1 hb1'
      go_wp2
      go_roundw
      case rel => exact ⟨k + 1, j + 2, va1, vc1, HK.out.1, by have := HJ.out.1; omega, by go_num, rfl, HN1.out.1, HN1.out.2⟩
      case measure => have := HK.out; simp [intOf]; omega
    · have hkn : k = m := by omega
      subst hkn
      have hj3 : ¬ ((j : Int) < (k : Int) * 2) := by omega
      clear hj hpl
      have HF : Hid (OVp wr w.heap.size (.slice va (pl2 ys k).length vc) (pl2 ys k)) := HOV.out
      go_wp2
      go_ret
      exact ⟨⟨.slice va (pl2 ys k).length vc, rfl, HF.out⟩, HR.out.1⟩
end Go.Proofs.Ytnelpioadpdphaa
