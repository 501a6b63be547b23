/-
  The program's settle: one address more in the atlas. (Typed by wip/mkset8.py.)
-/
import Derived.Test.YtnelpioadpdphaaMpSt
namespace Go.Proofs.Ytnelpioadpdphaa
open Go.RowKit Go.Maps
set_option linter.unusedVariables false
set_option linter.unusedSimpArgs false

theorem wanted_step8 {P : Program} {ops : Array Oper} {o : Oper} {a : Act} {w : World} {K : Act → World → Prop} {Q : Exit → Act → World → Prop} {E : Prop} (hg : o.guard = none) (h : Oper.wp P o a w K Q) :
    if Region.wanted o (yielded ops a.tmps) = true then Oper.wp P o a w K Q else E := by
  rw [if_pos (by simp [Region.wanted, hg])]
  exact h
theorem wp_append_i1 {o : Oper} {a : Act} {w : World} {K : Act → World → Prop} {Q : Exit → Act → World → Prop} (s x : Operand) (ho : o.op = .call { callee := .builtin .append, args := #[s, x], argTypes := #[44, 44] })
    (B : Nat) (v : Value) (zs : List Int) (hs : a.eval s = v) (hown : OVI w B v zs) (X : Nat) (z : Int) (hx : a.eval x = .slice (some ⟨X, 0, none⟩) 1 1) (hX : w.cell? ⟨X, 0, none⟩ = some (.int .i64 z)) (hz0 : -9223372036854775808 ≤ z) (hz1 : z ≤ 9223372036854775807) (hb1 : zs.length ≤ 1000000) (hbase : B ≤ w.heap.size)
    (h : ∀ v' w', OVI w' B v' (zs ++ [z]) → w.grownBy w' v.ownBlock → (v'.ownBlock = v.ownBlock ∨ v'.ownBlock = some w.heap.size) → K (a.put o.dst v') w') : o.wp Try.prog a w K Q := by
  obtain ⟨i0, hi, hz0', hz1', hz2⟩ := info_parts Try.infoI64
  obtain ⟨v', w', hr, h2, h3, _, h5⟩ := run_append_own_at (P := Try.prog) w B 44 o.type 3 i0 (.int .i64 0) 1 8 Try.underlying44 hi hz0' hz1' hz2 rfl (by decide) v zs.length _ hown.1 ⟨X, 0, none⟩ 1 1 [.int .i64 z] rfl (by
    intro j u hu
    cases j with
    | zero => simp at hu; subst hu; simpa [Addr.add] using hX
    | succ j => simp at hu) (by simp [Value.oneCell']) (by unfold maxLen; omega) (by omega) hbase
  have hr' : (Builtin.append_ #[44, 44] o.type #[v, .slice (some ⟨X, 0, none⟩) 1 1]).run Try.prog w = .ok v' w' := hr
  unfold Oper.wp execOp
  simp only [ho, resolve, invoke, builtin, Sem.run_bind, Sem.run_pure, Result.andThen_ok, List.map_toArray, List.map_cons, List.map_nil, hs, hx, hr']
  refine h v' w' ⟨?_, fun y hy => ?_⟩ h3 h5
  · rw [List.length_append, List.map_append]
    exact h2
  · rcases List.mem_append.1 hy with hy | hy
    · exact hown.2 y hy
    · simp at hy
      omega
theorem blk_cellI {w : World} {R j : Nat} {cur : Array Value} {T : TypeId} {v : Value} (hR : w.heap[R]? = some (.cells cur T (0, 0))) (hv : cur[j]? = some v) : w.cell? ⟨R, j, none⟩ = some v := by
  rw [cell_of_row w R j cur T (0, 0) hR]; exact hv
theorem set_below {w0 w1 w2 : World} {M : Nat} {v : Value} {zs : List Int} {wv : World} (hg1 : w0.grownBy w1 v.ownBlock) (hg2 : w1.grownBy w2 (some M)) (hM : M ≤ w0.heap.size) (ho : OVI wv (M + 1) v zs) : Below M w0 w2 :=
  (((Below.refl M w0).grown hg1 hM (fun j hj => by have := ho.blk hj; omega)).grown hg2 (by have := hg1.size; omega) (fun j hj => by cases hj; exact Nat.le_refl _))
theorem Liv.mono {w : World} {M n m : Nat} {f : Int → List Int} (h : Liv w M n f) (hm : n ≤ m) : Liv w M m f := by
  obtain ⟨D, ⟨es, clock, h1, h2, h3, h4, h5, h6, h7⟩, h8⟩ := h
  exact ⟨D, ⟨es, clock, h1, h2, by omega, h4, h5, fun x hx zs hz => by have := h6 x hx zs hz; omega, h7⟩, h8⟩

set_option maxRecDepth 20000 in
set_option maxHeartbeats 8000000 in
theorem settle_any (R M : Nat) (a : Option Addr) (c : Nat) (ps : List (Int × Int)) (k n : Nat) (w : World) (hA : Atl w R M a ps.length c) (hb : Pls w a ps) (hL : Liv w M n (liv ps k)) (hMR : M ≠ R) (hk : k < ps.length) (hn : ps.length ≤ 16) (hn2 : n ≤ 1000) :
    Calls Try.prog 27 #[.pointer (some ⟨R, 0, none⟩), .int .i64 k] w fun e w' =>
      e = .returned (.bool (stpP ps k)) ∧ (stpP ps k = true → Liv w' M (n + 1) (liv ps (k + 1)) ∧ Atl w' R M a ps.length c) ∧ Below M w w' := by
  have hMl := hL.lt
  have a0 := hA.c0
  have hRl := hA.lt
  have HPO := placeOf_any a c ps k w hb (by omega)
  rw [plcO_in ps k hk] at HPO
  have HST : Hid (stpP ps k = (nwh (ps.getD k dp) || (rgt (ps.getD k dp) && !tkn ps (ps.getD k dp) k)) ∧ True) := ⟨rfl, trivial⟩
  have HTK : Hid (nwh (ps.getD k dp) = false → anyT ps (ps.getD k dp) (liv ps k (ps.getD k dp).1) = tkn ps (ps.getD k dp) k) := fun h => anyT_liv ps k (by omega) _ h
  have HNW : Hid (nwh (ps.getD k dp) = true → liv ps (k + 1) = liv ps k) := liv_nw ps k
  have HLI0 : Hid (nwh (ps.getD k dp) = false → ∀ s, liv ps (k + 1) s = if s = (ps.getD k dp).1 then liv ps k s ++ [(k : Int)] else liv ps k s) := liv_at ps k
  have HRG : Hid (rP (ps.getD k dp)) := hb.1 _ (getD_memP hk)
  have HLN : Hid (∀ s, (liv ps k s).length ≤ k) := liv_len ps k
  have HA : Hid (Atl w R M a ps.length c ∧ Pls w a ps ∧ Liv w M n (liv ps k)) := ⟨hA, hb, hL⟩
  clear hA hb hL
  generalize ps.getD k dp = q at *
  obtain ⟨x, y⟩ := q
  simp only at HPO
  go_enter Try.func27, Try.ntmps27
  go_wp2_with fail
  refine HPO.mono ?_
  clear HPO
  rintro e w1 ⟨rfl, hb1⟩
  have hb2 : Below w.heap.size w (w1.alloc (Obj.cells #[Value.int IntKind.i64 x, Value.int IntKind.i64 y] 49)) := hb1.alloc hb1.size _
  have b0 : (w1.alloc (Obj.cells #[Value.int IntKind.i64 x, Value.int IntKind.i64 y] 49)).cell? ⟨w1.heap.size, 0, none⟩ = some (.int .i64 x) := by simp
  have b1 : (w1.alloc (Obj.cells #[Value.int IntKind.i64 x, Value.int IntKind.i64 y] 49)).cell? ⟨w1.heap.size, 1, none⟩ = some (.int .i64 y) := by simp
  have HBK : Hid ((w1.alloc (Obj.cells #[Value.int IntKind.i64 x, Value.int IntKind.i64 y] 49)).heap[w1.heap.size]? = some (.cells #[.int .i64 x, .int .i64 y] 49 (0, 0)) ∧ w1.heap.size < (w1.alloc (Obj.cells #[Value.int IntKind.i64 x, Value.int IntKind.i64 y] 49)).heap.size) := ⟨heap_alloc_new w1 _, by simp⟩
  have HB2 : Hid (Below w.heap.size w (w1.alloc (Obj.cells #[Value.int IntKind.i64 x, Value.int IntKind.i64 y] 49))) := hb2
  clear hb1 hb2
  go_wp2_with fail
  generalize w1.heap.size = B at *
  generalize w1.alloc (Obj.cells #[Value.int IntKind.i64 x, Value.int IntKind.i64 y] 49) = W at *
  refine (isNowhere_any x y W).mono ?_
  rintro e w3 ⟨rfl, hb3⟩
  have HB3 : Hid (Below w.heap.size w w3) := HB2.out.trans (hb3.mono HB2.out.size)
  have c0 := keep hb3 HBK.out.2 b0
  have c1 := keep hb3 HBK.out.2 b1
  have HBK3 : Hid (w3.heap[B]? = some (.cells #[.int .i64 x, .int .i64 y] 49 (0, 0)) ∧ B < w3.heap.size) := ⟨(hb3.block B HBK.out.2).trans HBK.out.1, Nat.lt_of_lt_of_le HBK.out.2 hb3.size⟩
  clear hb3 b0 b1 HB2 HBK a0
  cases hnw : nwh (x, y) with
  | true =>
    have HF : Hid (stpP ps k = true ∧ liv ps (k + 1) = liv ps k) := ⟨by rw [HST.out.1, hnw]; rfl, HNW.out hnw⟩
    clear HST HTK HNW HLI0 hnw
    go_wp2
    go_ret
    exact ⟨by rw [HF.out.1]; rfl, fun _ => ⟨by rw [HF.out.2]; exact (HA.out.2.2.below HB3.out).mono (by omega), HA.out.1.below HB3.out⟩, HB3.out.mono (by omega)⟩
  | false =>
    have HST1 : Hid (stpP ps k = (rgt (x, y) && !tkn ps (x, y) k) ∧ True) := ⟨by rw [HST.out.1, hnw]; rfl, trivial⟩
    have HTK1 : Hid (anyT ps (x, y) (liv ps k x) = tkn ps (x, y) k ∧ True) := ⟨HTK.out hnw, trivial⟩
    have HLI : Hid (∀ s, liv ps (k + 1) s = if s = x then liv ps k s ++ [(k : Int)] else liv ps k s) := HLI0.out hnw
    clear HST HTK HNW HLI0 hnw
    go_wp2_with fail
    refine (right_any x y w3).mono ?_
    rintro e w4 ⟨rfl, hb4⟩
    have HB4 : Hid (Below w.heap.size w w4) := HB3.out.trans (hb4.mono HB3.out.size)
    have d0 := keep hb4 HBK3.out.2 c0
    have d1 := keep hb4 HBK3.out.2 c1
    have HBK4 : Hid (w4.heap[B]? = some (.cells #[.int .i64 x, .int .i64 y] 49 (0, 0)) ∧ B < w4.heap.size) := ⟨(hb4.block B HBK3.out.2).trans HBK3.out.1, Nat.lt_of_lt_of_le HBK3.out.2 hb4.size⟩
    clear hb4 c0 c1 HB3 HBK3
    cases hrg : rgt (x, y) with
    | false =>
      have HF : Hid (stpP ps k = false ∧ True) := ⟨by rw [HST1.out.1, hrg]; rfl, trivial⟩
      clear HST1 HTK1 hrg
      go_wp2
      go_ret
      exact ⟨by rw [HF.out.1]; rfl, fun h => (by rw [HF.out.1] at h; cases h), HB4.out.mono (by omega)⟩
    | true =>
      have HST2 : Hid (stpP ps k = (!tkn ps (x, y) k) ∧ True) := ⟨by rw [HST1.out.1, hrg]; rfl, trivial⟩
      clear HST1 hrg
      have HIT := isTaken_any R M a c ps x y n k w4 (HA.out.1.below HB4.out) (HA.out.2.1.below HB4.out (Nat.le_refl _)) (HA.out.2.2.below HB4.out) HRG.out.1 (by omega) hn2
      rw [HTK1.out.1] at HIT
      clear HTK1
      go_wp2_with fail
      refine HIT.mono ?_
      clear HIT
      rintro e V ⟨rfl, hb5⟩
      have HB5 : Hid (Below w.heap.size w V) := HB4.out.trans (hb5.mono HB4.out.size)
      have b0 := keep hb5 HBK4.out.2 d0
      have HBK5 : Hid (V.heap[B]? = some (.cells #[.int .i64 x, .int .i64 y] 49 (0, 0)) ∧ B < V.heap.size) := ⟨(hb5.block B HBK4.out.2).trans HBK4.out.1, Nat.lt_of_lt_of_le HBK4.out.2 hb5.size⟩
      clear hb5 d0 d1 HB4 HBK4
      cases htk : tkn ps (x, y) k with
      | true =>
        have HF : Hid (stpP ps k = false ∧ True) := ⟨by rw [HST2.out.1, htk]; rfl, trivial⟩
        clear HST2 htk
        go_wp2
        go_ret
        exact ⟨by rw [HF.out.1]; rfl, fun h => (by rw [HF.out.1] at h; cases h), HB5.out.mono (by omega)⟩
      | false =>
        have HSTT : Hid (stpP ps k = true ∧ True) := ⟨by rw [HST2.out.1, htk]; rfl, trivial⟩
        clear HST2 htk
        have HLV : Hid (Liv V M n (liv ps k)) := HA.out.2.2.below HB5.out
        have hAV := HA.out.1.below HB5.out
        have a1 := hAV.c1
        have HBL : Hid (M ≠ R ∧ V.heap[R]? = some (.cells #[.slice a ps.length c, .map (some M)] 64 (0, 0)) ∧ V.heap[B]? = some (.cells #[.int .i64 x, .int .i64 y] 49 (0, 0)) ∧ R < V.heap.size ∧ B < V.heap.size) := ⟨hMR, hAV.blk, HBK5.out.1, hAV.lt, HBK5.out.2⟩
        have hVd : Below V.heap.size V V.drew := ⟨rfl, rfl, rfl, Nat.le_refl _, fun _ _ => rfl⟩
        have HBV : Hid (Below M w V.drew) := (HB5.out.mono (by omega)).trans (hVd.mono (by have := HB5.out.size; omega))
        have hxr := HRG.out.1
        have hlx := HLN.out x
        have hVl := HLV.out.lt
        clear hAV HBK5 hMR HB5
        go_wp2_with fail
        all_goals
          refine wp_region_cut (S := fun W => W.cell? ⟨R, 1, none⟩ = some (.map (some M)) ∧ W.cell? ⟨B, 0, none⟩ = some (.int .i64 x)) 16 (by kernel_rfl) (by kernel_rfl) (by exact ⟨a1, b0⟩) (fun hHeld => ?_)
          refine wpAnyH_take (i := 0) (v := ?_) rfl (by kernel_rfl) (by kernel_rfl) (by kernel_rfl) (fun _ _ _ h => h) (Or.inl ⟨by rfl, ?_⟩) (by assumption) ?_
          rotate_left 1
          · (intro w hSw; (try dsimp only at hSw); go_simp; try (with_reducible rfl))
          try simp only [List.getElem_toArray, List.getElem_cons_zero, List.getElem_cons_succ, Act.put, List.setIfInBounds_toArray, List.set_cons_zero, List.set_cons_succ]
          refine wpAnyH_take (i := 1) (v := ?_) rfl (by kernel_rfl) (by kernel_rfl) (by kernel_rfl) (fun _ _ _ h => h) (Or.inl ⟨by rfl, ?_⟩) (by assumption) ?_
          rotate_left 1
          · (intro w hSw; (try dsimp only at hSw); go_simp; try (with_reducible rfl))
          try simp only [List.getElem_toArray, List.getElem_cons_zero, List.getElem_cons_succ, Act.put, List.setIfInBounds_toArray, List.set_cons_zero, List.set_cons_succ]
          refine wpAnyH_take (i := 2) (v := ?_) rfl (by kernel_rfl) (by kernel_rfl) (by kernel_rfl) (fun _ _ _ h => h) (Or.inl ⟨by rfl, ?_⟩) (by assumption) ?_
          rotate_left 1
          · (intro w hSw; (try dsimp only at hSw); go_simp; try (with_reducible rfl))
          try simp only [List.getElem_toArray, List.getElem_cons_zero, List.getElem_cons_succ, Act.put, List.setIfInBounds_toArray, List.set_cons_zero, List.set_cons_succ]
          refine wpAnyH_take (i := 3) (v := ?_) rfl (by kernel_rfl) (by kernel_rfl) (by kernel_rfl) (fun _ _ _ h => h) (Or.inl ⟨by rfl, ?_⟩) (by assumption) ?_
          rotate_left 1
          · (intro w hSw; (try dsimp only at hSw); go_simp; try (with_reducible rfl))
          try simp only [List.getElem_toArray, List.getElem_cons_zero, List.getElem_cons_succ, Act.put, List.setIfInBounds_toArray, List.set_cons_zero, List.set_cons_succ]
          refine wpAnyH_take (i := 4) (v := ?_) rfl (by kernel_rfl) (by kernel_rfl) (by kernel_rfl) (fun _ _ _ h => h) (Or.inl ⟨by rfl, ?_⟩) (by assumption) ?_
          rotate_left 1
          · (intro w hSw; (try dsimp only at hSw); go_simp; try (with_reducible rfl))
          try simp only [List.getElem_toArray, List.getElem_cons_zero, List.getElem_cons_succ, Act.put, List.setIfInBounds_toArray, List.set_cons_zero, List.set_cons_succ]
          refine wpAnyH_take (i := 5) (v := ?_) rfl (by kernel_rfl) (by kernel_rfl) (by kernel_rfl) (fun _ _ _ h => h) (Or.inl ⟨by rfl, ?_⟩) (by assumption) ?_
          rotate_left 1
          · (intro w hSw; (try dsimp only at hSw); go_simp; try (with_reducible rfl))
          try simp only [List.getElem_toArray, List.getElem_cons_zero, List.getElem_cons_succ, Act.put, List.setIfInBounds_toArray, List.set_cons_zero, List.set_cons_succ]
          refine wpAnyH_take (i := 6) (v := ?_) rfl (by kernel_rfl) (by kernel_rfl) (by kernel_rfl) (fun _ _ _ h => h) (Or.inl ⟨by rfl, ?_⟩) (by assumption) ?_
          rotate_left 1
          · (intro w hSw; (try dsimp only at hSw); go_simp; try (with_reducible rfl))
          try simp only [List.getElem_toArray, List.getElem_cons_zero, List.getElem_cons_succ, Act.put, List.setIfInBounds_toArray, List.set_cons_zero, List.set_cons_succ]
          refine wpAnyH_take (i := 7) (v := ?_) rfl (by kernel_rfl) (by kernel_rfl) (by kernel_rfl) (fun _ _ _ h => h) (Or.inl ⟨by rfl, ?_⟩) (by assumption) ?_
          rotate_left 1
          · (intro w hSw; (try dsimp only at hSw); go_simp; try (with_reducible rfl))
          try simp only [List.getElem_toArray, List.getElem_cons_zero, List.getElem_cons_succ, Act.put, List.setIfInBounds_toArray, List.set_cons_zero, List.set_cons_succ]
          refine wpAnyH_take (i := 8) (v := ?_) rfl (by kernel_rfl) (by kernel_rfl) (by kernel_rfl) (fun _ _ _ h => h) (Or.inl ⟨by rfl, ?_⟩) (by assumption) ?_
          rotate_left 1
          · (intro w hSw; (try dsimp only at hSw); go_simp; try (with_reducible rfl))
          try simp only [List.getElem_toArray, List.getElem_cons_zero, List.getElem_cons_succ, Act.put, List.setIfInBounds_toArray, List.set_cons_zero, List.set_cons_succ]
          refine wpAnyH_take (i := 9) (v := ?_) rfl (by kernel_rfl) (by kernel_rfl) (by kernel_rfl) (fun _ _ _ h => h) (Or.inl ⟨by rfl, ?_⟩) (by assumption) ?_
          rotate_left 1
          · (intro w hSw; (try dsimp only at hSw); go_simp; try (with_reducible rfl))
          try simp only [List.getElem_toArray, List.getElem_cons_zero, List.getElem_cons_succ, Act.put, List.setIfInBounds_toArray, List.set_cons_zero, List.set_cons_succ]
          refine wpAnyH_take (i := 10) (v := ?_) rfl (by kernel_rfl) (by kernel_rfl) (by kernel_rfl) (fun _ _ _ h => h) (Or.inl ⟨by rfl, ?_⟩) (by assumption) ?_
          rotate_left 1
          · (intro w hSw; (try dsimp only at hSw); go_simp; try (with_reducible rfl))
          try simp only [List.getElem_toArray, List.getElem_cons_zero, List.getElem_cons_succ, Act.put, List.setIfInBounds_toArray, List.set_cons_zero, List.set_cons_succ]
          refine wpAnyH_take (i := 11) (v := ?_) rfl (by kernel_rfl) (by kernel_rfl) (by kernel_rfl) (fun _ _ _ h => h) (Or.inl ⟨by rfl, ?_⟩) (by assumption) ?_
          rotate_left 1
          · (intro w hSw; (try dsimp only at hSw); go_simp; try (with_reducible rfl))
          try simp only [List.getElem_toArray, List.getElem_cons_zero, List.getElem_cons_succ, Act.put, List.setIfInBounds_toArray, List.set_cons_zero, List.set_cons_succ]
          refine wpAnyH_take (i := 13) (v := ?_) rfl (by kernel_rfl) (by kernel_rfl) (by kernel_rfl) (fun _ _ _ h => h) (Or.inl ⟨by rfl, ?_⟩) (by assumption) ?_
          rotate_left 1
          · (intro w hSw; (try dsimp only at hSw); go_simp; try (with_reducible rfl))
          try simp only [List.getElem_toArray, List.getElem_cons_zero, List.getElem_cons_succ, Act.put, List.setIfInBounds_toArray, List.set_cons_zero, List.set_cons_succ]
          refine wpAnyH_ready (rs := [12, 14]) (by kernel_rfl) (by simp) ?_
          refine AllReadyH.cons rfl (fun K hK => ?_) (AllReadyH.cons rfl (fun K hK => ?_) AllReadyH.nil)
          · obtain ⟨v, hlk, hov, hlen, hput⟩ := (HLV.out.below hVd).put hn2 x (WalkArith.wf_i64 hxr)
            obtain ⟨va, vc, rfl⟩ := hov.form
            have hlk2 : Sem.run Try.prog (Instr.lookup 61 (.map (some M)) (.int .i64 x) false) V.drew = .ok (.slice va (liv ps k x).length vc) V.drew := hlk
            have HPUT : Hid _ := hput
            have HOV : Hid (OVI (V.drew.alloc (Obj.cells #[.int .i64 k] 3)) (M + 1) (.slice va (liv ps k x).length vc) (liv ps k x) ∧ M ≠ R ∧ (V.drew.alloc (Obj.cells #[.int .i64 k] 3)).heap[R]? = some (.cells #[.slice a ps.length c, .map (some M)] 64 (0, 0)) ∧ (V.drew.alloc (Obj.cells #[.int .i64 k] 3)).heap[B]? = some (.cells #[.int .i64 x, .int .i64 y] 49 (0, 0))) := ⟨hov.below ((Below.refl _ _).alloc (Nat.le_refl _) _), HBL.out.1, (Below.heap_alloc _ _ _ (by exact HBL.out.2.2.2.1)).trans HBL.out.2.1, (Below.heap_alloc _ _ _ (by exact HBL.out.2.2.2.2)).trans HBL.out.2.2.1⟩
            clear hlk hput hov
            go_simp
            refine hK.out _ _ (by exact ⟨a1, b0⟩) (fun hHeld => ?_)
            clear hK K
            try simp only [List.getElem_toArray, List.getElem_cons_zero, List.getElem_cons_succ, Act.put, List.setIfInBounds_toArray, List.set_cons_zero, List.set_cons_succ]
            refine wpAnyH_ready (rs := [14]) (by kernel_rfl) (by simp) ?_
            refine AllReadyH.cons rfl (fun K hK => ?_) AllReadyH.nil
            go_simp
            refine hK.out _ _ (by exact ⟨keepA _ (by exact HBL.out.2.2.2.1) a1, keepA _ (by exact HBL.out.2.2.2.2) b0⟩) (fun hHeld => ?_)
            clear hK K hlk2
            try simp only [List.getElem_toArray, List.getElem_cons_zero, List.getElem_cons_succ, Act.put, List.setIfInBounds_toArray, List.set_cons_zero, List.set_cons_succ]
            refine wpAnyH_ready (rs := [15]) (by kernel_rfl) (by simp) ?_
            refine AllReadyH.cons rfl (fun K hK => ?_) AllReadyH.nil
            refine wanted_step8 rfl (wp_append_i1 (.tmp 34) (.tmp 36) rfl (M + 1) (.slice va (liv ps k x).length vc) (liv ps k x) (by simp [Act.eval]) HOV.out.1 V.drew.heap.size (k : Int) (by simp [Act.eval]) (by simp) (by omega) (by omega) (by omega) (by simp; omega) ?_)
            intro v1 w1 hov1 hg1 hat1
            have hg01 : V.drew.grownBy w1 (Value.slice va (liv ps k x).length vc).ownBlock := (World.grownBy_alloc _ _ _).trans hg1
            obtain ⟨w2, hr2, hl2, hg2⟩ := HPUT.out w1 v1 k hg01 hov1 (hat1.imp id (fun h => ⟨_, h, by simp⟩))
            obtain ⟨va1, vc1, hv1⟩ := hov1.form
            have hln : (liv ps k x ++ [(k : Int)]).length = (liv ps k x).length + 1 := by simp
            rw [hln] at hv1
            clear hln
            subst hv1
            have hne := HOV.out.2
            have A1 := grown_blkI hg1 hne.2.1 (HOV.out.1.blk_ne hne.2.1 (by decide))
            have B1 := grown_blkI hg1 hne.2.2 (HOV.out.1.blk_ne hne.2.2 (by decide))
            have hMR : M ≠ R := hne.1
            have HEND : Hid (Liv w2 M (n + 1) (liv ps (k + 1)) ∧ Atl w2 R M a ps.length c ∧ Below M w w2) := by
              refine ⟨?_, ⟨grown_blkI hg2 A1 (by simpa using fun e : R = M => hMR e.symm)⟩, HBV.out.trans (set_below hg01 hg2 (Nat.le_of_lt HLV.out.lt) HOV.out.1)⟩
              have he : (fun t => if t = x then liv ps k x ++ [(k : Int)] else liv ps k t) = liv ps (k + 1) := by
                funext t
                rw [HLI.out t]
                by_cases ht : t = x
                · rw [if_pos ht, if_pos ht, ht]
                · rw [if_neg ht, if_neg ht]
              rw [← he]
              exact hl2
            have hr2' : Sem.run Try.prog (Instr.mapUpdate 61 (.map (some M)) (.int .i64 x) (.slice va1 ((liv ps k x).length + 1) vc1)) w1 = .ok () w2 := hr2
            refine hK.out _ _ (by exact ⟨blk_cellI A1 rfl, blk_cellI B1 rfl⟩) (fun hHeld => ?_)
            clear hK K
            try simp only [List.getElem_toArray, List.getElem_cons_zero, List.getElem_cons_succ, Act.put, List.setIfInBounds_toArray, List.set_cons_zero, List.set_cons_succ]
            refine wpAnyH_done (by kernel_rfl) ?_ _
            simp only [cutQ, List.drop_succ_cons, List.drop_zero]
            clear hHeld hl2 hg2 hg1 hov1 hat1 hg01 hr2
            go_wp2
            go_ret
            exact ⟨by rw [HSTT.out.1]; rfl, fun _ => ⟨HEND.out.1, HEND.out.2.1⟩, HEND.out.2.2⟩
          · have hVa : Below V.heap.size V (V.drew.alloc (Obj.cells #[.int .i64 k] 3)) := hVd.alloc (Nat.le_refl _) _
            obtain ⟨v, hlk, hov, hlen, hput⟩ := (HLV.out.below hVa).put hn2 x (WalkArith.wf_i64 hxr)
            obtain ⟨va, vc, rfl⟩ := hov.form
            have hlk2 : Sem.run Try.prog (Instr.lookup 61 (.map (some M)) (.int .i64 x) false) (V.alloc (Obj.cells #[.int .i64 k] 3)).drew = .ok (.slice va (liv ps k x).length vc) (V.alloc (Obj.cells #[.int .i64 k] 3)).drew := hlk
            have HPUT : Hid _ := hput
            have HOV : Hid (OVI (V.drew.alloc (Obj.cells #[.int .i64 k] 3)) (M + 1) (.slice va (liv ps k x).length vc) (liv ps k x) ∧ M ≠ R ∧ (V.drew.alloc (Obj.cells #[.int .i64 k] 3)).heap[R]? = some (.cells #[.slice a ps.length c, .map (some M)] 64 (0, 0)) ∧ (V.drew.alloc (Obj.cells #[.int .i64 k] 3)).heap[B]? = some (.cells #[.int .i64 x, .int .i64 y] 49 (0, 0))) := ⟨hov, HBL.out.1, (Below.heap_alloc _ _ _ (by exact HBL.out.2.2.2.1)).trans HBL.out.2.1, (Below.heap_alloc _ _ _ (by exact HBL.out.2.2.2.2)).trans HBL.out.2.2.1⟩
            clear hlk hput hov
            go_simp
            refine hK.out _ _ (by exact ⟨keepA _ (by exact HBL.out.2.2.2.1) a1, keepA _ (by exact HBL.out.2.2.2.2) b0⟩) (fun hHeld => ?_)
            clear hK K
            try simp only [List.getElem_toArray, List.getElem_cons_zero, List.getElem_cons_succ, Act.put, List.setIfInBounds_toArray, List.set_cons_zero, List.set_cons_succ]
            refine wpAnyH_ready (rs := [12]) (by kernel_rfl) (by simp) ?_
            refine AllReadyH.cons rfl (fun K hK => ?_) AllReadyH.nil
            go_simp
            refine hK.out _ _ (by exact hHeld) (fun hHeld => ?_)
            clear hK K hlk2
            try simp only [List.getElem_toArray, List.getElem_cons_zero, List.getElem_cons_succ, Act.put, List.setIfInBounds_toArray, List.set_cons_zero, List.set_cons_succ]
            refine wpAnyH_ready (rs := [15]) (by kernel_rfl) (by simp) ?_
            refine AllReadyH.cons rfl (fun K hK => ?_) AllReadyH.nil
            refine wanted_step8 rfl (wp_append_i1 (.tmp 34) (.tmp 36) rfl (M + 1) (.slice va (liv ps k x).length vc) (liv ps k x) (by simp [Act.eval]) HOV.out.1 V.drew.heap.size (k : Int) (by simp [Act.eval]) (by simp) (by omega) (by omega) (by omega) (by simp; omega) ?_)
            intro v1 w1 hov1 hg1 hat1
            have hg01 : (V.drew.alloc (Obj.cells #[.int .i64 k] 3)).grownBy w1 (Value.slice va (liv ps k x).length vc).ownBlock := hg1
            obtain ⟨w2, hr2, hl2, hg2⟩ := HPUT.out w1 v1 k hg01 hov1 (hat1.imp id (fun h => ⟨_, h, by simp⟩))
            obtain ⟨va1, vc1, hv1⟩ := hov1.form
            have hln : (liv ps k x ++ [(k : Int)]).length = (liv ps k x).length + 1 := by simp
            rw [hln] at hv1
            clear hln
            subst hv1
            have hne := HOV.out.2
            have A1 := grown_blkI hg1 hne.2.1 (HOV.out.1.blk_ne hne.2.1 (by decide))
            have B1 := grown_blkI hg1 hne.2.2 (HOV.out.1.blk_ne hne.2.2 (by decide))
            have hMR : M ≠ R := hne.1
            have HEND : Hid (Liv w2 M (n + 1) (liv ps (k + 1)) ∧ Atl w2 R M a ps.length c ∧ Below M w w2) := by
              refine ⟨?_, ⟨grown_blkI hg2 A1 (by simpa using fun e : R = M => hMR e.symm)⟩, HBV.out.trans (set_below ((World.grownBy_alloc V.drew _ _).trans hg01) hg2 (Nat.le_of_lt HLV.out.lt) HOV.out.1)⟩
              have he : (fun t => if t = x then liv ps k x ++ [(k : Int)] else liv ps k t) = liv ps (k + 1) := by
                funext t
                rw [HLI.out t]
                by_cases ht : t = x
                · rw [if_pos ht, if_pos ht, ht]
                · rw [if_neg ht, if_neg ht]
              rw [← he]
              exact hl2
            have hr2' : Sem.run Try.prog (Instr.mapUpdate 61 (.map (some M)) (.int .i64 x) (.slice va1 ((liv ps k x).length + 1) vc1)) w1 = .ok () w2 := hr2
            refine hK.out _ _ (by exact ⟨blk_cellI A1 rfl, blk_cellI B1 rfl⟩) (fun hHeld => ?_)
            clear hK K
            try simp only [List.getElem_toArray, List.getElem_cons_zero, List.getElem_cons_succ, Act.put, List.setIfInBounds_toArray, List.set_cons_zero, List.set_cons_succ]
            refine wpAnyH_done (by kernel_rfl) ?_ _
            simp only [cutQ, List.drop_succ_cons, List.drop_zero]
            clear hHeld hl2 hg2 hg1 hov1 hat1 hg01 hr2
            go_wp2
            go_ret
            exact ⟨by rw [HSTT.out.1]; rfl, fun _ => ⟨HEND.out.1, HEND.out.2.1⟩, HEND.out.2.2⟩
end Go.Proofs.Ytnelpioadpdphaa
