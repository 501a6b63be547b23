/-
  The model's SuperRead. (Typed by wip/mkss8.py.)
-/
import Derived.Test.YthihdnmdmfdhdaaMpSm
import Derived.Deep.RegionWith
namespace Go.Proofs.Ythihdnmdmfdhdaa
open Go.RowKit
set_option linter.unusedVariables false
set_option linter.unusedSimpArgs false

theorem srB_head {zs : List Int} (hz : ∀ z ∈ zs, 0 ≤ z ∧ z ≤ 255) (h : zs.getD 0 0 ≠ 83) : srB zs = false := by
  cases hs : srB zs
  · rfl
  · exfalso
    unfold srB at hs
    simp only [Bool.and_eq_true, decide_eq_true_eq] at hs
    obtain ⟨hl, hb, hm⟩ := hs
    have hA : sbA (epo zs) (rdP zs) = sbL (epo zs) (rdP zs) := by unfold sbA; rw [hb]; rfl
    rw [hA] at hm
    have hE : 0 ≤ epo zs ∧ epo zs ≤ 60000 := by
      unfold sbB at hb
      simp only [Bool.and_eq_true, decide_eq_true_eq] at hb
      exact hb.1
    have hr : ∀ z ∈ sbL (epo zs) (rdP zs), 0 ≤ z ∧ z ≤ 255 := by
      have hmb : mapB (rdP zs) = true := by
        unfold sbB at hb
        simp only [Bool.and_eq_true] at hb
        exact hb.2
      have hln := mapB_len _ hmb
      intro z hz'
      unfold sbL sbH at hz'
      simp only [List.mem_append, List.mem_cons, List.not_mem_nil, or_false, List.mem_replicate] at hz'
      rcases hz' with (h1 | h1) | h1
      · omega
      · unfold bts at h1
        simp only [List.mem_flatMap, List.mem_cons, List.not_mem_nil, or_false] at h1
        obtain ⟨p, hp, h2⟩ := h1
        have := mapB_rng _ hmb p hp
        unfold bP at this
        omega
      · omega
    have := sm8_head hr hz hm
    exact h (by rw [← this]; rfl)
theorem srB_nil {zs : List Int} (h : zs.getD 3 0 < 1) : srB zs = false := by
  have : rdP zs = [] := by
    unfold rdP
    have : mny zs = 0 := by unfold mny; omega
    rw [this]; rfl
  unfold srB
  rw [this]
  have : sbB (epo zs) [] = false := (sb_no _ _ (.inr rfl)).1
  rw [this]
  simp

set_option maxRecDepth 20000 in
set_option maxHeartbeats 16000000 in
theorem specSuperRead_any (a : Option Addr) (c : Nat) (zs : List Int) (w : World) (hb : Byt w a zs) (hn : zs.length ≤ 1048576) :
    Calls Try.prog 32 #[.slice a zs.length c] w fun r w' => (∃ a c, r = .returned (.tuple #[.int .i64 (srE zs), .agg #[.slice a (srP zs).length c], .bool (srB zs)]) ∧ MinP w' w.heap.size w'.heap.size a c (srP zs)) ∧ Below w.heap.size w w' := by
  have HW : Hid (Below w.heap.size w (w.alloc (Obj.cells #[.slice none 0 0] 29))) := (Below.refl _ _).alloc (Nat.le_refl _) _
  by_cases hl : zs.length = 256
  · have HB : Hid (Byt w a zs) := hb
    obtain ⟨b, off, rfl, hbw, hcc⟩ := hb.2 (by omega)
    have HCC : Hid (∀ i, i < 256 → w.cell? ⟨b, off + i, none⟩ = some (.int .u8 (zs.getD i 0))) := fun i hi => hcc i (by omega)
    have c0 : (w.alloc (Obj.cells #[.slice none 0 0] 29)).cell? ⟨b, off, none⟩ = some (.int .u8 (zs.getD 0 0)) := keepA _ hbw (hcc 0 (by omega))
    have c1 : (w.alloc (Obj.cells #[.slice none 0 0] 29)).cell? ⟨b, off + 1, none⟩ = some (.int .u8 (zs.getD 1 0)) := keepA _ hbw (hcc 1 (by omega))
    have c2 : (w.alloc (Obj.cells #[.slice none 0 0] 29)).cell? ⟨b, off + 2, none⟩ = some (.int .u8 (zs.getD 2 0)) := keepA _ hbw (hcc 2 (by omega))
    have c30 : w.cell? ⟨b, off + 3, none⟩ = some (.int .u8 (zs.getD 3 0)) := hcc 3 (by omega)
    have c3 : (w.alloc (Obj.cells #[.slice none 0 0] 29)).cell? ⟨b, off + 3, none⟩ = some (.int .u8 (zs.getD 3 0)) := keepA _ hbw c30
    have r0 := getD_rng hb.1 0
    have r1 := getD_rng hb.1 1
    have r2 := getD_rng hb.1 2
    have r3 := getD_rng hb.1 3
    have t0 : (w.alloc (Obj.cells #[.slice none 0 0] 29)).cell? ⟨w.heap.size, 0, none⟩ = some (.slice none 0 0) := by simp
    have f0 : (w.alloc (Obj.cells #[.slice none 0 0] 29)).frozen? ⟨w.heap.size, 0, none⟩ = false := by simp
    have tl : w.heap.size < (w.alloc (Obj.cells #[.slice none 0 0] 29)).heap.size := by simp
    have HEP : Hid (epo zs = zs.getD 1 0 * 256 + zs.getD 2 0 ∧ mny zs = (zs.getD 3 0).toNat ∧ zs.length = 256) := ⟨rfl, rfl, hl⟩
    have HNO : Hid (zs.getD 0 0 ≠ 83 ∨ zs.getD 3 0 < 1 ∨ 16 < zs.getD 3 0 → srB zs = false ∧ srE zs = 0 ∧ srP zs = []) := by
      intro h
      have : srB zs = false := by
        rcases h with h | h | h
        · exact srB_head hb.1 h
        · exact srB_nil h
        · exact srB_len (fun h2 => by omega)
      exact ⟨this, sr_no this⟩
    have HYS : Hid (zs.getD 3 0 ≤ 16 → srB zs = (sbB (epo zs) (rdP zs) && sm8 (sbA (epo zs) (rdP zs)) zs)) := fun h => srB_in ⟨hl, h⟩
    have HRG : Hid (∀ i, 0 ≤ zs.getD i 0 ∧ zs.getD i 0 ≤ 255) := fun i => getD_rng hb.1 i
    have HDR : Hid (∀ i, (zs.drop 4).getD i 0 = zs.getD (4 + i) 0) := fun i => by simp [List.getD_eq_getElem?_getD, List.getElem?_drop]
    rw [hl]
    clear hcc hb hl hn
    generalize zs.getD 0 0 = q at *
    generalize zs.getD 1 0 = x at *
    generalize zs.getD 2 0 = y at *
    generalize zs.getD 3 0 = z at *
    by_cases hbad : q ≠ 83 ∨ z < 1 ∨ 16 < z
    · have HF : Hid (srB zs = false ∧ srE zs = 0 ∧ srP zs = []) := HNO.out hbad
      have key : ((q != 83) = true) ∨ ((q != 83) = false ∧ z < 1) ∨ ((q != 83) = false ∧ 1 ≤ z ∧ 16 < z) := by
        by_cases h83 : q = 83
        · have hq : (q != 83) = false := by rw [h83]; rfl
          rcases Int.lt_or_le z 1 with h | h
          · exact .inr (.inl ⟨hq, h⟩)
          · exact .inr (.inr ⟨hq, h, by rcases hbad with h9 | h9 | h9 <;> omega⟩)
        · exact .inl (by rw [bne_iff_ne]; exact h83)
      clear hbad HNO HYS
      rcases key with h | ⟨h, h2⟩ | ⟨h, h2, h3⟩
      all_goals
        go_enter Try.func32, Try.ntmps32
        go_wp2
        refine bodyPost_ret (v := .tuple #[.int .i64 0, .agg #[.slice none 0 0], .bool false]) (by simp [results, Try.results32, go_sem]) rfl ⟨⟨none, 0, by rw [HF.out.1, HF.out.2.1, HF.out.2.2]; rfl, .inl ⟨rfl, HF.out.2.2, rfl⟩⟩, ?_⟩
        first | exact HW.out | exact HW.out.setCell (p := ⟨w.heap.size, 0, none⟩) (by simp) _
    · have hq : (q != 83) = false := by
        have : q = 83 := by rcases Classical.em (q = 83) with h | h
                            · exact h
                            · exact absurd (.inl h) hbad
        rw [this]; rfl
      have hz1 : ¬ z < 1 := fun h => hbad (.inr (.inl h))
      have hz2 : ¬ 16 < z := fun h => hbad (.inr (.inr h))
      have HSB : Hid (srB zs = (sbB (epo zs) (rdP zs) && sm8 (sbA (epo zs) (rdP zs)) zs) ∧ True) := ⟨HYS.out (by omega), trivial⟩
      clear hbad HNO HYS
      obtain ⟨m, rfl⟩ := Int.eq_ofNat_of_zero_le r3.1
      have hm : m ≤ 16 ∧ 1 ≤ m := by omega
      have HRP : Hid (rdP zs = pl2 (zs.drop 4) m ∧ (pl2 (zs.drop 4) m).length ≤ 16) := ⟨by unfold rdP; rw [HEP.out.2.1]; rfl, by rw [pl2_len]; exact hm.1⟩
      have hwx : IntKind.i64.wrap x = x := IntWalk.i64_in _ (by omega)
      have hwy : IntKind.i64.wrap y = y := IntWalk.i64_in _ (by omega)
      have hsh : IntKind.i64.wrap (x * 256) = x * 256 := IntWalk.i64_in _ (by omega)
      go_enter Try.func32, Try.ntmps32
      go_wp2_with fail
      go_quiet (fail)
      have hbd : Below (w.alloc (Obj.cells #[.slice none 0 0] 29)).heap.size (w.alloc (Obj.cells #[.slice none 0 0] 29)) ((w.alloc (Obj.cells #[.slice none 0 0] 29)).drewN nq) := ⟨rfl, rfl, rfl, Nat.le_refl _, fun _ _ => rfl⟩
      have t1 := keep hbd tl t0
      have f1 := (hbd.frozen (p := ⟨w.heap.size, 0, none⟩) tl).trans f0
      have HW0 : Hid (Below w.heap.size w ((w.alloc (Obj.cells #[.slice none 0 0] 29)).drewN nq)) := HW.out.trans (hbd.mono HW.out.size)
      have tl1 : w.heap.size < ((w.alloc (Obj.cells #[.slice none 0 0] 29)).drewN nq).heap.size := tl
      clear hbd t0 f0 tl c0 c1 c2 c3 HW hsh hwx hwy hz1 hz2 hq
      generalize (w.alloc (Obj.cells #[.slice none 0 0] 29)).drewN nq = W0 at *
      have HEP2 : Hid (epo zs = x * 256 + y ∧ True) := ⟨HEP.out.1, trivial⟩
      have hxe : 0 ≤ x * 256 + y ∧ x * 256 + y ≤ 70000 := by omega
      generalize x * 256 + y = e at *
      go_wp2
      have x0 : (W0.alloc (Obj.cells #[.slice none 0 0] 29)).cell? ⟨W0.heap.size, 0, none⟩ = some (.slice none 0 0) := by simp
      have x1 : (W0.alloc (Obj.cells #[.slice none 0 0] 29)).frozen? ⟨W0.heap.size, 0, none⟩ = false := by simp
      have HX0 : Hid (Below W0.heap.size W0 (W0.alloc (Obj.cells #[.slice none 0 0] 29)) ∧ W0.heap.size < (W0.alloc (Obj.cells #[.slice none 0 0] 29)).heap.size ∧ (W0.alloc (Obj.cells #[.slice none 0 0] 29)).cell? ⟨W0.heap.size, 0, none⟩ = some (.slice none 0 0) ∧ (W0.alloc (Obj.cells #[.slice none 0 0] 29)).frozen? ⟨W0.heap.size, 0, none⟩ = false) := ⟨(Below.refl _ _).alloc (Nat.le_refl _) _, by simp, x0, x1⟩
      clear x0 x1
      generalize W0.alloc (Obj.cells #[.slice none 0 0] 29) = W1 at *
      generalize hXe : W0.heap.size = X at *
      have HXE : Hid (W0.heap.size = X ∧ True) := ⟨hXe, trivial⟩
      clear hXe
      have HP : Hid (∀ k, pl2 (zs.drop 4) k ++ [(zs.getD (4 + 2 * k) 0, zs.getD (5 + 2 * k) 0)] = pl2 (zs.drop 4) (k + 1)) := fun k => by
        have h1 := HDR.out (2 * k)
        have h2 := HDR.out (2 * k + 1)
        rw [show 4 + (2 * k + 1) = 5 + 2 * k from by omega] at h2
        rw [← h1, ← h2]; rfl
      have HPL : Hid (∀ k, (pl2 (zs.drop 4) k).length = k) := pl2_len (zs.drop 4)
      have HP0 : Hid (pl2 (zs.drop 4) 0 = [] ∧ True) := ⟨rfl, trivial⟩
      clear HDR
      go_loopw [7] (fun i wr => ∃ (k : Nat) (va : Option Addr) (vc : Nat), k ≤ m ∧ i = .int .i64 k ∧ OVp wr (X + 1) (.slice va (pl2 (zs.drop 4) k).length vc) (pl2 (zs.drop 4) k) ∧ Below X W0 wr ∧ wr.cell? ⟨X, 0, none⟩ = some (.slice va (pl2 (zs.drop 4) k).length vc) ∧ wr.frozen? ⟨X, 0, none⟩ = false ∧ X < wr.heap.size) (fun i _ => m - (intOf i).toNat)
      case atStart => exact ⟨0, none, 0, Nat.zero_le _, rfl, by rw [HP0.out.1]; exact OVp.nil _ _, HX0.out.1, by rw [HP0.out.1]; exact HX0.out.2.2.1, HX0.out.2.2.2, HX0.out.2.1⟩
      case round =>
        obtain ⟨k, va, vc, hk, rfl, hov, hbel, v0, g0, hXr⟩ := hrel
        have HOV : Hid (OVp wr (X + 1) (.slice va (pl2 (zs.drop 4) k).length vc) (pl2 (zs.drop 4) k)) := hov
        have HR : Hid (Below X W0 wr) := hbel
        have hbwr : Below w.heap.size w wr := HW0.out.trans (hbel.mono (by omega))
        have d3 := keep hbwr hbw c30
        have hpl := HPL.out k
        clear hov hbel HX0
        by_cases hlt : k < m
        · have c00 := HCC.out (4 + 2 * k) (by omega)
          have c01 := HCC.out (5 + 2 * k) (by omega)
          have c0 := keep hbwr hbw c00
          have c1 := keep hbwr hbw c01
          have hx := HRG.out (4 + 2 * k)
          have hy := HRG.out (5 + 2 * k)
          have HE : Hid (pl2 (zs.drop 4) k ++ [(zs.getD (4 + 2 * k) 0, zs.getD (5 + 2 * k) 0)] = pl2 (zs.drop 4) (k + 1) ∧ True) := ⟨HP.out k, trivial⟩
          have hbr : b < wr.heap.size := by have := hbwr.size; omega
          clear hbwr HCC HRG
          generalize zs.getD (4 + 2 * k) 0 = x at *
          generalize zs.getD (5 + 2 * k) 0 = y at *
          generalize pl2 (zs.drop 4) k = qs at *
          have hql : qs.length ≤ 1000 := by omega
          clear hpl
          have hwx : IntKind.i64.wrap x = x := IntWalk.i64_in _ (by omega)
          have hwy : IntKind.i64.wrap y = y := IntWalk.i64_in _ (by omega)
          have hw2 : IntKind.i64.wrap (2 * (k : Int)) = 2 * (k : Int) := IntWalk.i64_in _ (by omega)
          have hw4 : IntKind.i64.wrap (4 + 2 * (k : Int)) = ((4 + 2 * k : Nat) : Int) := by rw [IntWalk.i64_in _ (by omega)]; omega
          have hw5 : IntKind.i64.wrap (5 + 2 * (k : Int)) = ((5 + 2 * k : Nat) : Int) := by rw [IntWalk.i64_in _ (by omega)]; omega
          have hi4 : (0 : Int) ≤ 4 + 2 * (k : Int) ∧ 4 + 2 * (k : Int) < 256 := by omega
          have hi5 : (0 : Int) ≤ 5 + 2 * (k : Int) ∧ 5 + 2 * (k : Int) < 256 := by omega
          have ht4 : (4 + 2 * (k : Int)).toNat = 4 + 2 * k := by omega
          have ht5 : (5 + 2 * (k : Int)).toNat = 5 + 2 * k := by omega
          have hn4 : 4 + 2 * k < 256 := by omega
          have hn5 : 5 + 2 * k < 256 := by omega
          have HXY : Hid (rP (x, y)) := ⟨by simp only; omega, by simp only; omega⟩
          have HAL : Hid (Below wr.heap.size wr (wr.alloc (Obj.cells #[.int .i64 x, .int .i64 y] 38))) := (Below.refl _ _).alloc (Nat.le_refl _) _
          go_wp2
          refine wp_region_cut (S := fun W => W.cell? ⟨X, 0, none⟩ = some (.slice va qs.length vc) ∧ W.cell? ⟨b, off + (4 + 2 * k), none⟩ = some (.int .u8 x) ∧ W.cell? ⟨b, off + (5 + 2 * k), none⟩ = some (.int .u8 y)) 20 (by kernel_rfl) (by kernel_rfl) (by exact ⟨v0, c0, c1⟩) (fun hHeld => ?_)
          refine wpAnyH_take (i := 0) (v := ?_) rfl (by kernel_rfl) (by kernel_rfl) (by kernel_rfl) (fun _ _ _ h => h) (Or.inl ⟨by rfl, ?_⟩) (by assumption) ?_
          rotate_left 1
          · (intro w hSw; (try dsimp only at hSw); go_simp; try (with_reducible rfl))
          try simp only [List.getElem_toArray, List.getElem_cons_zero, List.getElem_cons_succ, Act.put, List.setIfInBounds_toArray, List.set_cons_zero, List.set_cons_succ]
          refine wpAnyH_take (i := 1) (v := ?_) rfl (by kernel_rfl) (by kernel_rfl) (by kernel_rfl) (fun _ _ _ h => h) (Or.inl ⟨by rfl, ?_⟩) (by assumption) ?_
          rotate_left 1
          · (intro w hSw; (try dsimp only at hSw); go_simp; try (with_reducible rfl))
          try simp only [List.getElem_toArray, List.getElem_cons_zero, List.getElem_cons_succ, Act.put, List.setIfInBounds_toArray, List.set_cons_zero, List.set_cons_succ]
          refine wpAnyH_take (i := 2) (v := ?_) rfl (by kernel_rfl) (by kernel_rfl) (by kernel_rfl) (fun _ _ _ h => h) (Or.inl ⟨by rfl, ?_⟩) (by assumption) ?_
          rotate_left 1
          · (intro w hSw; (try dsimp only at hSw); go_simp; try (with_reducible rfl))
          try simp only [List.getElem_toArray, List.getElem_cons_zero, List.getElem_cons_succ, Act.put, List.setIfInBounds_toArray, List.set_cons_zero, List.set_cons_succ]
          refine wpAnyH_take (i := 3) (v := ?_) rfl (by kernel_rfl) (by kernel_rfl) (by kernel_rfl) (fun _ _ _ h => h) (Or.inl ⟨by rfl, ?_⟩) (by assumption) ?_
          rotate_left 1
          · (intro w hSw; (try dsimp only at hSw); go_simp; try (with_reducible rfl))
          try simp only [List.getElem_toArray, List.getElem_cons_zero, List.getElem_cons_succ, Act.put, List.setIfInBounds_toArray, List.set_cons_zero, List.set_cons_succ]
          refine wpAnyH_take (i := 4) (v := ?_) rfl (by kernel_rfl) (by kernel_rfl) (by kernel_rfl) (fun _ _ _ h => h) (Or.inl ⟨by rfl, ?_⟩) (by assumption) ?_
          rotate_left 1
          · (intro w hSw; (try dsimp only at hSw); go_simp; try (with_reducible rfl))
          try simp only [List.getElem_toArray, List.getElem_cons_zero, List.getElem_cons_succ, Act.put, List.setIfInBounds_toArray, List.set_cons_zero, List.set_cons_succ]
          refine wpAnyH_take (i := 5) (v := ?_) rfl (by kernel_rfl) (by kernel_rfl) (by kernel_rfl) (fun _ _ _ h => h) (Or.inl ⟨by rfl, ?_⟩) (by assumption) ?_
          rotate_left 1
          · (intro w hSw; (try dsimp only at hSw); go_simp; try (with_reducible rfl))
          try simp only [List.getElem_toArray, List.getElem_cons_zero, List.getElem_cons_succ, Act.put, List.setIfInBounds_toArray, List.set_cons_zero, List.set_cons_succ]
          refine wpAnyH_take (i := 6) (v := ?_) rfl (by kernel_rfl) (by kernel_rfl) (by kernel_rfl) (fun _ _ _ h => h) (Or.inl ⟨by rfl, ?_⟩) (by assumption) ?_
          rotate_left 1
          · (intro w hSw; (try dsimp only at hSw); go_simp; try (with_reducible rfl))
          try simp only [List.getElem_toArray, List.getElem_cons_zero, List.getElem_cons_succ, Act.put, List.setIfInBounds_toArray, List.set_cons_zero, List.set_cons_succ]
          refine wpAnyH_take (i := 7) (v := ?_) rfl (by kernel_rfl) (by kernel_rfl) (by kernel_rfl) (fun _ _ _ h => h) (Or.inl ⟨by rfl, ?_⟩) (by assumption) ?_
          rotate_left 1
          · (intro w hSw; (try dsimp only at hSw); go_simp; try (with_reducible rfl))
          try simp only [List.getElem_toArray, List.getElem_cons_zero, List.getElem_cons_succ, Act.put, List.setIfInBounds_toArray, List.set_cons_zero, List.set_cons_succ]
          refine wpAnyH_take (i := 8) (v := ?_) rfl (by kernel_rfl) (by kernel_rfl) (by kernel_rfl) (fun _ _ _ h => h) (Or.inl ⟨by rfl, ?_⟩) (by assumption) ?_
          rotate_left 1
          · (intro w hSw; (try dsimp only at hSw); go_simp; try (with_reducible rfl))
          try simp only [List.getElem_toArray, List.getElem_cons_zero, List.getElem_cons_succ, Act.put, List.setIfInBounds_toArray, List.set_cons_zero, List.set_cons_succ]
          refine wpAnyH_take (i := 9) (v := ?_) rfl (by kernel_rfl) (by kernel_rfl) (by kernel_rfl) (fun _ _ _ h => h) (Or.inl ⟨by rfl, ?_⟩) (by assumption) ?_
          rotate_left 1
          · (intro w hSw; (try dsimp only at hSw); go_simp; try (with_reducible rfl))
          try simp only [List.getElem_toArray, List.getElem_cons_zero, List.getElem_cons_succ, Act.put, List.setIfInBounds_toArray, List.set_cons_zero, List.set_cons_succ]
          refine wpAnyH_take (i := 10) (v := ?_) rfl (by kernel_rfl) (by kernel_rfl) (by kernel_rfl) (fun _ _ _ h => h) (Or.inl ⟨by rfl, ?_⟩) (by assumption) ?_
          rotate_left 1
          · (intro w hSw; (try dsimp only at hSw); go_simp; try (with_reducible rfl))
          try simp only [List.getElem_toArray, List.getElem_cons_zero, List.getElem_cons_succ, Act.put, List.setIfInBounds_toArray, List.set_cons_zero, List.set_cons_succ]
          refine wpAnyH_take (i := 11) (v := ?_) rfl (by kernel_rfl) (by kernel_rfl) (by kernel_rfl) (fun _ _ _ h => h) (Or.inl ⟨by rfl, ?_⟩) (by assumption) ?_
          rotate_left 1
          · (intro w hSw; (try dsimp only at hSw); go_simp; try (with_reducible rfl))
          try simp only [List.getElem_toArray, List.getElem_cons_zero, List.getElem_cons_succ, Act.put, List.setIfInBounds_toArray, List.set_cons_zero, List.set_cons_succ]
          refine wpAnyH_take (i := 12) (v := ?_) rfl (by kernel_rfl) (by kernel_rfl) (by kernel_rfl) (fun _ _ _ h => h) (Or.inl ⟨by rfl, ?_⟩) (by assumption) ?_
          rotate_left 1
          · (intro w hSw; (try dsimp only at hSw); go_simp; try (with_reducible rfl))
          try simp only [List.getElem_toArray, List.getElem_cons_zero, List.getElem_cons_succ, Act.put, List.setIfInBounds_toArray, List.set_cons_zero, List.set_cons_succ]
          refine wpAnyH_take (i := 13) (v := ?_) rfl (by kernel_rfl) (by kernel_rfl) (by kernel_rfl) (fun _ _ _ h => h) (Or.inl ⟨by rfl, ?_⟩) (by assumption) ?_
          rotate_left 1
          · (intro w hSw; (try dsimp only at hSw); go_simp; try (with_reducible rfl))
          try simp only [List.getElem_toArray, List.getElem_cons_zero, List.getElem_cons_succ, Act.put, List.setIfInBounds_toArray, List.set_cons_zero, List.set_cons_succ]
          refine wpAnyH_take (i := 14) (v := ?_) rfl (by kernel_rfl) (by kernel_rfl) (by kernel_rfl) (fun _ _ _ h => h) (Or.inl ⟨by rfl, ?_⟩) (by assumption) ?_
          rotate_left 1
          · (intro w hSw; (try dsimp only at hSw); go_simp; try (with_reducible rfl))
          try simp only [List.getElem_toArray, List.getElem_cons_zero, List.getElem_cons_succ, Act.put, List.setIfInBounds_toArray, List.set_cons_zero, List.set_cons_succ]
          refine wpAnyH_take (i := 15) (v := ?_) rfl (by kernel_rfl) (by kernel_rfl) (by kernel_rfl) (fun _ _ _ h => h) (Or.inl ⟨by rfl, ?_⟩) (by assumption) ?_
          rotate_left 1
          · (intro w hSw; (try dsimp only at hSw); go_simp; try (with_reducible rfl))
          try simp only [List.getElem_toArray, List.getElem_cons_zero, List.getElem_cons_succ, Act.put, List.setIfInBounds_toArray, List.set_cons_zero, List.set_cons_succ]
          refine wpAnyH_take (i := 16) (v := ?_) rfl (by kernel_rfl) (by kernel_rfl) (by kernel_rfl) (fun _ _ _ h => h) (Or.inl ⟨by rfl, ?_⟩) (by assumption) ?_
          rotate_left 1
          · (intro w hSw; (try dsimp only at hSw); go_simp; try (with_reducible rfl))
          try simp only [List.getElem_toArray, List.getElem_cons_zero, List.getElem_cons_succ, Act.put, List.setIfInBounds_toArray, List.set_cons_zero, List.set_cons_succ]
          refine wpAnyH_ready (rs := [17]) (by kernel_rfl) (by simp) ?_
          refine AllReadyH.cons rfl (fun K hK => ?_) AllReadyH.nil
          go_simp
          refine hK.out _ _ (by exact ⟨keepA _ (by exact hXr) v0, keepA _ (by exact hbr) c0, keepA _ (by exact hbr) c1⟩) (fun hHeld => ?_)
          clear hK K
          try simp only [List.getElem_toArray, List.getElem_cons_zero, List.getElem_cons_succ, Act.put, List.setIfInBounds_toArray, List.set_cons_zero, List.set_cons_succ]
          refine wpAnyH_ready (rs := [18]) (by kernel_rfl) (by simp) ?_
          refine AllReadyH.cons rfl (fun K hK => ?_) AllReadyH.nil
          refine wanted_step rfl (wp_append_p1 (.tmp 49) (.tmp 65) rfl (X + 1) (.slice va qs.length vc) qs (by simp [Act.eval]) (by exact OVp.below HOV.out HAL.out.drew) wr.heap.size x y (by simp [Act.eval]) (by simp) (by simp) HXY.out (by omega) (by simp; omega) ?_)
          intro v1 w1 hov1 hg1
          have hbx : Below (X + 1) (wr.alloc (Obj.cells #[.int .i64 x, .int .i64 y] 38)).drew w1 := by exact (Below.refl _ _).grown hg1 (by simp; omega) (fun k hk => (HOV.out.blk hk).1)
          have hb1' : Below X W0 w1 := ((HR.out.alloc (by omega) _).drew).trans (hbx.mono (by omega))
          obtain ⟨va1, vc1, hv1⟩ := hov1.form
          rw [HE.out.1] at hov1 hv1
          subst hv1
          have v1' : w1.cell? ⟨X, 0, none⟩ = some (.slice va qs.length vc) := keep hbx (by omega) (keepA _ hXr v0)
          have g1' : w1.frozen? ⟨X, 0, none⟩ = false := (hbx.frozen (p := ⟨X, 0, none⟩) (by simp)).trans (((Below.refl wr.heap.size wr).alloc (Nat.le_refl _) (Obj.cells #[.int .i64 x, .int .i64 y] 38)).frozen (p := ⟨X, 0, none⟩) hXr |>.trans g0)
          have hbz : Below w.heap.size w w1 := HW0.out.trans (hb1'.mono (by omega))
          have hX1 : X < w1.heap.size := by have := hbx.size; simp at this; omega
          have HN1 : Hid (OVp (w1.setCell ⟨X, 0, none⟩ (.slice va1 (pl2 (zs.drop 4) (k + 1)).length vc1)) (X + 1) (.slice va1 (pl2 (zs.drop 4) (k + 1)).length vc1) (pl2 (zs.drop 4) (k + 1)) ∧ Below X W0 (w1.setCell ⟨X, 0, none⟩ (.slice va1 (pl2 (zs.drop 4) (k + 1)).length vc1)) ∧ (w1.setCell ⟨X, 0, none⟩ (.slice va1 (pl2 (zs.drop 4) (k + 1)).length vc1)).cell? ⟨X, 0, none⟩ = some (.slice va1 (pl2 (zs.drop 4) (k + 1)).length vc1) ∧ (w1.setCell ⟨X, 0, none⟩ (.slice va1 (pl2 (zs.drop 4) (k + 1)).length vc1)).frozen? ⟨X, 0, none⟩ = false ∧ X < (w1.setCell ⟨X, 0, none⟩ (.slice va1 (pl2 (zs.drop 4) (k + 1)).length vc1)).heap.size) := by
            refine ⟨OVp.stay hov1 ((Only.refl (fun b => b = X) w1).setCell (p := ⟨X, 0, none⟩) (.inl rfl) _) (fun k hk e => ?_), hb1'.setCell (p := ⟨X, 0, none⟩) (Nat.le_refl _) _, ?_, ?_, ?_⟩
            · have := (hov1.blk hk).1; omega
            · exact World.cell?_setCell_same _ _ _ v1'
            · simp [g1']
            · have h9 := ((Only.refl (fun b => b = X) w1).setCell (p := ⟨X, 0, none⟩) (.inl rfl) (.slice va1 (pl2 (zs.drop 4) (k + 1)).length vc1)).size
              omega
          refine hK.out _ _ (by exact ⟨v1', keep hbz hbw c00, keep hbz hbw c01⟩) (fun hHeld => ?_)
          clear hK K
          try simp only [List.getElem_toArray, List.getElem_cons_zero, List.getElem_cons_succ, Act.put, List.setIfInBounds_toArray, List.set_cons_zero, List.set_cons_succ]
          refine wpAnyH_take (i := 19) (v := ?_) rfl (by kernel_rfl) (by kernel_rfl) (by kernel_rfl) (fun _ _ _ h => h) (Or.inl ⟨by rfl, ?_⟩) (by assumption) ?_
          rotate_left 1
          · (intro w hSw; (try dsimp only at hSw); go_simp; try (with_reducible rfl))
          try simp only [List.getElem_toArray, List.getElem_cons_zero, List.getElem_cons_succ, Act.put, List.setIfInBounds_toArray, List.set_cons_zero, List.set_cons_succ]
          refine wpAnyH_done (by kernel_rfl) ?_ _
          simp only [cutQ, List.drop_succ_cons, List.drop_zero]
          clear hHeld hg1 hov1 hb1' hbz hbx
          go_wp2
          go_roundw
          case rel => exact ⟨k + 1, va1, vc1, by omega, by go_num, HN1.out.1, HN1.out.2.1, HN1.out.2.2.1, HN1.out.2.2.2.1, HN1.out.2.2.2.2⟩
          case measure => simp [intOf]; omega
        · have hkn : k = m := by omega
          subst hkn
          have HSB2 : Hid (srB zs = (sbB e (pl2 (zs.drop 4) k) && sm8 (sbA e (pl2 (zs.drop 4) k)) zs) ∧ rdP zs = pl2 (zs.drop 4) k) := ⟨by rw [HSB.out.1, HEP2.out.1, HRP.out.1], HRP.out.1⟩
          have hln : (pl2 (zs.drop 4) k).length ≤ 16 := HRP.out.2
          have HTT : Hid (Below w.heap.size w wr ∧ Byt wr (some ⟨b, off, none⟩) zs ∧ Byt w (some ⟨b, off, none⟩) zs) := ⟨hbwr, HB.out.below hbwr (Nat.le_refl _), HB.out⟩
          have u0 : wr.cell? ⟨w.heap.size, 0, none⟩ = some (.slice none 0 0) := keep HR.out tl1 t1
          have k0 : wr.frozen? ⟨w.heap.size, 0, none⟩ = false := (HR.out.frozen (p := ⟨w.heap.size, 0, none⟩) tl1).trans f1
          have hXw : w.heap.size < X := by have := HXE.out.1; omega
          have hXn : ¬ X = w.heap.size := by omega
          have hXn2 : ¬ w.heap.size = X := by omega
          clear hpl HPL HP HP0 HSB HCC HRG HRP hbwr c30
          generalize pl2 (zs.drop 4) k = ps at *
          have HYES : Hid (srB zs = true → srE zs = e ∧ srP zs = ps) := fun h => ⟨by rw [(sr_yes h).1, HEP2.out.1], by rw [(sr_yes h).2, HSB2.out.2]⟩
          have HNOO : Hid (srB zs = false → srE zs = 0 ∧ srP zs = []) := fun h => sr_no h
          by_cases he : e ≤ 60000
          · have hd : decide (60000 < e) = false := decide_eq_false (by omega)
            have hPls : Pls wr va ps := HOV.out.pls
            cases hmb : mapB ps with
            | false =>
              have HF : Hid (srB zs = false ∧ srE zs = 0 ∧ srP zs = []) := by
                have : srB zs = false := by rw [HSB2.out.1, (sb_no e ps (.inr hmb)).1]; rfl
                exact ⟨this, HNOO.out this⟩
              have HMO := specMapOk_any va vc ps wr.drew hPls (by omega)
              rw [hmb] at HMO
              clear hPls hmb HSB2 HYES HNOO
              go_wp2_with fail
              have HV0 : Hid (wr.cell? ⟨X, 0, none⟩ = some (.slice va ps.length vc)) := v0
              clear v0
              refine wp_region_cut (S := fun W => W.cell? ⟨X, 0, none⟩ = some (.slice va ps.length vc)) 16 (by kernel_rfl) (by kernel_rfl) (by exact HV0.out) (fun hHeld => ?_)
              refine wpAnyH_take (i := 0) (v := ?_) rfl (by kernel_rfl) (by kernel_rfl) (by kernel_rfl) (fun _ _ _ h => h) (Or.inl ⟨by rfl, ?_⟩) (by assumption) ?_
              rotate_left 1
              · (intro w hSw; (try dsimp only at hSw); go_simp; try (with_reducible rfl))
              try simp only [List.getElem_toArray, List.getElem_cons_zero, List.getElem_cons_succ, Act.put, List.setIfInBounds_toArray, List.set_cons_zero, List.set_cons_succ]
              refine wpAnyH_take (i := 1) (v := ?_) rfl (by kernel_rfl) (by kernel_rfl) (by kernel_rfl) (fun _ _ _ h => h) (Or.inl ⟨by rfl, ?_⟩) (by assumption) ?_
              rotate_left 1
              · (intro w hSw; (try dsimp only at hSw); go_simp; try (with_reducible rfl))
              try simp only [List.getElem_toArray, List.getElem_cons_zero, List.getElem_cons_succ, Act.put, List.setIfInBounds_toArray, List.set_cons_zero, List.set_cons_succ]
              refine wpAnyH_take (i := 2) (v := ?_) rfl (by kernel_rfl) (by kernel_rfl) (by kernel_rfl) (fun _ _ _ h => h) (Or.inl ⟨by rfl, ?_⟩) (by assumption) ?_
              rotate_left 1
              · (intro w hSw; (try dsimp only at hSw); go_simp; try (with_reducible rfl))
              try simp only [List.getElem_toArray, List.getElem_cons_zero, List.getElem_cons_succ, Act.put, List.setIfInBounds_toArray, List.set_cons_zero, List.set_cons_succ]
              refine wpAnyH_take (i := 3) (v := ?_) rfl (by kernel_rfl) (by kernel_rfl) (by kernel_rfl) (fun _ _ _ h => h) (Or.inl ⟨by rfl, ?_⟩) (by assumption) ?_
              rotate_left 1
              · (intro w hSw; (try dsimp only at hSw); go_simp; try (with_reducible rfl))
              try simp only [List.getElem_toArray, List.getElem_cons_zero, List.getElem_cons_succ, Act.put, List.setIfInBounds_toArray, List.set_cons_zero, List.set_cons_succ]
              refine wpAnyH_ready (rs := [4]) (by kernel_rfl) (by simp) ?_
              refine AllReadyH.cons rfl (fun K hK => ?_) AllReadyH.nil
              go_simp
              refine HMO.mono ?_
              rintro r w9 ⟨rfl, hb9'⟩
              have hb9 : Below wr.heap.size wr w9 := Below.drewS hb9'
              have HV9 : Hid (w9.cell? ⟨X, 0, none⟩ = some (.slice va ps.length vc)) := keep hb9 hXr HV0.out
              have u9 := keep hb9 (by omega) u0
              have k9 := (hb9.frozen (p := ⟨w.heap.size, 0, none⟩) (by simp; omega)).trans k0
              have HB9 : Hid (Below w.heap.size w w9) := HTT.out.1.trans (hb9.mono (by omega))
              clear hb9 hb9'
              dsimp only
              refine hK.out _ _ (by exact HV9.out) (fun hHeld => ?_)
              clear hK K
              try simp only [List.getElem_toArray, List.getElem_cons_zero, List.getElem_cons_succ, Act.put, List.setIfInBounds_toArray, List.set_cons_zero, List.set_cons_succ]
              refine wpAnyH_take (i := 5) (v := ?_) rfl (by kernel_rfl) (by kernel_rfl) (by kernel_rfl) (fun _ _ _ h => h) (Or.inl ⟨by rfl, ?_⟩) (by assumption) ?_
              rotate_left 1
              · (intro w hSw; (try dsimp only at hSw); go_simp; try (with_reducible rfl))
              try simp only [List.getElem_toArray, List.getElem_cons_zero, List.getElem_cons_succ, Act.put, List.setIfInBounds_toArray, List.set_cons_zero, List.set_cons_succ]
              refine wpAnyH_take (i := 6) (v := ?_) rfl (by kernel_rfl) (by kernel_rfl) (by kernel_rfl) (fun _ _ _ h => h) (Or.inl ⟨by rfl, ?_⟩) (by assumption) ?_
              rotate_left 1
              · (intro w hSw; (try dsimp only at hSw); go_simp; try (with_reducible rfl))
              try simp only [List.getElem_toArray, List.getElem_cons_zero, List.getElem_cons_succ, Act.put, List.setIfInBounds_toArray, List.set_cons_zero, List.set_cons_succ]
              refine wpAnyH_take (i := 7) (v := ?_) rfl (by kernel_rfl) (by kernel_rfl) (by kernel_rfl) (fun _ _ _ h => h) (Or.inl ⟨by rfl, ?_⟩) (by assumption) ?_
              rotate_left 1
              · (intro w hSw; (try dsimp only at hSw); go_simp; try (with_reducible rfl))
              try simp only [List.getElem_toArray, List.getElem_cons_zero, List.getElem_cons_succ, Act.put, List.setIfInBounds_toArray, List.set_cons_zero, List.set_cons_succ]
              refine wpAnyH_take (i := 8) (v := undef) rfl (by kernel_rfl) (by kernel_rfl) (by kernel_rfl) (fun _ _ _ h => h) (Or.inr ⟨by rfl, rfl⟩) (by assumption) ?_
              try simp only [List.getElem_toArray, List.getElem_cons_zero, List.getElem_cons_succ, Act.put, List.setIfInBounds_toArray, List.set_cons_zero, List.set_cons_succ]
              refine wpAnyH_take (i := 9) (v := undef) rfl (by kernel_rfl) (by kernel_rfl) (by kernel_rfl) (fun _ _ _ h => h) (Or.inr ⟨by rfl, rfl⟩) (by assumption) ?_
              try simp only [List.getElem_toArray, List.getElem_cons_zero, List.getElem_cons_succ, Act.put, List.setIfInBounds_toArray, List.set_cons_zero, List.set_cons_succ]
              refine wpAnyH_take (i := 10) (v := undef) rfl (by kernel_rfl) (by kernel_rfl) (by kernel_rfl) (fun _ _ _ h => h) (Or.inr ⟨by rfl, rfl⟩) (by assumption) ?_
              try simp only [List.getElem_toArray, List.getElem_cons_zero, List.getElem_cons_succ, Act.put, List.setIfInBounds_toArray, List.set_cons_zero, List.set_cons_succ]
              refine wpAnyH_take (i := 11) (v := undef) rfl (by kernel_rfl) (by kernel_rfl) (by kernel_rfl) (fun _ _ _ h => h) (Or.inr ⟨by rfl, rfl⟩) (by assumption) ?_
              try simp only [List.getElem_toArray, List.getElem_cons_zero, List.getElem_cons_succ, Act.put, List.setIfInBounds_toArray, List.set_cons_zero, List.set_cons_succ]
              refine wpAnyH_take (i := 12) (v := undef) rfl (by kernel_rfl) (by kernel_rfl) (by kernel_rfl) (fun _ _ _ h => h) (Or.inr ⟨by rfl, rfl⟩) (by assumption) ?_
              try simp only [List.getElem_toArray, List.getElem_cons_zero, List.getElem_cons_succ, Act.put, List.setIfInBounds_toArray, List.set_cons_zero, List.set_cons_succ]
              refine wpAnyH_take (i := 13) (v := undef) rfl (by kernel_rfl) (by kernel_rfl) (by kernel_rfl) (fun _ _ _ h => h) (Or.inr ⟨by rfl, rfl⟩) (by assumption) ?_
              try simp only [List.getElem_toArray, List.getElem_cons_zero, List.getElem_cons_succ, Act.put, List.setIfInBounds_toArray, List.set_cons_zero, List.set_cons_succ]
              refine wpAnyH_take (i := 14) (v := undef) rfl (by kernel_rfl) (by kernel_rfl) (by kernel_rfl) (fun _ _ _ h => h) (Or.inr ⟨by rfl, rfl⟩) (by assumption) ?_
              try simp only [List.getElem_toArray, List.getElem_cons_zero, List.getElem_cons_succ, Act.put, List.setIfInBounds_toArray, List.set_cons_zero, List.set_cons_succ]
              refine wpAnyH_take (i := 15) (v := ?_) rfl (by kernel_rfl) (by kernel_rfl) (by kernel_rfl) (fun _ _ _ h => h) (Or.inl ⟨by rfl, ?_⟩) (by assumption) ?_
              rotate_left 1
              · (intro w hSw; (try dsimp only at hSw); go_simp; try (with_reducible rfl))
              try simp only [List.getElem_toArray, List.getElem_cons_zero, List.getElem_cons_succ, Act.put, List.setIfInBounds_toArray, List.set_cons_zero, List.set_cons_succ]
              refine wpAnyH_done (by kernel_rfl) ?_ _
              simp only [cutQ, List.drop_succ_cons, List.drop_zero]
              all_goals
                go_wp2
                refine bodyPost_ret (v := .tuple #[.int .i64 0, .agg #[.slice none 0 0], .bool false]) (by simp [results, Try.results32, go_sem, u9]) rfl ⟨⟨none, 0, by rw [HF.out.1, HF.out.2.1, HF.out.2.2]; rfl, .inl ⟨rfl, HF.out.2.2, rfl⟩⟩, ?_⟩
                exact HB9.out.setCell (p := ⟨w.heap.size, 0, none⟩) (by simp) _
            | true =>
              have hsA : sbA e ps = sbL e ps ∧ sbB e ps = true := ⟨(sb_yes e ps ⟨hxe.1, he⟩ hmb).2, (sb_yes e ps ⟨hxe.1, he⟩ hmb).1⟩
              have HS3 : Hid (srB zs = sm8 (sbL e ps) zs ∧ True) := ⟨by rw [HSB2.out.1, hsA.2, hsA.1]; rfl, trivial⟩
              have HMO := specMapOk_any va vc ps wr.drew hPls (by omega)
              rw [hmb] at HMO
              have HL8 : Hid (∀ W, Pls W va ps → Calls Try.prog 46 #[.int .i64 e, .agg #[.slice va ps.length vc]] W fun r w' => (∃ v, r = .returned v ∧ OVB w' W.heap.size v (sbL e ps)) ∧ Below W.heap.size W w') := fun W h => l8bytes_any va vc ps e W h (mapB_rng ps hmb) (mapB_len ps hmb) ⟨hxe.1, he⟩
              have HCV : Hid (∀ (W : World) (a : Option Addr) (c : Nat), Byt W a (sbL e ps) → (convert 47 9 (.slice a (sbL e ps).length c)).run Try.prog W = .ok (.string (strOfNums (sbL e ps))) W) := fun W a c h => conv_bytes8 W a c _ h
              have HCZ : Hid (∀ (W : World), Byt W (some ⟨b, off, none⟩) zs → (convert 47 9 (.slice (some ⟨b, off, none⟩) 256 c)).run Try.prog W = .ok (.string (strOfNums zs)) W) := fun W h => by
                have := conv_bytes8 W (some ⟨b, off, none⟩) c zs h
                rw [HEP.out.2.2] at this
                exact this
              have HSM : Hid (sm8 (sbL e ps) zs = ((strOfNums (sbL e ps)).toList == (strOfNums zs).toList) ∧ True) := ⟨rfl, trivial⟩
              clear hPls hmb HSB2 hsA
              generalize strOfNums (sbL e ps) = SS at *
              generalize strOfNums zs = TT at *
              cases hst : (SS.toList == TT.toList) with
              | false =>
                have HF : Hid (srB zs = false ∧ srE zs = 0 ∧ srP zs = []) := by
                  have : srB zs = false := by rw [HS3.out.1, HSM.out.1, hst]
                  exact ⟨this, HNOO.out this⟩
                clear HS3 HSM HYES HNOO
                go_wp2_with fail
                go_region_with (first
                  | (go_at_call 11; refine HMO.mono ?_; rintro r w9 ⟨rfl, hb9'⟩; have hb9 : Below wr.heap.size wr w9 := Below.drewS hb9'; have v9 := keep hb9 hXr v0; have u9 := keep hb9 (by omega) u0; have k9 := (hb9.frozen (p := ⟨w.heap.size, 0, none⟩) (by simp; omega)).trans k0; have hcz9 := HCZ.out w9 (HTT.out.2.1.below hb9 (Nat.le_refl _)); have HB9 : Hid (Below w.heap.size w w9 ∧ Pls w9 va ps ∧ wr.heap.size ≤ w9.heap.size) := ⟨HTT.out.1.trans (hb9.mono (by omega)), (HOV.out.below hb9).pls, hb9.size⟩; clear hb9 hb9')
                  | (go_at_call 46; refine (HL8.out w9 HB9.out.2.1).mono ?_; rintro r w10 ⟨⟨vb, rfl, hvb⟩, hb10⟩; obtain ⟨ab, cb, rfl⟩ := hvb.form; have hcv10 := HCV.out w10 ab cb hvb.byt; have u10 := keep hb10 (by have := HB9.out.2.2; omega) u9; have k10 := (hb10.frozen (p := ⟨w.heap.size, 0, none⟩) (by have := HB9.out.2.2; simp; omega)).trans k9; have HB10 : Hid (Below w.heap.size w w10) := HB9.out.1.trans (hb10.mono (by have := HB9.out.2.2; omega)); have hcz10 := HCZ.out w10 (HTT.out.2.2.below HB10.out (Nat.le_refl _)); clear hvb hb10))
                all_goals
                  go_wp2
                  refine bodyPost_ret (v := .tuple #[.int .i64 0, .agg #[.slice none 0 0], .bool false]) (by simp [results, Try.results32, go_sem, u10]) rfl ⟨⟨none, 0, by rw [HF.out.1, HF.out.2.1, HF.out.2.2]; rfl, .inl ⟨rfl, HF.out.2.2, rfl⟩⟩, ?_⟩
                  exact HB10.out.setCell (p := ⟨w.heap.size, 0, none⟩) (by simp) _
              | true =>
                have HF : Hid (srB zs = true ∧ srE zs = e ∧ srP zs = ps) := by
                  have : srB zs = true := by rw [HS3.out.1, HSM.out.1, hst]
                  exact ⟨this, HYES.out this⟩
                have HOW : Hid (OVp wr (X + 1) (.slice va ps.length vc) ps) := HOV.out
                clear HS3 HSM HYES HNOO
                go_wp2_with fail
                go_region_with (first
                  | (go_at_call 11; refine HMO.mono ?_; rintro r w9 ⟨rfl, hb9'⟩; have hb9 : Below wr.heap.size wr w9 := Below.drewS hb9'; have v9 := keep hb9 hXr v0; have u9 := keep hb9 (by omega) u0; have k9 := (hb9.frozen (p := ⟨w.heap.size, 0, none⟩) (by simp; omega)).trans k0; have hcz9 := HCZ.out w9 (HTT.out.2.1.below hb9 (Nat.le_refl _)); have HB9 : Hid (Below w.heap.size w w9 ∧ Pls w9 va ps ∧ wr.heap.size ≤ w9.heap.size ∧ OVp w9 (X + 1) (.slice va ps.length vc) ps) := ⟨HTT.out.1.trans (hb9.mono (by omega)), (HOV.out.below hb9).pls, hb9.size, HOW.out.below hb9⟩; clear hb9 hb9')
                  | (go_at_call 46; refine (HL8.out w9 HB9.out.2.1).mono ?_; rintro r w10 ⟨⟨vb, rfl, hvb⟩, hb10⟩; obtain ⟨ab, cb, rfl⟩ := hvb.form; have hcv10 := HCV.out w10 ab cb hvb.byt; have v10 := keep hb10 (by have := HB9.out.2.2.1; omega) v9; have u10 := keep hb10 (by have := HB9.out.2.2.1; omega) u9; have k10 := (hb10.frozen (p := ⟨w.heap.size, 0, none⟩) (by have := HB9.out.2.2.1; simp; omega)).trans k9; have HB10 : Hid (Below w.heap.size w w10 ∧ OVp w10 (X + 1) (.slice va ps.length vc) ps) := ⟨HB9.out.1.trans (hb10.mono (by have := HB9.out.2.2.1; omega)), HB9.out.2.2.2.below hb10⟩; have hcz10 := HCZ.out w10 (HTT.out.2.2.below HB10.out.1 (Nat.le_refl _)); clear hvb hb10))
                all_goals
                  have hon : Only (fun k => k = w.heap.size) w10 ((w10.drew).setCell ⟨w.heap.size, 0, none⟩ (.slice va ps.length vc)) := (Only.drew (Only.refl (fun k => k = w.heap.size) w10)).setCell (p := ⟨w.heap.size, 0, none⟩) (.inl rfl) _
                  obtain ⟨a2, c2, e2, hmp⟩ := HB10.out.2.mine
                  obtain ⟨rfl, -, rfl⟩ : va = a2 ∧ ps.length = ps.length ∧ vc = c2 := by simpa using e2
                  have HMF : Hid (MinP ((w10.drew).setCell ⟨w.heap.size, 0, none⟩ (.slice va ps.length vc)) w.heap.size ((w10.drew).setCell ⟨w.heap.size, 0, none⟩ (.slice va ps.length vc)).heap.size va vc ps) := (hmp.only hon (fun k h1 h2 h3 => by omega)).mono (by omega) hon.size
                  clear hon hmp e2
                  go_wp2
                  go_region
                  all_goals
                    go_wp2
                    refine bodyPost_ret (v := .tuple #[.int .i64 e, .agg #[.slice va ps.length vc], .bool true]) (by simp [results, Try.results32, go_sem, u10]) rfl ⟨⟨va, vc, by rw [HF.out.1, HF.out.2.1, HF.out.2.2], by rw [HF.out.2.2]; exact HMF.out⟩, ?_⟩
                    exact (HB10.out.1.drew).setCell (p := ⟨w.heap.size, 0, none⟩) (by simp) _
          · have HF : Hid (srB zs = false ∧ srE zs = 0 ∧ srP zs = []) := by
              have : srB zs = false := by rw [HSB2.out.1, (sb_no e ps (.inl (fun h => he h.2))).1]; rfl
              exact ⟨this, HNOO.out this⟩
            have hd : decide (60000 < e) = true := decide_eq_true (by omega)
            have hd2 : 60000 < e := by omega
            clear he HSB2 HYES HNOO
            go_wp2
            go_quiet (fail)
            go_wp2
            refine bodyPost_ret (v := .tuple #[.int .i64 0, .agg #[.slice none 0 0], .bool false]) (by simp [results, Try.results32, go_sem, u0]) rfl ⟨⟨none, 0, by rw [HF.out.1, HF.out.2.1, HF.out.2.2]; rfl, .inl ⟨rfl, HF.out.2.2, rfl⟩⟩, ?_⟩
            exact (below_dP HTT.out.1 _).setCell (p := ⟨w.heap.size, 0, none⟩) (by simp) _
  · have HF : Hid (srB zs = false ∧ srE zs = 0 ∧ srP zs = []) := by
      have : srB zs = false := srB_len (fun h => hl h.1)
      exact ⟨this, sr_no this⟩
    have hl2 : ((zs.length : Int) != 256) = true := by rw [bne_iff_ne]; omega
    clear hb
    go_enter Try.func32, Try.ntmps32
    go_wp2
    refine bodyPost_ret (v := .tuple #[.int .i64 0, .agg #[.slice none 0 0], .bool false]) (by simp [results, Try.results32, go_sem]) rfl ⟨⟨none, 0, by rw [HF.out.1, HF.out.2.1, HF.out.2.2]; rfl, .inl ⟨rfl, HF.out.2.2, rfl⟩⟩, ?_⟩
    first | exact HW.out | exact HW.out.setCell (p := ⟨w.heap.size, 0, none⟩) (by simp) _
end Go.Proofs.Ythihdnmdmfdhdaa
