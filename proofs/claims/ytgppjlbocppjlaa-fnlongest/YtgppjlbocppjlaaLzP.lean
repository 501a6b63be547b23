/-
  historyOf of the program.
-/
import Derived.Test.YtgppjlbocppjlaaCut2
import Derived.Test.YtgppjlbocppjlaaLzF
import Derived.Test.YtgppjlbocppjlaaIApp0
namespace Go.Proofs.Ytgppjlbocppjlaa
open Go.RowKit Go.Maps
set_option linter.unusedVariables false
set_option linter.unusedSimpArgs false

def tri (ys : List Int) (p : Nat) : Int × Int × Int := (ys.getD p 0, ys.getD (p + 1) 0, ys.getD (p + 2) 0)
/-- The places below k where these letters are. -/
def lpl (ys : List Int) : Nat → Int × Int × Int → List Int
  | 0, _ => []
  | k + 1, q => if k + 3 ≤ ys.length ∧ q = tri ys k then lpl ys k q ++ [(k : Int)] else lpl ys k q
theorem lpl_len (ys : List Int) (k : Nat) (q : Int × Int × Int) : (lpl ys k q).length ≤ k := by
  induction k with
  | zero => simp [lpl]
  | succ k ih =>
    simp only [lpl]
    split
    · simp; omega
    · omega
theorem tri_R {ys : List Int} (hr : ∀ z ∈ ys, 0 ≤ z ∧ z ≤ 255) (p : Nat) : lkR (tri ys p) := by
  have h : ∀ i, 0 ≤ ys.getD i 0 ∧ ys.getD i 0 ≤ 255 := fun i => by
    rw [List.getD_eq_getElem?_getD]
    cases he : ys[i]? with
    | none => simp
    | some z => exact hr z (List.mem_of_getElem? he)
  exact ⟨h _, h _, h _⟩

set_option maxRecDepth 20000 in
set_option maxHeartbeats 8000000 in
theorem historyOf_any (a : Option Addr) (c : Nat) (ys : List Int) (w : World) (hb : Byt w a ys) (hn : ys.length ≤ 64) (hcap : ys.length ≤ c) :
    Calls Try.prog 10 #[.slice a ys.length c] w fun e w' => ∃ R M, e = .returned (.pointer (some ⟨R, 0, none⟩)) ∧ w.heap.size ≤ M ∧ w.heap.size ≤ R ∧ Hst w' R M a ys.length c ∧ LivL w' M ys.length (lpl ys ys.length) ∧ Below w.heap.size w w' := by
  have HBY : Hid (Byt w a ys) := hb
  have HT : Hid (∀ p, lkR (tri ys p)) := tri_R hb.1
  have HP1 : Hid (∀ k, k + 3 ≤ ys.length → ∀ q, lpl ys (k + 1) q = if q = tri ys k then lpl ys k q ++ [(k : Int)] else lpl ys k q) := fun k hk q => by
    simp only [lpl]
    by_cases hq : q = tri ys k
    · rw [if_pos ⟨hk, hq⟩, if_pos hq]
    · rw [if_neg (fun h => hq h.2), if_neg hq]
  have HP0 : Hid (∀ k, ¬ k + 3 ≤ ys.length → ∀ q, lpl ys k q = lpl ys (k + 1) q) := fun k hk q => by
    simp only [lpl]
    rw [if_neg (fun h => hk h.1)]
  have HLN : Hid (∀ k q, (lpl ys k q).length ≤ k) := lpl_len ys
  have HLA : Hid (∀ (k : Nat) (W : World), k ≤ ys.length → Below w.heap.size w W → Calls Try.prog 14 #[.slice a ys.length c, .int .i64 k] W fun e w' => (∃ x y z : Int, e = .returned (.tuple #[.agg #[.int .u8 x, .int .u8 y, .int .u8 z], .bool (decide (k + 3 ≤ ys.length))]) ∧ LtA ys k x y z) ∧ Below W.heap.size W w') := fun k W hk hW => lettersAt_any a c ys k W (hb.below hW (Nat.le_refl _)) hn hk hcap
  clear hb hcap
  generalize hL : ys.length = n at *
  have HL : Hid (ys.length = n ∧ True) := ⟨hL, trivial⟩
  clear hL
  have hmm := @run_makeMap Try.prog
  go_enter Try.func10, Try.ntmps10
  go_wp2
  clear hmm
  have HM0 : Hid (LivL ((w.alloc (.map #[] 0)).alloc (Obj.cells #[.slice a n c, .map (some w.heap.size)] 46)) w.heap.size 0 (lpl ys 0)) := ((LivL.made w).below ((Below.refl _ _).alloc (Nat.le_refl _) _)).congr (fun q => rfl)
  have HH0 : Hid (Hst ((w.alloc (.map #[] 0)).alloc (Obj.cells #[.slice a n c, .map (some w.heap.size)] 46)) (w.heap.size + 1) w.heap.size a n c) := ⟨by
    have := heap_alloc_new (w.alloc (.map #[] 0)) (Obj.cells #[.slice a n c, .map (some w.heap.size)] 46)
    rw [World.size_alloc] at this
    exact this⟩
  have HB0 : Hid (Below w.heap.size w ((w.alloc (.map #[] 0)).alloc (Obj.cells #[.slice a n c, .map (some w.heap.size)] 46))) := ((Below.refl _ _).alloc (Nat.le_refl _) _).alloc (by simp) _
  go_loopw [13] (fun i W => ∃ k : Nat, k ≤ n ∧ i = .int .i64 k ∧ LivL W w.heap.size k (lpl ys k) ∧ Hst W (w.heap.size + 1) w.heap.size a n c ∧ Below w.heap.size w W) (fun i _ => n - (intOf i).toNat)
  case atStart => exact ⟨0, by omega, rfl, HM0.out, HH0.out, HB0.out⟩
  case round =>
    obtain ⟨k, hk, rfl, hm, hh, hbel⟩ := hrel
    clear HM0 HH0 HB0
    have HW : Hid (LivL wr w.heap.size k (lpl ys k) ∧ Hst wr (w.heap.size + 1) w.heap.size a n c ∧ Below w.heap.size w wr) := ⟨hm, hh, hbel⟩
    have hRl := hh.lt
    have hsz := hbel.size
    clear hm hh hbel
    by_cases hlt : k < n
    · have hlt2 : (k : Int) < (n : Int) := by omega
      have HLA1 := HLA.out k wr (by omega) HW.out.2.2
      by_cases h3 : k + 3 ≤ n
      · rw [decide_eq_true h3] at HLA1
        go_wp2_with fail
        refine HLA1.mono ?_
        clear HLA1
        rintro e w1 ⟨⟨x, y, z, rfl, hla⟩, hb1⟩
        go_wp2_with fail
        have hq : (x, y, z) = tri ys k := by
          obtain ⟨e1, e2, e3⟩ := hla.1 (by rw [HL.out.1]; exact h3)
          rw [e1, e2, e3]
          rfl
        have HQ : Hid ((x, y, z) = tri ys k ∧ lkR (x, y, z)) := ⟨hq, by rw [hq]; exact HT.out k⟩
        have HV : Hid (LivL (w1.alloc (Obj.cells #[Value.int IntKind.u8 x, Value.int IntKind.u8 y, Value.int IntKind.u8 z] 48)) w.heap.size k (lpl ys k) ∧ Hst (w1.alloc (Obj.cells #[Value.int IntKind.u8 x, Value.int IntKind.u8 y, Value.int IntKind.u8 z] 48)) (w.heap.size + 1) w.heap.size a n c ∧ Below w.heap.size w (w1.alloc (Obj.cells #[Value.int IntKind.u8 x, Value.int IntKind.u8 y, Value.int IntKind.u8 z] 48))) :=
          ⟨(HW.out.1.below hb1).below ((Below.refl _ _).alloc (Nat.le_refl _) _), (HW.out.2.1.below hb1).below ((Below.refl _ _).alloc (Nat.le_refl _) _), (HW.out.2.2.trans (hb1.mono hsz)).alloc (by have := hb1.size; omega) _⟩
        have HBK : Hid ((w1.alloc (Obj.cells #[Value.int IntKind.u8 x, Value.int IntKind.u8 y, Value.int IntKind.u8 z] 48)).heap[w1.heap.size]? = some (.cells #[.int .u8 x, .int .u8 y, .int .u8 z] 48 (0, 0)) ∧ w1.heap.size < (w1.alloc (Obj.cells #[Value.int IntKind.u8 x, Value.int IntKind.u8 y, Value.int IntKind.u8 z] 48)).heap.size) := ⟨heap_alloc_new w1 _, by simp⟩
        have hMB : w.heap.size < w1.heap.size := by have := HW.out.1.lt; have := hb1.size; omega
        clear hb1 hla hq
        generalize w1.heap.size = B at *
        generalize w1.alloc (Obj.cells #[Value.int IntKind.u8 x, Value.int IntKind.u8 y, Value.int IntKind.u8 z] 48) = V at *
        have a1 := HV.out.2.1.c1
        have b0 : V.cell? ⟨B, 0, none⟩ = some (.int .u8 x) := blk_cellI HBK.out.1 rfl
        have b1 : V.cell? ⟨B, 1, none⟩ = some (.int .u8 y) := blk_cellI HBK.out.1 rfl
        have b2 : V.cell? ⟨B, 2, none⟩ = some (.int .u8 z) := blk_cellI HBK.out.1 rfl
        have hVd : Below V.heap.size V V.drew := ⟨rfl, rfl, rfl, Nat.le_refl _, fun _ _ => rfl⟩
        have hlx := HLN.out k (x, y, z)
        have hVl := HV.out.1.lt
        have hRV := HV.out.2.1.lt
        have hBV := HBK.out.2
        refine wp_region_cut (S := fun W => W.cell? ⟨w.heap.size + 1, 1, none⟩ = some (.map (some w.heap.size)) ∧ W.cell? ⟨B, 0, none⟩ = some (.int .u8 x) ∧ W.cell? ⟨B, 1, none⟩ = some (.int .u8 y) ∧ W.cell? ⟨B, 2, none⟩ = some (.int .u8 z)) 11 (by kernel_rfl) (by kernel_rfl) (by exact ⟨a1, b0, b1, b2⟩) (fun hHeld => ?_)
        refine tk 0 (v := ?_) ?_ ?_
        rotate_left 1
        · (intro w hSw; (try dsimp only at hSw); go_simp; try (with_reducible rfl))
        try simp only [tkS]
        refine tk 1 (v := ?_) ?_ ?_
        rotate_left 1
        · (intro w hSw; (try dsimp only at hSw); go_simp; try (with_reducible rfl))
        try simp only [tkS]
        refine tk 2 (v := ?_) ?_ ?_
        rotate_left 1
        · (intro w hSw; (try dsimp only at hSw); go_simp; try (with_reducible rfl))
        try simp only [tkS]
        refine tk 3 (v := ?_) ?_ ?_
        rotate_left 1
        · (intro w hSw; (try dsimp only at hSw); go_simp; try (with_reducible rfl))
        try simp only [tkS]
        refine tk 4 (v := ?_) ?_ ?_
        rotate_left 1
        · (intro w hSw; (try dsimp only at hSw); go_simp; try (with_reducible rfl))
        try simp only [tkS]
        refine tk 5 (v := ?_) ?_ ?_
        rotate_left 1
        · (intro w hSw; (try dsimp only at hSw); go_simp; try (with_reducible rfl))
        try simp only [tkS]
        refine wpAnyH_ready (rs := [6]) (by kernel_rfl) (by simp) ?_
        refine AllReadyH.cons rfl (fun K hK => ?_) AllReadyH.nil
        go_simp
        refine hK.out _ _ (by exact ⟨keepA _ hRV a1, keepA _ hBV b0, keepA _ hBV b1, keepA _ hBV b2⟩) (fun hHeld => ?_)
        clear hK K
        try simp only [tkS]
        refine wpAnyH_ready (rs := [7]) (by kernel_rfl) (by simp) ?_
        refine AllReadyH.cons rfl (fun K hK => ?_) AllReadyH.nil
        have hVa : Below V.heap.size V (V.alloc (Obj.cells #[Value.int IntKind.i64 k] 3)).drew := (((Below.refl _ _).alloc (Nat.le_refl _) _)).drew
        obtain ⟨v, st, w0, hme, hg0, hs0, hov, hlen, hput⟩ := (HV.out.1.below hVa).entry (by omega) (x, y, z) HQ.out.2
        obtain ⟨va, vc, rfl⟩ := hov.form
        have hme2 : Sem.run Try.prog (Instr.mapEntry 44 (.map (some w.heap.size)) (.agg #[.int .u8 x, .int .u8 y, .int .u8 z])) (V.alloc (Obj.cells #[Value.int IntKind.i64 k] 3)).drew = .ok (.tuple #[.slice va (lpl ys k (x, y, z)).length vc, .int .i64 st]) w0 := hme
        have hX0 : (V.alloc (Obj.cells #[Value.int IntKind.i64 k] 3)).drew.heap[V.heap.size]? = some (.cells #[.int .i64 k] 3 (0, 0)) := heap_alloc_new V _
        have hXM : some V.heap.size ≠ some w.heap.size := by simp; omega
        have HX1 : Hid (w0.heap[V.heap.size]? = some (.cells #[.int .i64 k] 3 (0, 0))) := grown_blkI hg0 hX0 hXM
        have HR1 : Hid (w0.heap[w.heap.size + 1]? = some (.cells #[.slice a n c, .map (some w.heap.size)] 46 (0, 0))) := grown_blkI hg0 ((hVa.block _ hRV).trans HV.out.2.1.blk) (by simp)
        have HB1 : Hid (w0.heap[B]? = some (.cells #[.int .u8 x, .int .u8 y, .int .u8 z] 48 (0, 0))) := grown_blkI hg0 ((hVa.block _ hBV).trans HBK.out.1) (by simp; omega)
        have HPUT : Hid _ := hput
        have HBW : Hid (Below w.heap.size w w0) := (HV.out.2.2.trans (hVa.mono HV.out.2.2.size)).grown hg0 (by have := HV.out.2.2.size; simp; omega) (fun j hj => by cases hj; exact Nat.le_refl _)
        have HOV : Hid (OVI w0 (w.heap.size + 1) (.slice va (lpl ys k (x, y, z)).length vc) (lpl ys k (x, y, z))) := hov
        have HS0 : Hid (w0.heap.size = (V.alloc (Obj.cells #[Value.int IntKind.i64 k] 3)).drew.heap.size) := hs0
        clear hme hput hov hX0 hXM hg0 hs0
        go_simp
        refine hK.out _ _ (by exact ⟨blk_cellI HR1.out rfl, blk_cellI HB1.out rfl, blk_cellI HB1.out rfl, blk_cellI HB1.out rfl⟩) (fun hHeld => ?_)
        clear hK K hme2
        try simp only [tkS]
        refine tk 8 (v := ?_) ?_ ?_
        rotate_left 1
        · (intro w hSw; (try dsimp only at hSw); go_simp; try (with_reducible rfl))
        try simp only [tkS]
        refine tk 10 (v := ?_) ?_ ?_
        rotate_left 1
        · (intro w hSw; (try dsimp only at hSw); go_simp; try (with_reducible rfl))
        try simp only [tkS]
        refine wpAnyH_ready (rs := [9]) (by kernel_rfl) (by simp) ?_
        refine AllReadyH.cons rfl (fun K hK => ?_) AllReadyH.nil
        refine wanted_step8 rfl (wp_append_i1 (.tmp 28) (.tmp 30) rfl (w.heap.size + 1) (.slice va (lpl ys k (x, y, z)).length vc) (lpl ys k (x, y, z)) (by simp [Act.eval]) HOV.out V.heap.size (k : Int) (by simp [Act.eval]) (blk_cellI HX1.out rfl) (by omega) (by omega) (by omega) (by rw [HS0.out]; simp; omega) ?_)
        intro v1 w2 hov1 hg1 hat1
        obtain ⟨w3, hr3, hl3, hg3⟩ := HPUT.out w2 v1 k hg1 hov1 (hat1.imp id (fun h => ⟨_, h, by rw [HS0.out]; exact Nat.le_refl _⟩))
        obtain ⟨va1, vc1, hv1⟩ := hov1.form
        have hln : (lpl ys k (x, y, z) ++ [(k : Int)]).length = (lpl ys k (x, y, z)).length + 1 := by simp
        rw [hln] at hv1
        clear hln
        subst hv1
        have A1 := grown_blkI hg1 HR1.out (HOV.out.blk_ne HR1.out (by decide))
        have B1 := grown_blkI hg1 HB1.out (HOV.out.blk_ne HB1.out (by decide))
        have HEND : Hid (LivL w3 w.heap.size (k + 1) (lpl ys (k + 1)) ∧ Hst w3 (w.heap.size + 1) w.heap.size a n c ∧ Below w.heap.size w w3) := by
          refine ⟨hl3.congr fun q => ?_, ⟨grown_blkI hg3 A1 (by simp)⟩, HBW.out.trans (set_below hg1 hg3 HBW.out.size HOV.out)⟩
          rw [HP1.out k h3 q]
          rw [← HQ.out.1]
          by_cases hq : q = (x, y, z)
          · rw [if_pos hq, if_pos hq, hq]
          · rw [if_neg hq, if_neg hq]
        have hr3' : Sem.run Try.prog (Instr.entryStore 44 (.map (some w.heap.size)) (.int .i64 st) (.slice va1 ((lpl ys k (x, y, z)).length + 1) vc1)) w2 = .ok () w3 := hr3
        refine hK.out _ _ (by exact ⟨blk_cellI A1 rfl, blk_cellI B1 rfl, blk_cellI B1 rfl, blk_cellI B1 rfl⟩) (fun hHeld => ?_)
        clear hK K
        try simp only [tkS]
        refine wpAnyH_done (by kernel_rfl) ?_ _
        simp only [cutQ, List.drop_succ_cons, List.drop_zero]
        clear hHeld hl3 hg3 hg1 hov1 hat1 hr3 A1 B1
        go_wp2
        go_roundw
        case rel => exact ⟨k + 1, by omega, by go_num, HEND.out.1, HEND.out.2.1, HEND.out.2.2⟩
        case measure => simp [intOf]; omega
      · rw [decide_eq_false h3] at HLA1
        go_wp2_with fail
        refine HLA1.mono ?_
        clear HLA1
        rintro e w1 ⟨⟨x, y, z, rfl, hla⟩, hb1⟩
        have HW1 : Hid (LivL w1 w.heap.size (k + 1) (lpl ys (k + 1)) ∧ Hst w1 (w.heap.size + 1) w.heap.size a n c ∧ Below w.heap.size w w1) := ⟨((HW.out.1.below hb1).congr (HP0.out k h3)).mono (by omega), HW.out.2.1.below hb1, HW.out.2.2.trans (hb1.mono hsz)⟩
        clear hb1
        go_wp2
        go_roundw
        case rel => exact ⟨k + 1, by omega, by go_num, HW1.out.1.below ((Below.refl _ _).alloc (Nat.le_refl _) _), HW1.out.2.1.below ((Below.refl _ _).alloc (Nat.le_refl _) _), HW1.out.2.2.alloc HW1.out.2.2.size _⟩
        case measure => simp [intOf]; omega
    · have hkn : k = n := by omega
      subst hkn
      have hlt2 : ¬ (k : Int) < (k : Int) := by omega
      go_wp2
      go_ret
      exact ⟨_, rfl, _, Nat.le_refl _, Nat.le_succ _, HW.out.2.1, HW.out.1, HW.out.2.2⟩
end Go.Proofs.Ytgppjlbocppjlaa
