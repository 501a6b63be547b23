/-
  DrawRawWrite of the model: a device, a number and some bytes.
-/
import Derived.Test.YtpedfcknmeeknaaDrBent
namespace Go.Proofs.Ytpedfcknmeeknaa
open Go.RowKit
set_option linter.unusedVariables false
set_option linter.unusedSimpArgs false

set_option maxRecDepth 20000 in
set_option maxHeartbeats 1600000 in
theorem drawRawWrite_any (a : Option Addr) (bs : List Int) (cap : Nat) (w : World) (hb : Byt w a bs) (hl : bs.length ≤ maxLen) :
    Calls Try.prog 5 #[.slice a bs.length cap] w fun e w' => ∃ (sa : Option Addr) (sc : Nat) (pa : Option Addr) (pc : Nat) (es fs : List El) (x : Int) (ba : Option Addr) (bc : Nat) (zs : List Int), e = .returned (.tuple #[.agg #[.slice sa es.length sc, .slice pa fs.length pc], .int .i64 x, .slice ba zs.length bc]) ∧ RawI w' sa pa es fs ∧ Byt w' ba zs ∧ (es.length ≤ 5 ∧ fs.length ≤ 61 ∧ (∀ e ∈ es ++ fs, e.ls.length ≤ 256) ∧ zs.length ≤ 256 ∧ -1 ≤ x ∧ x ≤ 6) ∧ Below w.heap.size w w' := by
  have hw : Below w.heap.size w (w.alloc (Obj.cells #[Value.slice none 0 0, Value.slice none 0 0] 26)) := (Below.refl _ _).alloc (Nat.le_refl _) _
  have HIN0 : Hid (Byt (w.alloc (Obj.cells #[Value.slice none 0 0, Value.slice none 0 0] 26)) a bs) := hb.below hw (Nat.le_refl _)
  have HR : Hid (Box2 (w.alloc (Obj.cells #[Value.slice none 0 0, Value.slice none 0 0] 26)) w.heap.size (.slice none 0 0) (.slice none 0 0) ∧ Below w.heap.size w (w.alloc (Obj.cells #[Value.slice none 0 0, Value.slice none 0 0] 26))) := ⟨Box2.new _ _ _ _, hw⟩
  clear hw hb
  go_enter Try.func5, Try.ntmps5
  go_wp2_with fail
  generalize w.alloc (Obj.cells #[Value.slice none 0 0, Value.slice none 0 0] 26) = W at *
  refine (l1New_any a bs cap W HIN0.out hl).mono ?_
  rintro e w1 ⟨rfl, hd1⟩
  have hR1 := hd1.cur.lt
  have HD1 : Hid (Dr W w1 W.heap.size W.heap.size a bs cap) := hd1
  have HWB : Hid (w.heap.size < W.heap.size) := HR.out.1.lt
  clear hd1 HIN0
  generalize hB : W.heap.size = B at *
  clear hB
  go_wp2_with fail
  refine HD1.out.bent6.mono ?_
  rintro e w2 ⟨⟨sa, sc, pa, pc, es, fs, rfl, hg, h5, h61, h256⟩, hd2, ho2⟩
  have HG2 : Hid (RawG w2 w1.heap.size sa pa es fs ∧ Dr W w2 B B a bs cap ∧ w1.heap.size ≤ w2.heap.size) := ⟨hg, hd2, ho2.size⟩
  have HLL : Hid (es.length ≤ 5 ∧ fs.length ≤ 61 ∧ ∀ e ∈ es ++ fs, e.ls.length ≤ 256) := ⟨h5, h61, h256⟩
  clear hg hd2 ho2 h5 h61 h256 HD1
  have hba : Below w2.heap.size w2 (w2.alloc (Obj.cells #[.slice sa es.length sc, .slice pa fs.length pc] 26)) := (Below.refl _ _).alloc (Nat.le_refl _) _
  have HG3 : Hid (RawG (w2.alloc (Obj.cells #[.slice sa es.length sc, .slice pa fs.length pc] 26)) w1.heap.size sa pa es fs ∧ Dr W (w2.alloc (Obj.cells #[.slice sa es.length sc, .slice pa fs.length pc] 26)) B B a bs cap ∧ Box2 (w2.alloc (Obj.cells #[.slice sa es.length sc, .slice pa fs.length pc] 26)) w2.heap.size (.slice sa es.length sc) (.slice pa fs.length pc) ∧ w1.heap.size ≤ w2.heap.size) := ⟨HG2.out.1.stay (S := fun _ => False) (Only.ofBelow hba (Nat.le_refl _)) (by simp), HG2.out.2.1.other (S := fun _ => False) (Only.ofBelow hba (Nat.le_refl _)) (by simp) (by simp), Box2.new _ _ _ _, HG2.out.2.2⟩
  clear hba HG2
  go_wp2_with fail
  generalize w2.alloc (Obj.cells #[.slice sa es.length sc, .slice pa fs.length pc] 26) = w3 at *
  generalize w2.heap.size = X at *
  have hCB : B < w1.heap.size := hR1.2
  generalize w1.heap.size = C at *
  have hCX := HG3.out.2.2.2
  refine HG3.out.2.1.sector.mono ?_
  rintro e w4 ⟨⟨g, zs, rfl, hzl, how⟩, hd4, ho4⟩
  have hgl : X < g := by have := how.lt.1; have := HG3.out.2.2.1.lt; omega
  have HG4 : Hid (RawG w4 C sa pa es fs ∧ Dr W w4 B B a bs cap ∧ Box2 w4 X (.slice sa es.length sc) (.slice pa fs.length pc) ∧ Byt w4 (some ⟨g, 0, none⟩) zs) := ⟨HG3.out.1.stay ho4 (fun k hk e => by omega), hd4, HG3.out.2.2.1.only ho4 (by omega), how.byt⟩
  have HZL : Hid (zs.length = 256 ∧ True) := ⟨hzl, trivial⟩
  clear hzl how hd4 ho4 HG3
  go_wp2_with fail
  refine (HG4.out.2.1.once 9 (by omega) (by omega)).mono ?_
  rintro e w5 ⟨⟨b, rfl⟩, hd5, ho5⟩
  have h5 := HLL.out.1
  have hwr2 : IntKind.i64.wrap ((es.length : Int) + 2) = (es.length : Int) + 2 := IntWalk.i64_in _ (by omega)
  cases b with
  | false =>
    have hbr : ∀ k, rowOf (some ⟨g, 0, none⟩) k → X < k := by rintro k ⟨x, e, rfl⟩; simp at e; subst e; exact hgl
    have HF : Hid (RawG w5 C sa pa es fs ∧ Dr W w5 B B a bs cap ∧ Box2 w5 X (.slice sa es.length sc) (.slice pa fs.length pc) ∧ Byt w5 (some ⟨g, 0, none⟩) zs) := ⟨HG4.out.1.stay ho5 (fun k hk e => by omega), hd5, HG4.out.2.2.1.only ho5 (by omega), HG4.out.2.2.2.stayR ho5 (fun k hk e => by have := hbr k hk; omega)⟩
    obtain ⟨x0, x1, x2, x3, xl⟩ := HF.out.2.2.1
    clear hd5 ho5 HG4
    go_wp2
    refine wp_region_cut (S := fun W => W.cell? ⟨X, 0, none⟩ = some (.slice sa es.length sc) ∧ W.cell? ⟨X, 1, none⟩ = some (.slice pa fs.length pc)) 12 (by kernel_rfl) (by kernel_rfl) (by exact ⟨x0, x1⟩) (fun hHeld => ?_)
    refine wpAnyH_take (i := 0) (v := ?_) rfl (by kernel_rfl) (by kernel_rfl) (by kernel_rfl) (fun _ _ _ h => h) (Or.inl ⟨by rfl, ?_⟩) (by assumption) ?_
    rotate_left 1
    · (intro w hSw; (try dsimp only at hSw); go_simp; try (with_reducible rfl))
    try simp only [List.getElem_toArray, List.getElem_cons_zero, List.getElem_cons_succ, Act.put, List.setIfInBounds_toArray, List.set_cons_zero, List.set_cons_succ]
    refine wpAnyH_take (i := 1) (v := ?_) rfl (by kernel_rfl) (by kernel_rfl) (by kernel_rfl) (fun _ _ _ h => h) (Or.inl ⟨by rfl, ?_⟩) (by assumption) ?_
    rotate_left 1
    · (intro w hSw; (try dsimp only at hSw); go_simp; try (with_reducible rfl))
    try simp only [List.getElem_toArray, List.getElem_cons_zero, List.getElem_cons_succ, Act.put, List.setIfInBounds_toArray, List.set_cons_zero, List.set_cons_succ]
    refine wpAnyH_take (i := 2) (v := ?_) rfl (by kernel_rfl) (by kernel_rfl) (by kernel_rfl) (fun _ _ _ h => h) (Or.inl ⟨by rfl, ?_⟩) (by assumption) ?_
    rotate_left 1
    · (intro w hSw; (try dsimp only at hSw); go_simp; try (with_reducible rfl))
    try simp only [List.getElem_toArray, List.getElem_cons_zero, List.getElem_cons_succ, Act.put, List.setIfInBounds_toArray, List.set_cons_zero, List.set_cons_succ]
    refine wpAnyH_take (i := 3) (v := ?_) rfl (by kernel_rfl) (by kernel_rfl) (by kernel_rfl) (fun _ _ _ h => h) (Or.inl ⟨by rfl, ?_⟩) (by assumption) ?_
    rotate_left 1
    · (intro w hSw; (try dsimp only at hSw); go_simp; try (with_reducible rfl))
    try simp only [List.getElem_toArray, List.getElem_cons_zero, List.getElem_cons_succ, Act.put, List.setIfInBounds_toArray, List.set_cons_zero, List.set_cons_succ]
    refine wpAnyH_take (i := 4) (v := ?_) rfl (by kernel_rfl) (by kernel_rfl) (by kernel_rfl) (fun _ _ _ h => h) (Or.inl ⟨by rfl, ?_⟩) (by assumption) ?_
    rotate_left 1
    · (intro w hSw; (try dsimp only at hSw); go_simp; try (with_reducible rfl))
    try simp only [List.getElem_toArray, List.getElem_cons_zero, List.getElem_cons_succ, Act.put, List.setIfInBounds_toArray, List.set_cons_zero, List.set_cons_succ]
    refine wpAnyH_take (i := 5) (v := ?_) rfl (by kernel_rfl) (by kernel_rfl) (by kernel_rfl) (fun _ _ _ h => h) (Or.inl ⟨by rfl, ?_⟩) (by assumption) ?_
    rotate_left 1
    · (intro w hSw; (try dsimp only at hSw); go_simp; try (with_reducible rfl))
    try simp only [List.getElem_toArray, List.getElem_cons_zero, List.getElem_cons_succ, Act.put, List.setIfInBounds_toArray, List.set_cons_zero, List.set_cons_succ]
    refine wpAnyH_take (i := 8) (v := ?_) rfl (by kernel_rfl) (by kernel_rfl) (by kernel_rfl) (fun _ _ _ h => h) (Or.inl ⟨by rfl, ?_⟩) (by assumption) ?_
    rotate_left 1
    · (intro w hSw; (try dsimp only at hSw); go_simp; try (with_reducible rfl))
    try simp only [List.getElem_toArray, List.getElem_cons_zero, List.getElem_cons_succ, Act.put, List.setIfInBounds_toArray, List.set_cons_zero, List.set_cons_succ]
    refine wpAnyH_ready (rs := [6]) (by kernel_rfl) (by simp) ?_
    refine AllReadyH.cons rfl (fun K hK => ?_) AllReadyH.nil
    go_simp
    refine ((HF.out.2.1.other (S := fun _ => False) (Only.drew (Only.refl _ _)) (by simp) (by simp)).below ((es.length : Int) + 2) (by omega) (by omega)).mono ?_
    rintro e w7 ⟨⟨y, hy0, hy1, rfl⟩, hd7, ho7'⟩
    have hwr3 : IntKind.i64.wrap (y - 1) = y - 1 := IntWalk.i64_in _ (by omega)
    have ho7 : Only (fun k => k = B) w5 w7 := (Only.drew (Only.refl (fun k => k = B) w5)).trans ho7'
    have HF7 : Hid (RawG w7 C sa pa es fs ∧ Dr W w7 B B a bs cap ∧ Box2 w7 X (.slice sa es.length sc) (.slice pa fs.length pc) ∧ Byt w7 (some ⟨g, 0, none⟩) zs) := ⟨HF.out.1.stay ho7 (fun k hk e => by omega), hd7, HF.out.2.2.1.only ho7 (by omega), HF.out.2.2.2.stayR ho7 (fun k hk e => by have := hbr k hk; omega)⟩
    clear hd7 ho7 ho7'
    have hwB := HWB.out
    obtain ⟨r0, r1, r2, r3, rl⟩ := HR.out.1.keep HF7.out.2.1.bel HWB.out
    have hon : Only (fun b => b = w.heap.size) w7 ((w7.setCell ⟨w.heap.size, 0, none⟩ (.slice sa es.length sc)).setCell ⟨w.heap.size, 1, none⟩ (.slice pa fs.length pc)) := ((Only.refl (fun b => b = w.heap.size) w7).setCell (p := ⟨w.heap.size, 0, none⟩) (.inl rfl) _).setCell (p := ⟨w.heap.size, 1, none⟩) (.inl rfl) _
    have HZ : Hid (RawI ((w7.setCell ⟨w.heap.size, 0, none⟩ (.slice sa es.length sc)).setCell ⟨w.heap.size, 1, none⟩ (.slice pa fs.length pc)) sa pa es fs ∧ Byt ((w7.setCell ⟨w.heap.size, 0, none⟩ (.slice sa es.length sc)).setCell ⟨w.heap.size, 1, none⟩ (.slice pa fs.length pc)) (some ⟨g, 0, none⟩) zs ∧ Below w.heap.size w ((w7.setCell ⟨w.heap.size, 0, none⟩ (.slice sa es.length sc)).setCell ⟨w.heap.size, 1, none⟩ (.slice pa fs.length pc))) := ⟨(HF7.out.1.stay hon (fun k hk e => by omega)).inn, HF7.out.2.2.2.stayR hon (fun k hk e => by have := hbr k hk; omega), ((HR.out.2.trans (HF7.out.2.1.bel.mono (by omega))).setCell (p := ⟨w.heap.size, 0, none⟩) (by simp) _).setCell (p := ⟨w.heap.size, 1, none⟩) (by simp) _⟩
    have HXX : Hid (Box2 ((w7.setCell ⟨w.heap.size, 0, none⟩ (.slice sa es.length sc)).setCell ⟨w.heap.size, 1, none⟩ (.slice pa fs.length pc)) X (.slice sa es.length sc) (.slice pa fs.length pc)) := HF7.out.2.2.1.only hon (by omega)
    dsimp only
    refine hK.out _ _ (by exact ⟨HF7.out.2.2.1.c0, HF7.out.2.2.1.c1⟩) (fun hHeld => ?_)
    clear hK K
    try simp only [List.getElem_toArray, List.getElem_cons_zero, List.getElem_cons_succ, Act.put, List.setIfInBounds_toArray, List.set_cons_zero, List.set_cons_succ]
    refine wpAnyH_take (i := 7) (v := ?_) rfl (by kernel_rfl) (by kernel_rfl) (by kernel_rfl) (fun _ _ _ h => h) (Or.inl ⟨by rfl, ?_⟩) (by assumption) ?_
    rotate_left 1
    · (intro w hSw; (try dsimp only at hSw); go_simp; try (with_reducible rfl))
    try simp only [List.getElem_toArray, List.getElem_cons_zero, List.getElem_cons_succ, Act.put, List.setIfInBounds_toArray, List.set_cons_zero, List.set_cons_succ]
    refine wpAnyH_ready (rs := [9]) (by kernel_rfl) (by simp) ?_
    refine AllReadyH.cons rfl (fun K hK => ?_) AllReadyH.nil
    go_simp
    refine hK.out _ _ (by exact ⟨HXX.out.c0, HXX.out.c1⟩) (fun hHeld => ?_)
    clear hK K
    try simp only [List.getElem_toArray, List.getElem_cons_zero, List.getElem_cons_succ, Act.put, List.setIfInBounds_toArray, List.set_cons_zero, List.set_cons_succ]
    refine wpAnyH_ready (rs := [10]) (by kernel_rfl) (by simp) ?_
    refine AllReadyH.cons rfl (fun K hK => ?_) AllReadyH.nil
    go_simp
    refine hK.out _ _ (by exact ⟨HXX.out.c0, HXX.out.c1⟩) (fun hHeld => ?_)
    clear hK K
    try simp only [List.getElem_toArray, List.getElem_cons_zero, List.getElem_cons_succ, Act.put, List.setIfInBounds_toArray, List.set_cons_zero, List.set_cons_succ]
    refine wpAnyH_ready (rs := [11]) (by kernel_rfl) (by simp) ?_
    refine AllReadyH.cons rfl (fun K hK => ?_) AllReadyH.nil
    go_simp
    refine hK.out _ _ (by exact ⟨HXX.out.c0, HXX.out.c1⟩) (fun hHeld => ?_)
    clear hK K
    try simp only [List.getElem_toArray, List.getElem_cons_zero, List.getElem_cons_succ, Act.put, List.setIfInBounds_toArray, List.set_cons_zero, List.set_cons_succ]
    refine wpAnyH_done (by kernel_rfl) ?_ _
    simp only [cutQ, List.drop_succ_cons, List.drop_zero]

    clear hon x0 x1 x2 x3 xl HF
    go_wp2
    exact bodyPost_ret (v := .tuple #[.agg #[.slice sa es.length sc, .slice pa fs.length pc], .int .i64 (y - 1), .slice (some ⟨g, 0, none⟩) 256 256]) (by simp [results, Try.results5, go_sem, r0, r1]) rfl ⟨sa, sc, pa, pc, es, fs, y - 1, (some ⟨g, 0, none⟩), 256, zs, by rw [HZL.out.1], HZ.out.1, HZ.out.2.1, ⟨HLL.out.1, HLL.out.2.1, by first | exact HLL.out.2.2 | exact fun e he => HLL.out.2.2 e (List.mem_append.2 he), by first | omega | (have := HZL.out.1; omega), by omega, by omega⟩, HZ.out.2.2⟩
  | true =>
    have hbr : ∀ k, rowOf (some ⟨g, 1, none⟩) k → X < k := by rintro k ⟨x, e, rfl⟩; simp at e; subst e; exact hgl
    have hbr0 : ∀ k, rowOf (some ⟨g, 0, none⟩) k → X < k := by rintro k ⟨x, e, rfl⟩; simp at e; subst e; exact hgl
    have hdl : (zs.drop 1).length = 255 := by rw [List.length_drop, HZL.out.1]
    have HF : Hid (RawG w5 C sa pa es fs ∧ Dr W w5 B B a bs cap ∧ Box2 w5 X (.slice sa es.length sc) (.slice pa fs.length pc) ∧ Byt w5 (some ⟨g, 1, none⟩) (zs.drop 1)) := by
      refine ⟨HG4.out.1.stay ho5 (fun k hk e => by omega), hd5, HG4.out.2.2.1.only ho5 (by omega), ?_⟩
      have hby := HG4.out.2.2.2.stayR ho5 (fun k hk e => by have := hbr0 k hk; omega)
      refine ⟨fun z hz => hby.1 z (List.mem_of_mem_drop hz), fun hp => ?_⟩
      obtain ⟨b', o', e, h1, h2⟩ := hby.2 (by rw [HZL.out.1]; omega)
      simp at e
      obtain ⟨rfl, rfl⟩ := e
      refine ⟨g, 1, rfl, h1, fun i hi => ?_⟩
      have h9 := h2 (1 + i) (by rw [HZL.out.1]; omega)
      rw [Nat.zero_add] at h9
      rw [h9, drop_getD]
    have HZL2 : Hid ((zs.drop 1).length = 255 ∧ True) := ⟨hdl, trivial⟩
    obtain ⟨x0, x1, x2, x3, xl⟩ := HF.out.2.2.1
    clear hd5 ho5 HG4 hdl
    generalize zs.drop 1 = ys at *
    go_wp2
    refine wp_region_cut (S := fun W => W.cell? ⟨X, 0, none⟩ = some (.slice sa es.length sc) ∧ W.cell? ⟨X, 1, none⟩ = some (.slice pa fs.length pc)) 12 (by kernel_rfl) (by kernel_rfl) (by exact ⟨x0, x1⟩) (fun hHeld => ?_)
    refine wpAnyH_take (i := 0) (v := ?_) rfl (by kernel_rfl) (by kernel_rfl) (by kernel_rfl) (fun _ _ _ h => h) (Or.inl ⟨by rfl, ?_⟩) (by assumption) ?_
    rotate_left 1
    · (intro w hSw; (try dsimp only at hSw); go_simp; try (with_reducible rfl))
    try simp only [List.getElem_toArray, List.getElem_cons_zero, List.getElem_cons_succ, Act.put, List.setIfInBounds_toArray, List.set_cons_zero, List.set_cons_succ]
    refine wpAnyH_take (i := 1) (v := ?_) rfl (by kernel_rfl) (by kernel_rfl) (by kernel_rfl) (fun _ _ _ h => h) (Or.inl ⟨by rfl, ?_⟩) (by assumption) ?_
    rotate_left 1
    · (intro w hSw; (try dsimp only at hSw); go_simp; try (with_reducible rfl))
    try simp only [List.getElem_toArray, List.getElem_cons_zero, List.getElem_cons_succ, Act.put, List.setIfInBounds_toArray, List.set_cons_zero, List.set_cons_succ]
    refine wpAnyH_take (i := 2) (v := ?_) rfl (by kernel_rfl) (by kernel_rfl) (by kernel_rfl) (fun _ _ _ h => h) (Or.inl ⟨by rfl, ?_⟩) (by assumption) ?_
    rotate_left 1
    · (intro w hSw; (try dsimp only at hSw); go_simp; try (with_reducible rfl))
    try simp only [List.getElem_toArray, List.getElem_cons_zero, List.getElem_cons_succ, Act.put, List.setIfInBounds_toArray, List.set_cons_zero, List.set_cons_succ]
    refine wpAnyH_take (i := 3) (v := ?_) rfl (by kernel_rfl) (by kernel_rfl) (by kernel_rfl) (fun _ _ _ h => h) (Or.inl ⟨by rfl, ?_⟩) (by assumption) ?_
    rotate_left 1
    · (intro w hSw; (try dsimp only at hSw); go_simp; try (with_reducible rfl))
    try simp only [List.getElem_toArray, List.getElem_cons_zero, List.getElem_cons_succ, Act.put, List.setIfInBounds_toArray, List.set_cons_zero, List.set_cons_succ]
    refine wpAnyH_take (i := 4) (v := ?_) rfl (by kernel_rfl) (by kernel_rfl) (by kernel_rfl) (fun _ _ _ h => h) (Or.inl ⟨by rfl, ?_⟩) (by assumption) ?_
    rotate_left 1
    · (intro w hSw; (try dsimp only at hSw); go_simp; try (with_reducible rfl))
    try simp only [List.getElem_toArray, List.getElem_cons_zero, List.getElem_cons_succ, Act.put, List.setIfInBounds_toArray, List.set_cons_zero, List.set_cons_succ]
    refine wpAnyH_take (i := 5) (v := ?_) rfl (by kernel_rfl) (by kernel_rfl) (by kernel_rfl) (fun _ _ _ h => h) (Or.inl ⟨by rfl, ?_⟩) (by assumption) ?_
    rotate_left 1
    · (intro w hSw; (try dsimp only at hSw); go_simp; try (with_reducible rfl))
    try simp only [List.getElem_toArray, List.getElem_cons_zero, List.getElem_cons_succ, Act.put, List.setIfInBounds_toArray, List.set_cons_zero, List.set_cons_succ]
    refine wpAnyH_take (i := 8) (v := ?_) rfl (by kernel_rfl) (by kernel_rfl) (by kernel_rfl) (fun _ _ _ h => h) (Or.inl ⟨by rfl, ?_⟩) (by assumption) ?_
    rotate_left 1
    · (intro w hSw; (try dsimp only at hSw); go_simp; try (with_reducible rfl))
    try simp only [List.getElem_toArray, List.getElem_cons_zero, List.getElem_cons_succ, Act.put, List.setIfInBounds_toArray, List.set_cons_zero, List.set_cons_succ]
    refine wpAnyH_ready (rs := [6]) (by kernel_rfl) (by simp) ?_
    refine AllReadyH.cons rfl (fun K hK => ?_) AllReadyH.nil
    go_simp
    refine ((HF.out.2.1.other (S := fun _ => False) (Only.drew (Only.refl _ _)) (by simp) (by simp)).below ((es.length : Int) + 2) (by omega) (by omega)).mono ?_
    rintro e w7 ⟨⟨y, hy0, hy1, rfl⟩, hd7, ho7'⟩
    have hwr3 : IntKind.i64.wrap (y - 1) = y - 1 := IntWalk.i64_in _ (by omega)
    have ho7 : Only (fun k => k = B) w5 w7 := (Only.drew (Only.refl (fun k => k = B) w5)).trans ho7'
    have HF7 : Hid (RawG w7 C sa pa es fs ∧ Dr W w7 B B a bs cap ∧ Box2 w7 X (.slice sa es.length sc) (.slice pa fs.length pc) ∧ Byt w7 (some ⟨g, 1, none⟩) ys) := ⟨HF.out.1.stay ho7 (fun k hk e => by omega), hd7, HF.out.2.2.1.only ho7 (by omega), HF.out.2.2.2.stayR ho7 (fun k hk e => by have := hbr k hk; omega)⟩
    clear hd7 ho7 ho7'
    have hwB := HWB.out
    obtain ⟨r0, r1, r2, r3, rl⟩ := HR.out.1.keep HF7.out.2.1.bel HWB.out
    have hon : Only (fun b => b = w.heap.size) w7 ((w7.setCell ⟨w.heap.size, 0, none⟩ (.slice sa es.length sc)).setCell ⟨w.heap.size, 1, none⟩ (.slice pa fs.length pc)) := ((Only.refl (fun b => b = w.heap.size) w7).setCell (p := ⟨w.heap.size, 0, none⟩) (.inl rfl) _).setCell (p := ⟨w.heap.size, 1, none⟩) (.inl rfl) _
    have HZ : Hid (RawI ((w7.setCell ⟨w.heap.size, 0, none⟩ (.slice sa es.length sc)).setCell ⟨w.heap.size, 1, none⟩ (.slice pa fs.length pc)) sa pa es fs ∧ Byt ((w7.setCell ⟨w.heap.size, 0, none⟩ (.slice sa es.length sc)).setCell ⟨w.heap.size, 1, none⟩ (.slice pa fs.length pc)) (some ⟨g, 1, none⟩) ys ∧ Below w.heap.size w ((w7.setCell ⟨w.heap.size, 0, none⟩ (.slice sa es.length sc)).setCell ⟨w.heap.size, 1, none⟩ (.slice pa fs.length pc))) := ⟨(HF7.out.1.stay hon (fun k hk e => by omega)).inn, HF7.out.2.2.2.stayR hon (fun k hk e => by have := hbr k hk; omega), ((HR.out.2.trans (HF7.out.2.1.bel.mono (by omega))).setCell (p := ⟨w.heap.size, 0, none⟩) (by simp) _).setCell (p := ⟨w.heap.size, 1, none⟩) (by simp) _⟩
    have HXX : Hid (Box2 ((w7.setCell ⟨w.heap.size, 0, none⟩ (.slice sa es.length sc)).setCell ⟨w.heap.size, 1, none⟩ (.slice pa fs.length pc)) X (.slice sa es.length sc) (.slice pa fs.length pc)) := HF7.out.2.2.1.only hon (by omega)
    dsimp only
    refine hK.out _ _ (by exact ⟨HF7.out.2.2.1.c0, HF7.out.2.2.1.c1⟩) (fun hHeld => ?_)
    clear hK K
    try simp only [List.getElem_toArray, List.getElem_cons_zero, List.getElem_cons_succ, Act.put, List.setIfInBounds_toArray, List.set_cons_zero, List.set_cons_succ]
    refine wpAnyH_take (i := 7) (v := ?_) rfl (by kernel_rfl) (by kernel_rfl) (by kernel_rfl) (fun _ _ _ h => h) (Or.inl ⟨by rfl, ?_⟩) (by assumption) ?_
    rotate_left 1
    · (intro w hSw; (try dsimp only at hSw); go_simp; try (with_reducible rfl))
    try simp only [List.getElem_toArray, List.getElem_cons_zero, List.getElem_cons_succ, Act.put, List.setIfInBounds_toArray, List.set_cons_zero, List.set_cons_succ]
    refine wpAnyH_ready (rs := [9]) (by kernel_rfl) (by simp) ?_
    refine AllReadyH.cons rfl (fun K hK => ?_) AllReadyH.nil
    go_simp
    refine hK.out _ _ (by exact ⟨HXX.out.c0, HXX.out.c1⟩) (fun hHeld => ?_)
    clear hK K
    try simp only [List.getElem_toArray, List.getElem_cons_zero, List.getElem_cons_succ, Act.put, List.setIfInBounds_toArray, List.set_cons_zero, List.set_cons_succ]
    refine wpAnyH_ready (rs := [10]) (by kernel_rfl) (by simp) ?_
    refine AllReadyH.cons rfl (fun K hK => ?_) AllReadyH.nil
    go_simp
    refine hK.out _ _ (by exact ⟨HXX.out.c0, HXX.out.c1⟩) (fun hHeld => ?_)
    clear hK K
    try simp only [List.getElem_toArray, List.getElem_cons_zero, List.getElem_cons_succ, Act.put, List.setIfInBounds_toArray, List.set_cons_zero, List.set_cons_succ]
    refine wpAnyH_ready (rs := [11]) (by kernel_rfl) (by simp) ?_
    refine AllReadyH.cons rfl (fun K hK => ?_) AllReadyH.nil
    go_simp
    refine hK.out _ _ (by exact ⟨HXX.out.c0, HXX.out.c1⟩) (fun hHeld => ?_)
    clear hK K
    try simp only [List.getElem_toArray, List.getElem_cons_zero, List.getElem_cons_succ, Act.put, List.setIfInBounds_toArray, List.set_cons_zero, List.set_cons_succ]
    refine wpAnyH_done (by kernel_rfl) ?_ _
    simp only [cutQ, List.drop_succ_cons, List.drop_zero]

    clear hon x0 x1 x2 x3 xl HF
    go_wp2
    exact bodyPost_ret (v := .tuple #[.agg #[.slice sa es.length sc, .slice pa fs.length pc], .int .i64 (y - 1), .slice (some ⟨g, 1, none⟩) 255 255]) (by simp [results, Try.results5, go_sem, r0, r1]) rfl ⟨sa, sc, pa, pc, es, fs, y - 1, (some ⟨g, 1, none⟩), 255, ys, by rw [HZL2.out.1], HZ.out.1, HZ.out.2.1, ⟨HLL.out.1, HLL.out.2.1, by first | exact HLL.out.2.2 | exact fun e he => HLL.out.2.2 e (List.mem_append.2 he), by first | omega | (have := HZL2.out.1; omega), by omega, by omega⟩, HZ.out.2.2⟩
end Go.Proofs.Ytpedfcknmeeknaa
