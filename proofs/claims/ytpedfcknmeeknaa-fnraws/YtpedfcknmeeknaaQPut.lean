/-
  The queue's put.
-/
import Derived.Test.YtpedfcknmeeknaaQueue
import Derived.Test.YtpedfcknmeeknaaCut
namespace Go.Proofs.Ytpedfcknmeeknaa
open Go.RowKit
set_option linter.unusedVariables false
set_option linter.unusedSimpArgs false

set_option maxHeartbeats 1600000 in
theorem put_yes (B Q : Nat) (va : Option Addr) (vc : Nat) (es : List El) (n : Int) (a : Option Addr) (c : Nat) (ls : List Int) (w : World) (hq : Que w B Q (.slice va es.length vc) es) (hB : B ≤ w.heap.size) (hn : es.length < 60) :
    Calls Try.prog 24 #[.pointer (some ⟨Q, 0, none⟩), .agg #[.int .i64 n, .slice a ls.length c]] w fun e w' => e = .returned (.bool true) ∧ (∃ va' vc', Que w' B Q (.slice va' (es.length + 1) vc') (es ++ [⟨n, a, c, ls⟩])) ∧ Below B w w' := by
  have HQ : Hid (Que w B Q (.slice va es.length vc) es) := hq
  have HNE : Hid (¬ (Value.slice va es.length vc).ownBlock = some Q) := hq.ne
  obtain ⟨z0, z1, y0, y1, zl⟩ := hq.box
  have hcmp : ¬ (60 : Int) ≤ (es.length : Int) := by omega
  clear hq
  go_enter Try.func24, Try.ntmps24
  go_wp2
  go_quiet (fail)
  have hba : Below w.heap.size w ((w.alloc (Obj.cells #[.int .i64 n, .slice a ls.length c] 44)).drewN nq) := ((Below.refl _ _).alloc (Nat.le_refl _) _).trans ⟨rfl, rfl, rfl, Nat.le_refl _, fun _ _ => rfl⟩
  have hbn : Box2 ((w.alloc (Obj.cells #[.int .i64 n, .slice a ls.length c] 44)).drewN nq) w.heap.size (.int .i64 n) (.slice a ls.length c) := (Box2.new w _ _ _).keep (B := (w.alloc (Obj.cells #[.int .i64 n, .slice a ls.length c] 44)).heap.size) ⟨rfl, rfl, rfl, Nat.le_refl _, fun _ _ => rfl⟩ (by simp)
  have hsz : w.heap.size < ((w.alloc (Obj.cells #[.int .i64 n, .slice a ls.length c] 44)).drewN nq).heap.size := hbn.lt
  generalize (w.alloc (Obj.cells #[.int .i64 n, .slice a ls.length c] 44)).drewN nq = W1 at *
  have hbx := HQ.out.box.keep hba HQ.out.box.lt
  have hbd : Below W1.heap.size W1 (W1.drew.alloc (Obj.cells #[.int .i64 n, .slice a ls.length c] 44)) := Below.drewS ((Below.refl W1.heap.size W1.drew).alloc (Nat.le_refl _) _)
  have HBB : Hid (Box2 (W1.drew.alloc (Obj.cells #[.int .i64 n, .slice a ls.length c] 44)) Q (.slice va es.length vc) (.int .i64 60) ∧ Box2 (W1.drew.alloc (Obj.cells #[.int .i64 n, .slice a ls.length c] 44)) w.heap.size (.int .i64 n) (.slice a ls.length c)) := ⟨hbx.keep hbd hbx.lt, hbn.keep hbd hbn.lt⟩
  have HRW : Hid (OVr true (W1.drew.alloc (Obj.cells #[.int .i64 n, .slice a ls.length c] 44)) B (.slice va es.length vc) es) := (HQ.out.row.below hba).below hbd
  have HBE : Hid (Below B w (W1.drew.alloc (Obj.cells #[.int .i64 n, .slice a ls.length c] 44))) := (hba.mono hB).trans (hbd.mono (by omega))
  obtain ⟨a0, a1, b0, b1, al⟩ := hbx
  obtain ⟨e0, e1, -, -, el⟩ := hbn
  clear hba hbd z0 z1 y0 y1
  go_wp2
  refine wp_region_cut (S := fun W => W.cell? ⟨Q, 0, none⟩ = some (.slice va es.length vc) ∧ W.cell? ⟨w.heap.size, 0, none⟩ = some (.int .i64 n) ∧ W.cell? ⟨w.heap.size, 1, none⟩ = some (.slice a ls.length c)) 8 (by kernel_rfl) (by kernel_rfl) (by exact ⟨a0, e0, e1⟩) (fun hHeld => ?_)
  refine wpAnyH_take (i := 0) (v := ?_) rfl (by kernel_rfl) (by kernel_rfl) (by kernel_rfl) (fun _ _ _ h => h) (Or.inl ⟨by rfl, ?_⟩) (by assumption) ?_
  rotate_left 1
  · (intro w hSw; (try dsimp only at hSw); go_simp; try (with_reducible rfl))
  try simp only [List.getElem_toArray, List.getElem_cons_zero, List.getElem_cons_succ, Act.put, List.setIfInBounds_toArray, List.set_cons_zero, List.set_cons_succ]
  refine wpAnyH_take (i := 1) (v := ?_) rfl (by kernel_rfl) (by kernel_rfl) (by kernel_rfl) (fun _ _ _ h => h) (Or.inl ⟨by rfl, ?_⟩) (by assumption) ?_
  rotate_left 1
  · (intro w hSw; (try dsimp only at hSw); go_simp; try (with_reducible rfl))
  try simp only [List.getElem_toArray, List.getElem_cons_zero, List.getElem_cons_succ, Act.put, List.setIfInBounds_toArray, List.set_cons_zero, List.set_cons_succ]
  refine wpAnyH_take (i := 2) (v := ?_) rfl (by kernel_rfl) (by kernel_rfl) (by kernel_rfl) (fun _ _ _ h => h) (Or.inl ⟨by rfl, ?_⟩) (by assumption) ?_
  rotate_left 1
  · (intro w hSw; (try dsimp only at hSw); go_simp; try (with_reducible rfl))
  try simp only [List.getElem_toArray, List.getElem_cons_zero, List.getElem_cons_succ, Act.put, List.setIfInBounds_toArray, List.set_cons_zero, List.set_cons_succ]
  refine wpAnyH_take (i := 3) (v := ?_) rfl (by kernel_rfl) (by kernel_rfl) (by kernel_rfl) (fun _ _ _ h => h) (Or.inl ⟨by rfl, ?_⟩) (by assumption) ?_
  rotate_left 1
  · (intro w hSw; (try dsimp only at hSw); go_simp; try (with_reducible rfl))
  try simp only [List.getElem_toArray, List.getElem_cons_zero, List.getElem_cons_succ, Act.put, List.setIfInBounds_toArray, List.set_cons_zero, List.set_cons_succ]
  refine wpAnyH_take (i := 4) (v := ?_) rfl (by kernel_rfl) (by kernel_rfl) (by kernel_rfl) (fun _ _ _ h => h) (Or.inl ⟨by rfl, ?_⟩) (by assumption) ?_
  rotate_left 1
  · (intro w hSw; (try dsimp only at hSw); go_simp; try (with_reducible rfl))
  try simp only [List.getElem_toArray, List.getElem_cons_zero, List.getElem_cons_succ, Act.put, List.setIfInBounds_toArray, List.set_cons_zero, List.set_cons_succ]
  refine wpAnyH_take (i := 5) (v := ?_) rfl (by kernel_rfl) (by kernel_rfl) (by kernel_rfl) (fun _ _ _ h => h) (Or.inl ⟨by rfl, ?_⟩) (by assumption) ?_
  rotate_left 1
  · (intro w hSw; (try dsimp only at hSw); go_simp; try (with_reducible rfl))
  try simp only [List.getElem_toArray, List.getElem_cons_zero, List.getElem_cons_succ, Act.put, List.setIfInBounds_toArray, List.set_cons_zero, List.set_cons_succ]
  refine wpAnyH_ready (rs := [6]) (by kernel_rfl) (by simp) ?_
  refine AllReadyH.cons rfl (fun K hK => ?_) AllReadyH.nil
  go_simp
  refine hK.out _ _ (by exact ⟨HBB.out.1.c0, HBB.out.2.c0, HBB.out.2.c1⟩) (fun hHeld => ?_)
  clear hK K
  try simp only [List.getElem_toArray, List.getElem_cons_zero, List.getElem_cons_succ, Act.put, List.setIfInBounds_toArray, List.set_cons_zero, List.set_cons_succ]
  refine wpAnyH_ready (rs := [7]) (by kernel_rfl) (by simp) ?_
  refine AllReadyH.cons rfl (fun K hK => ?_) AllReadyH.nil
  refine wanted_step rfl (wp_append_el_at true (.tmp 19) (.tmp 21) rfl B (.slice va es.length vc) es (by simp [Act.eval]) (HRW.out) W1.heap.size 1 ⟨n, a, c, ls⟩ (by simp [Act.eval]) (newsP W1.drew n _ ls.length c 44 _ rfl rfl rfl rfl) (by omega) (by simp; omega) ?_)
  intro v3 w3 hov3 hg3 hat3
  obtain ⟨sa3, sc3, hv3⟩ := hov3.form
  rw [List.length_append, List.length_singleton] at hv3
  subst hv3
  have hne2 : ¬ (Value.slice va es.length vc).ownBlock = some w.heap.size := fun he => by have := (HQ.out.row.blk he).2; omega
  have HOG : Hid (Only (fun k => (Value.slice va es.length vc).ownBlock = some k) (W1.drew.alloc (Obj.cells #[.int .i64 n, .slice a ls.length c] 44)) w3) := Only.ofGrown hg3
  have HB3 : Hid (Box2 w3 Q (.slice va es.length vc) (.int .i64 60)) := HBB.out.1.only HOG.out HNE.out
  obtain ⟨c3, d3, g3, -, hl3⟩ := HB3.out
  obtain ⟨p0, p1, -, -, -⟩ := HBB.out.2.only HOG.out hne2
  have HV3 : Hid (OVr true w3 B (.slice sa3 (es.length + 1) sc3) (es ++ [⟨n, a, c, ls⟩]) ∧ Below B w w3) := ⟨hov3, appE_below HBE.out (by simp; omega) HRW.out hg3⟩
  have HFR : Hid (¬ (Value.slice sa3 (es.length + 1) sc3).ownBlock = some Q) := by
    intro he
    rcases hat3 with h | h
    · exact HNE.out (h.symm.trans he)
    · rw [he] at h
      simp at h
      omega
  clear hov3 hg3 hat3
  refine hK.out _ _ (by exact ⟨c3, p0, p1⟩) (fun hHeld => ?_)
  clear hK K
  try simp only [List.getElem_toArray, List.getElem_cons_zero, List.getElem_cons_succ, Act.put, List.setIfInBounds_toArray, List.set_cons_zero, List.set_cons_succ]
  refine wpAnyH_done (by kernel_rfl) ?_ _
  simp only [cutQ, List.drop_succ_cons, List.drop_zero]
  have HQF : Hid (Que (w3.setCell ⟨Q, 0, none⟩ (.slice sa3 (es.length + 1) sc3)) B Q (.slice sa3 (es.length + 1) sc3) (es ++ [⟨n, a, c, ls⟩]) ∧ Below B w (w3.setCell ⟨Q, 0, none⟩ (.slice sa3 (es.length + 1) sc3))) := by
    have hQB := HQ.out.hQ
    have hon : Only (fun b => b = Q) w3 (w3.setCell ⟨Q, 0, none⟩ (.slice sa3 (es.length + 1) sc3)) := (Only.refl (fun b => b = Q) w3).setCell (p := ⟨Q, 0, none⟩) (.inl rfl) _
    refine ⟨⟨HB3.out.set0 _, hQB, HV3.out.1.stay hon (fun b hb e => ?_), HFR.out⟩, HV3.out.2.setCell (p := ⟨Q, 0, none⟩) hQB _⟩
    exact HFR.out (e ▸ hb)
  clear HB3 HV3 HBB HRW HBE a0 a1 b0 b1 e0 e1 p0 p1
  go_wp2
  go_ret
  exact ⟨rfl, ⟨_, _, HQF.out.1⟩, HQF.out.2⟩

set_option maxHeartbeats 1600000 in
theorem put_no (Q : Nat) (va : Option Addr) (vc : Nat) (es : List El) (n : Int) (a : Option Addr) (c : Nat) (ls : List Int) (w : World) (hq : Box2 w Q (.slice va es.length vc) (.int .i64 60)) (hn : 60 ≤ es.length) (hn2 : es.length ≤ 1000000) :
    Calls Try.prog 24 #[.pointer (some ⟨Q, 0, none⟩), .agg #[.int .i64 n, .slice a ls.length c]] w fun e w' => e = .returned (.bool false) ∧ Below w.heap.size w w' := by
  obtain ⟨z0, z1, y0, y1, zl⟩ := hq
  have hcmp : (60 : Int) ≤ (es.length : Int) := by omega
  go_enter Try.func24, Try.ntmps24
  go_wp2
  go_quiet (fail)
  have HBA : Hid (Below w.heap.size w ((w.alloc (Obj.cells #[.int .i64 n, .slice a ls.length c] 44)).drewN nq)) := ((Below.refl _ _).alloc (Nat.le_refl _) _).trans ⟨rfl, rfl, rfl, Nat.le_refl _, fun _ _ => rfl⟩
  go_wp2
  go_ret
  exact ⟨rfl, HBA.out⟩
end Go.Proofs.Ytpedfcknmeeknaa
