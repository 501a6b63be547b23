/-
  The bytes of a map: the model's l8bytes. (Typed by wip/mksb8.py.)
-/
import Derived.Test.YtnelpioadpdphaaMpM
import Derived.Test.YtnelpioadpdphaaBApp0
import Derived.Test.YtnelpioadpdphaaBCut
import Derived.Test.YtnelpioadpdphaaCut
namespace Go.Proofs.Ytnelpioadpdphaa
open Go.RowKit
set_option linter.unusedVariables false
set_option linter.unusedSimpArgs false

def bts (ps : List (Int × Int)) : List Int := ps.flatMap (fun p => [p.1, p.2])
def sbH (e : Int) (n : Nat) : List Int := [83, e / 256, e % 256, n]
/-- The bytes of an epoch and a map. -/
def sbL (e : Int) (ps : List (Int × Int)) : List Int := sbH e ps.length ++ bts ps ++ List.replicate (252 - ps.length * 2) 0
def bP (p : Int × Int) : Prop := (0 ≤ p.1 ∧ p.1 ≤ 255) ∧ (0 ≤ p.2 ∧ p.2 ≤ 255)
theorem bts_len (ps : List (Int × Int)) : (bts ps).length = ps.length * 2 := by
  induction ps with
  | nil => rfl
  | cons p ps ih => rw [show bts (p :: ps) = [p.1, p.2] ++ bts ps from rfl, List.length_append, ih, List.length_cons]; simp; omega
theorem bts_app (ps qs : List (Int × Int)) : bts (ps ++ qs) = bts ps ++ bts qs := by simp [bts, List.flatMap_append]
theorem bts_take_succ (ps : List (Int × Int)) (k : Nat) (h : k < ps.length) : bts (ps.take (k + 1)) = bts (ps.take k) ++ [(ps.getD k dp).1, (ps.getD k dp).2] := by
  rw [List.take_succ_eq_append_getElem h, bts_app]
  simp [bts, List.getD_eq_getElem?_getD, List.getElem?_eq_getElem h]
theorem sbH_len (e : Int) (n : Nat) : (sbH e n).length = 4 := rfl
theorem sbL_len (e : Int) (ps : List (Int × Int)) (h : ps.length ≤ 16) : (sbL e ps).length = 256 := by
  unfold sbL
  simp only [List.length_append, bts_len, sbH_len, List.length_replicate]
  omega
theorem mapB_rng (ps : List (Int × Int)) (h : mapB ps = true) : ∀ p ∈ ps, bP p := by
  intro p hp
  obtain ⟨i, hi, rfl⟩ := List.getElem_of_mem hp
  have hg : ps.getD i dp = ps[i] := by rw [List.getD_eq_getElem?_getD, List.getElem?_eq_getElem hi]; rfl
  have h1 := okT_le ps _ (i + 1) (mapB_okT ps h) (by omega)
  simp only [okT, Bool.and_eq_true, stpP, Bool.or_eq_true] at h1
  rw [hg] at h1
  rcases h1.2 with h2 | h2
  · unfold nwh at h2
    simp only [Bool.and_eq_true, beq_iff_eq] at h2
    unfold bP
    omega
  · have h3 := h2.1
    unfold rgt at h3
    simp only [decide_eq_true_eq] at h3
    unfold bP
    omega
theorem byt_two (w : World) (x y : Int) (hx : 0 ≤ x ∧ x ≤ 255) (hy : 0 ≤ y ∧ y ≤ 255) : Byt (w.alloc (.cells #[.int .u8 x, .int .u8 y] 5)) (some ⟨w.heap.size, 0, none⟩) [x, y] := by
  refine ⟨by intro z hz; simp at hz; omega, fun _ => ⟨w.heap.size, 0, rfl, by simp, fun i hi => ?_⟩⟩
  have : i = 0 ∨ i = 1 := by simp at hi; omega
  rcases this with rfl | rfl
  · simp
  · simp
theorem build4 (w : World) (x0 x1 x2 x3 : Int) (h0 : 0 ≤ x0 ∧ x0 ≤ 255) (h1 : 0 ≤ x1 ∧ x1 ≤ 255) (h2 : 0 ≤ x2 ∧ x2 ≤ 255) (h3 : 0 ≤ x3 ∧ x3 ≤ 255) (B : Nat) (hB : B ≤ w.heap.size) :
    OVB (w.alloc (.cells #[.int .u8 x0, .int .u8 x1, .int .u8 x2, .int .u8 x3] 5)) B (.slice (some ⟨w.heap.size, 0, none⟩) 4 4) [x0, x1, x2, x3] := by
  refine ⟨⟨rfl, .inr ⟨w.heap.size, 4, _, rfl, hB, heap_alloc_new w _, Nat.le_refl _, by unfold maxLen; omega, rfl, rfl⟩⟩, ?_⟩
  intro z hz
  simp at hz
  omega

set_option maxRecDepth 20000 in
set_option maxHeartbeats 8000000 in
theorem l8bytes_any (a : Option Addr) (cap : Nat) (ps : List (Int × Int)) (e : Int) (w : World) (hb : Pls w a ps) (hr : ∀ p ∈ ps, bP p) (hl : 1 ≤ ps.length ∧ ps.length ≤ 16) (he : 0 ≤ e ∧ e ≤ 60000) :
    Calls Try.prog 25 #[.int .i64 e, .agg #[.slice a ps.length cap]] w fun r w' => (∃ v, r = .returned v ∧ OVB w' w.heap.size v (sbL e ps)) ∧ Below w.heap.size w w' := by
  have HB : Hid (Pls w a ps) := hb
  have HRG : Hid (∀ p ∈ ps, bP p) := hr
  have HSB : Hid (sbL e ps = (sbH e ps.length ++ bts (ps.take ps.length)) ++ List.replicate (252 - ps.length * 2) 0 ∧ sbH e ps.length ++ bts (ps.take 0) = [83, e / 256, e % 256, (ps.length : Int)]) := ⟨by rw [List.take_length]; rfl, rfl⟩
  have HSL : Hid (∀ k, k ≤ ps.length → (sbH e ps.length ++ bts (ps.take k)).length = 4 + k * 2) := fun k hk => by rw [List.length_append, bts_len, sbH_len, List.length_take, Nat.min_eq_left hk]
  have HSS : Hid (∀ k, k < ps.length → (sbH e ps.length ++ bts (ps.take k)) ++ [(ps.getD k dp).1, (ps.getD k dp).2] = sbH e ps.length ++ bts (ps.take (k + 1))) := fun k hk => by rw [bts_take_succ ps k hk, List.append_assoc]
  have hzz : (w.alloc (Obj.cells #[Value.slice a ps.length cap] 25)).cell? ⟨w.heap.size, 0, none⟩ = some (.slice a ps.length cap) := by simp
  have HZS : Hid (w.heap.size + 1 = (w.alloc (Obj.cells #[Value.slice a ps.length cap] 25)).heap.size ∧ True) := ⟨by simp, trivial⟩
  have HW : Hid (Below w.heap.size w (w.alloc (Obj.cells #[Value.slice a ps.length cap] 25))) := (Below.refl _ _).alloc (Nat.le_refl _) _
  clear hb hr
  generalize hlen : ps.length = n at *
  have HL : Hid (ps.length = n ∧ True) := ⟨hlen, trivial⟩
  clear hlen
  have he1 : 0 ≤ e / 256 ∧ e / 256 ≤ 255 := by omega
  have he2 : 0 ≤ e % 256 ∧ e % 256 ≤ 255 := by omega
  have HOV0 : Hid (OVB ((w.alloc (Obj.cells #[Value.slice a n cap] 25)).alloc (.cells #[.int .u8 83, .int .u8 (e / 256), .int .u8 (e % 256), .int .u8 n] 5)) (w.heap.size + 1) (.slice (some ⟨w.heap.size + 1, 0, none⟩) (sbH e n ++ bts (ps.take 0)).length 4) (sbH e n ++ bts (ps.take 0))) := by
    have h1 := build4 (w.alloc (Obj.cells #[Value.slice a n cap] 25)) 83 (e / 256) (e % 256) n (by omega) he1 he2 (by omega) (w.heap.size + 1) (by rw [HZS.out.1]; exact Nat.le_refl _)
    rw [HSB.out.2]
    rw [← HZS.out.1] at h1
    exact h1
  go_enter Try.func25, Try.ntmps25
  go_wp2
  have HB0 : Hid (Below (w.heap.size + 1) (w.alloc (Obj.cells #[Value.slice a n cap] 25)) ((w.alloc (Obj.cells #[Value.slice a n cap] 25)).alloc (.cells #[.int .u8 83, .int .u8 (e / 256), .int .u8 (e % 256), .int .u8 n] 5))) := (Below.refl _ _).alloc (by rw [← HZS.out.1]; exact Nat.le_refl _) _
  clear he1 he2
  generalize (w.alloc (Obj.cells #[Value.slice a n cap] 25)).alloc (.cells #[.int .u8 83, .int .u8 (e / 256), .int .u8 (e % 256), .int .u8 n] 5) = W0 at *
  generalize w.alloc (Obj.cells #[Value.slice a n cap] 25) = W at *
  go_loopw [5, 6] (fun v i wr => ∃ (k : Nat) (va : Option Addr) (vc : Nat), k ≤ n ∧ i = .int .i64 k ∧ v = .slice va (sbH e n ++ bts (ps.take k)).length vc ∧ OVB wr (w.heap.size + 1) (.slice va (sbH e n ++ bts (ps.take k)).length vc) (sbH e n ++ bts (ps.take k)) ∧ Below (w.heap.size + 1) W wr) (fun _ i _ => n - (intOf i).toNat)
  case atStart => exact ⟨0, _, 4, Nat.zero_le _, rfl, by rw [HSL.out 0 (Nat.zero_le _)], HOV0.out, HB0.out⟩
  case round =>
    obtain ⟨k, va, vc, hk, rfl, rfl, hov, hbel⟩ := hrel
    have HR : Hid (Below (w.heap.size + 1) W wr ∧ Below w.heap.size w wr ∧ w.heap.size + 1 ≤ wr.heap.size) := ⟨hbel, HW.out.trans (hbel.mono (by omega)), by rw [HZS.out.1]; exact hbel.size⟩
    have p0 := keep hbel (by omega) hzz
    have HOV : Hid (OVB wr (w.heap.size + 1) (.slice va (sbH e n ++ bts (ps.take k)).length vc) (sbH e n ++ bts (ps.take k))) := hov
    have hsl := HSL.out k hk
    clear hbel hov HOV0 HB0
    by_cases hlt : k < n
    · obtain ⟨b, off, rfl, hbw, hc1⟩ := HB.out.len_pos k (by rw [HL.out.1]; exact hlt)
      have c00 := (hc1 k (by rw [HL.out.1]; exact hlt)).1
      have c01 := (hc1 k (by rw [HL.out.1]; exact hlt)).2
      have c0 := keep HR.out.2.1 hbw c00
      have c1 := keep HR.out.2.1 hbw c01
      have hrg := HRG.out _ (getD_memP (k := k) (by rw [HL.out.1]; exact hlt))
      have HE : Hid (_ ∧ True) := ⟨HSS.out k hlt, trivial⟩
      have HLT : Hid (w.heap.size < wr.heap.size ∧ b < wr.heap.size) := ⟨by have := HR.out.2.2; omega, by have := HR.out.2.2; omega⟩
      clear hc1 HSS HSL
      generalize ps.getD k dp = q at *
      obtain ⟨x, y⟩ := q
      obtain ⟨⟨x1, x2⟩, y1, y2⟩ := hrg
      simp only at c0 c1 c00 c01 x1 x2 y1 y2 HE
      generalize sbH e n ++ bts (ps.take k) = ls at *
      have hsl2 : ls.length ≤ 300 := by omega
      clear hsl
      have hwx : IntKind.u8.wrap x = x := IntWalk.u8_in _ (by omega)
      have hwy : IntKind.u8.wrap y = y := IntWalk.u8_in _ (by omega)
      have HWX : Hid (IntKind.u8.wrap x = x ∧ IntKind.u8.wrap y = y) := ⟨hwx, hwy⟩
      clear hwx hwy
      go_wp2
      refine wp_region_cut (S := fun W => W.cell? ⟨w.heap.size, 0, none⟩ = some (.slice (some ⟨b, off, none⟩) n cap) ∧ W.cell? ⟨b, off + k * 2, none⟩ = some (.int .i64 x) ∧ W.cell? ⟨b, off + k * 2 + 1, none⟩ = some (.int .i64 y)) 17 (by kernel_rfl) (by kernel_rfl) (by exact ⟨p0, c0, c1⟩) (fun hHeld => ?_)
      refine wpAnyH_take (i := 0) (v := ?_) rfl (by kernel_rfl) (by kernel_rfl) (by kernel_rfl) (fun _ _ _ h => h) (Or.inl ⟨by rfl, ?_⟩) (by assumption) ?_
      rotate_left 1
      · (intro w hSw; (try dsimp only at hSw); go_simp; try (with_reducible rfl))
      try simp only [List.getElem_toArray, List.getElem_cons_zero, List.getElem_cons_succ, Act.put, List.setIfInBounds_toArray, List.set_cons_zero, List.set_cons_succ]
      refine wpAnyH_take (i := 1) (v := ?_) rfl (by kernel_rfl) (by kernel_rfl) (by kernel_rfl) (fun _ _ _ h => h) (Or.inl ⟨by rfl, ?_⟩) (by assumption) ?_
      rotate_left 1
      · (intro w hSw; (try dsimp only at hSw); go_simp; try (with_reducible rfl))
      try simp only [List.getElem_toArray, List.getElem_cons_zero, List.getElem_cons_succ, Act.put, List.setIfInBounds_toArray, List.set_cons_zero, List.set_cons_succ]
      refine wpAnyH_take (i := 2) (v := ?_) rfl (by kernel_rfl) (by kernel_rfl) (by kernel_rfl) (fun _ _ _ h => h) (Or.inl ⟨by rfl, ?_⟩) (by assumption) ?_
      rotate_left 1
      · (intro w hSw; (try dsimp only at hSw); go_simp; try (with_reducible rfl))
      try simp only [List.getElem_toArray, List.getElem_cons_zero, List.getElem_cons_succ, Act.put, List.setIfInBounds_toArray, List.set_cons_zero, List.set_cons_succ]
      refine wpAnyH_take (i := 3) (v := ?_) rfl (by kernel_rfl) (by kernel_rfl) (by kernel_rfl) (fun _ _ _ h => h) (Or.inl ⟨by rfl, ?_⟩) (by assumption) ?_
      rotate_left 1
      · (intro w hSw; (try dsimp only at hSw); go_simp; try (with_reducible rfl))
      try simp only [List.getElem_toArray, List.getElem_cons_zero, List.getElem_cons_succ, Act.put, List.setIfInBounds_toArray, List.set_cons_zero, List.set_cons_succ]
      refine wpAnyH_take (i := 4) (v := ?_) rfl (by kernel_rfl) (by kernel_rfl) (by kernel_rfl) (fun _ _ _ h => h) (Or.inl ⟨by rfl, ?_⟩) (by assumption) ?_
      rotate_left 1
      · (intro w hSw; (try dsimp only at hSw); go_simp; try (with_reducible rfl))
      try simp only [List.getElem_toArray, List.getElem_cons_zero, List.getElem_cons_succ, Act.put, List.setIfInBounds_toArray, List.set_cons_zero, List.set_cons_succ]
      refine wpAnyH_take (i := 5) (v := ?_) rfl (by kernel_rfl) (by kernel_rfl) (by kernel_rfl) (fun _ _ _ h => h) (Or.inl ⟨by rfl, ?_⟩) (by assumption) ?_
      rotate_left 1
      · (intro w hSw; (try dsimp only at hSw); go_simp; try (with_reducible rfl))
      try simp only [List.getElem_toArray, List.getElem_cons_zero, List.getElem_cons_succ, Act.put, List.setIfInBounds_toArray, List.set_cons_zero, List.set_cons_succ]
      refine wpAnyH_take (i := 6) (v := ?_) rfl (by kernel_rfl) (by kernel_rfl) (by kernel_rfl) (fun _ _ _ h => h) (Or.inl ⟨by rfl, ?_⟩) (by assumption) ?_
      rotate_left 1
      · (intro w hSw; (try dsimp only at hSw); go_simp; try (with_reducible rfl))
      try simp only [List.getElem_toArray, List.getElem_cons_zero, List.getElem_cons_succ, Act.put, List.setIfInBounds_toArray, List.set_cons_zero, List.set_cons_succ]
      refine wpAnyH_take (i := 7) (v := ?_) rfl (by kernel_rfl) (by kernel_rfl) (by kernel_rfl) (fun _ _ _ h => h) (Or.inl ⟨by rfl, ?_⟩) (by assumption) ?_
      rotate_left 1
      · (intro w hSw; (try dsimp only at hSw); go_simp; try (with_reducible rfl))
      try simp only [List.getElem_toArray, List.getElem_cons_zero, List.getElem_cons_succ, Act.put, List.setIfInBounds_toArray, List.set_cons_zero, List.set_cons_succ]
      refine wpAnyH_take (i := 8) (v := ?_) rfl (by kernel_rfl) (by kernel_rfl) (by kernel_rfl) (fun _ _ _ h => h) (Or.inl ⟨by rfl, ?_⟩) (by assumption) ?_
      rotate_left 1
      · (intro w hSw; (try dsimp only at hSw); go_simp; try (with_reducible rfl))
      try simp only [List.getElem_toArray, List.getElem_cons_zero, List.getElem_cons_succ, Act.put, List.setIfInBounds_toArray, List.set_cons_zero, List.set_cons_succ]
      refine wpAnyH_take (i := 9) (v := ?_) rfl (by kernel_rfl) (by kernel_rfl) (by kernel_rfl) (fun _ _ _ h => h) (Or.inl ⟨by rfl, ?_⟩) (by assumption) ?_
      rotate_left 1
      · (intro w hSw; (try dsimp only at hSw); go_simp; try (with_reducible rfl))
      try simp only [List.getElem_toArray, List.getElem_cons_zero, List.getElem_cons_succ, Act.put, List.setIfInBounds_toArray, List.set_cons_zero, List.set_cons_succ]
      refine wpAnyH_take (i := 10) (v := ?_) rfl (by kernel_rfl) (by kernel_rfl) (by kernel_rfl) (fun _ _ _ h => h) (Or.inl ⟨by rfl, ?_⟩) (by assumption) ?_
      rotate_left 1
      · (intro w hSw; (try dsimp only at hSw); go_simp; try (with_reducible rfl))
      try simp only [List.getElem_toArray, List.getElem_cons_zero, List.getElem_cons_succ, Act.put, List.setIfInBounds_toArray, List.set_cons_zero, List.set_cons_succ]
      refine wpAnyH_take (i := 11) (v := ?_) rfl (by kernel_rfl) (by kernel_rfl) (by kernel_rfl) (fun _ _ _ h => h) (Or.inl ⟨by rfl, ?_⟩) (by assumption) ?_
      rotate_left 1
      · (intro w hSw; (try dsimp only at hSw); go_simp; try (with_reducible rfl))
      try simp only [List.getElem_toArray, List.getElem_cons_zero, List.getElem_cons_succ, Act.put, List.setIfInBounds_toArray, List.set_cons_zero, List.set_cons_succ]
      refine wpAnyH_take (i := 12) (v := ?_) rfl (by kernel_rfl) (by kernel_rfl) (by kernel_rfl) (fun _ _ _ h => h) (Or.inl ⟨by rfl, ?_⟩) (by assumption) ?_
      rotate_left 1
      · (intro w hSw; (try dsimp only at hSw); go_simp; try (with_reducible rfl))
      try simp only [List.getElem_toArray, List.getElem_cons_zero, List.getElem_cons_succ, Act.put, List.setIfInBounds_toArray, List.set_cons_zero, List.set_cons_succ]
      refine wpAnyH_take (i := 13) (v := ?_) rfl (by kernel_rfl) (by kernel_rfl) (by kernel_rfl) (fun _ _ _ h => h) (Or.inl ⟨by rfl, ?_⟩) (by assumption) ?_
      rotate_left 1
      · (intro w hSw; (try dsimp only at hSw); go_simp; try (with_reducible rfl))
      try simp only [List.getElem_toArray, List.getElem_cons_zero, List.getElem_cons_succ, Act.put, List.setIfInBounds_toArray, List.set_cons_zero, List.set_cons_succ]
      refine wpAnyH_take (i := 14) (v := ?_) rfl (by kernel_rfl) (by kernel_rfl) (by kernel_rfl) (fun _ _ _ h => h) (Or.inl ⟨by rfl, ?_⟩) (by assumption) ?_
      rotate_left 1
      · (intro w hSw; (try dsimp only at hSw); go_simp; try (with_reducible rfl))
      try simp only [List.getElem_toArray, List.getElem_cons_zero, List.getElem_cons_succ, Act.put, List.setIfInBounds_toArray, List.set_cons_zero, List.set_cons_succ]
      refine wpAnyH_ready (rs := [15]) (by kernel_rfl) (by simp) ?_
      refine AllReadyH.cons rfl (fun K hK => ?_) AllReadyH.nil
      go_simp
      refine hK.out _ _ (by exact ⟨keepA _ (by exact HLT.out.1) p0, keepA _ (by exact HLT.out.2) c0, keepA _ (by exact HLT.out.2) c1⟩) (fun hHeld => ?_)
      clear hK K
      try simp only [List.getElem_toArray, List.getElem_cons_zero, List.getElem_cons_succ, Act.put, List.setIfInBounds_toArray, List.set_cons_zero, List.set_cons_succ]
      refine wpAnyH_ready (rs := [16]) (by kernel_rfl) (by simp) ?_
      refine AllReadyH.cons rfl (fun K hK => ?_) AllReadyH.nil
      refine wanted_step rfl (wp_append_byt (.tmp 24) (.tmp 39) rfl (w.heap.size + 1) (.slice va ls.length vc) ls (by simp [Act.eval]) (by exact HOV.out.alloc _) (some ⟨wr.heap.size, 0, none⟩) 2 [x, y] (by simp [Act.eval]) (by rw [HWX.out.1, HWX.out.2]; exact byt_two wr x y ⟨x1, x2⟩ ⟨y1, y2⟩) (by simp; omega) (by have := HLT.out.1; simp; omega) ?_)
      intro v1 w1 hov1 hg1
      have hb1' : Below (w.heap.size + 1) W w1 := by exact appB_below ((HR.out.1.alloc (by have := HLT.out.1; omega) _).drew) (by have := HLT.out.1; simp; omega) (show OVB _ _ _ ls from HOV.out.alloc _) hg1
      obtain ⟨va1, vc1, hv1⟩ := hov1.form
      rw [HE.out.1] at hov1 hv1
      subst hv1
      have HN1 : Hid (OVB w1 (w.heap.size + 1) (.slice va1 (sbH e n ++ bts (ps.take (k + 1))).length vc1) (sbH e n ++ bts (ps.take (k + 1))) ∧ Below (w.heap.size + 1) W w1) := ⟨hov1, hb1'⟩
      have hbz : Below w.heap.size w w1 := HW.out.trans (hb1'.mono (by omega))
      refine hK.out _ _ (by exact ⟨keep hb1' (by omega) hzz, keep hbz hbw c00, keep hbz hbw c01⟩) (fun hHeld => ?_)
      clear hK K
      try simp only [List.getElem_toArray, List.getElem_cons_zero, List.getElem_cons_succ, Act.put, List.setIfInBounds_toArray, List.set_cons_zero, List.set_cons_succ]
      refine wpAnyH_done (by kernel_rfl) ?_ _
      simp only [cutQ, List.drop_succ_cons, List.drop_zero]
      clear hHeld hg1 hov1 hb1' hbz
      go_wp2
      go_roundw
      case rel => exact ⟨k + 1, va1, vc1, by omega, by go_num, rfl, HN1.out.1, HN1.out.2⟩
      case measure => simp [intOf]; omega
    · have hkn : k = n := by omega
      subst hkn
      have hsub : (256 : Int) - ((sbH e k ++ bts (ps.take k)).length : Int) = ((252 - k * 2 : Nat) : Int) := by omega
      have HZ : Hid (sbL e ps = (sbH e k ++ bts (ps.take k)) ++ List.replicate (252 - k * 2) 0 ∧ True) := ⟨HSB.out.1, trivial⟩
      clear HSB HSS HSL
      generalize sbH e k ++ bts (ps.take k) = ls at *
      have hsl2 : ls.length ≤ 300 ∧ 0 < ls.length ∧ ls.length + (252 - k * 2) ≤ 1000000 := by omega
      have hsub2 : (256 : Int) - (ls.length : Int) = ((252 - k * 2 : Nat) : Int) := hsub
      clear hsl hsub
      generalize 252 - k * 2 = m at *
      go_wp2_with (at_builtin; refine wpList_append_zerB rfl _ _ rfl (w.heap.size + 1) (.slice va ls.length vc) ls (by simp [Act.eval]) HOV.out m (by first | (simp [Act.eval]; done) | (simp [Act.eval]; exact hsub2)) hsl2.2.1 hsl2.2.2 HR.out.2.2 ?_; intro v1 w1 hov1 hg1)
      have HF : Hid (OVB w1 w.heap.size v1 (sbL e ps) ∧ Below w.heap.size w w1) := ⟨by rw [HZ.out.1]; exact hov1.weak (by omega), appB_below HR.out.2.1 (by have := HR.out.2.2; omega) (HOV.out.weak (by omega)) hg1⟩
      clear hov1 hg1
      go_ret
      exact ⟨⟨_, rfl, HF.out.1⟩, HF.out.2⟩
end Go.Proofs.Ytnelpioadpdphaa
