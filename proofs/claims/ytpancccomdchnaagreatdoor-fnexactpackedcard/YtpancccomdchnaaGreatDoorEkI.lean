/-
  One coin more among the model's coins, in memory.
-/
import Derived.Test.YtpancccomdchnaaGreatDoorEkA
import Derived.Test.YtpancccomdchnaaGreatDoorPcC
namespace Go.Proofs.YtpancccomdchnaaGreatDoor
open Go.RowKit
set_option linter.unusedVariables false
set_option linter.unusedSimpArgs false

def mrgE : List Ek → List Ek → List Ek
  | [], b => b
  | a :: ar, [] => a :: ar
  | a :: ar, b :: br => if a.p.wt ≤ b.p.wt then a :: mrgE ar (b :: br) else b :: mrgE (a :: ar) br
termination_by a b => a.length + b.length
theorem mrgE_map : ∀ a b, (mrgE a b).map Ek.p = mrg (a.map Ek.p) (b.map Ek.p)
  | [], b => by rw [mrgE]; simp [mrg]
  | a :: ar, [] => by rw [mrgE]; simp [mrg]
  | a :: ar, b :: br => by
    rw [mrgE, List.map_cons, List.map_cons, mrg]
    split
    · rw [List.map_cons, mrgE_map ar (b :: br)]
      rfl
    · rw [List.map_cons, mrgE_map (a :: ar) br]
      rfl
termination_by a b => a.length + b.length
theorem mrgE_len : ∀ a b, (mrgE a b).length = a.length + b.length
  | [], b => by rw [mrgE]; simp
  | a :: ar, [] => by rw [mrgE]; simp
  | a :: ar, b :: br => by
    rw [mrgE]
    split
    · rw [List.length_cons, mrgE_len ar (b :: br)]; simp; omega
    · rw [List.length_cons, mrgE_len (a :: ar) br]; simp; omega
termination_by a b => a.length + b.length
theorem mrgE_mem : ∀ {a b : List Ek} {e : Ek}, e ∈ mrgE a b → e ∈ a ∨ e ∈ b
  | [], b, e, h => by rw [mrgE] at h; exact .inr h
  | a :: ar, [], e, h => by rw [mrgE] at h; exact .inl h
  | a :: ar, b :: br, e, h => by
    rw [mrgE] at h
    split at h
    · rcases List.mem_cons.1 h with h | h
      · exact .inl (by simp [h])
      · rcases mrgE_mem h with h | h
        · exact .inl (by simp [h])
        · exact .inr h
    · rcases List.mem_cons.1 h with h | h
      · exact .inr (by simp [h])
      · rcases mrgE_mem h with h | h
        · exact .inl h
        · exact .inr (by simp [h])
termination_by a b => a.length + b.length
theorem drop_getE {l : List Ek} {i : Nat} (h : i < l.length) : l.drop i = l.getD i dek :: l.drop (i + 1) := by
  rw [List.drop_eq_getElem_cons h]
  simp [List.getD_eq_getElem?_getD, h]
theorem mrgE_left {a b : List Ek} {i k : Nat} (hi : i < a.length) (h : b.length ≤ k ∨ (a.getD i dek).p.wt ≤ (b.getD k dek).p.wt) : mrgE (a.drop i) (b.drop k) = a.getD i dek :: mrgE (a.drop (i + 1)) (b.drop k) := by
  rw [drop_getE hi]
  by_cases hk : k < b.length
  · rw [drop_getE hk, mrgE, if_pos (by omega)]
  · rw [List.drop_eq_nil_of_le (show b.length ≤ k by omega), mrgE]
    cases a.drop (i + 1) <;> rw [mrgE]
theorem mrgE_right {a b : List Ek} {i k : Nat} (hk : k < b.length) (h : a.length ≤ i ∨ ¬ (a.getD i dek).p.wt ≤ (b.getD k dek).p.wt) : mrgE (a.drop i) (b.drop k) = b.getD k dek :: mrgE (a.drop i) (b.drop (k + 1)) := by
  rw [drop_getE hk]
  by_cases hi : i < a.length
  · rw [drop_getE hi, mrgE, if_neg (by omega)]
  · rw [List.drop_eq_nil_of_le (show a.length ≤ i by omega), mrgE, mrgE]

/-- The cells of a pack, by letters. -/
def Ekc (e : Ek) (u : Nat) (ea : Option Addr) (el ec : Nat) : Prop := u = e.p.wt ∧ ea = e.a ∧ el = e.p.sy.length ∧ ec = e.c
theorem Eks.read {w wr : World} {a : Option Addr} {es : List Ek} (h : Eks w a es) (hb : Below w.heap.size w wr) (i : Nat) (hi : i < es.length) : ∃ b o u ea el ec, a = some ⟨b, o, none⟩ ∧ b < wr.heap.size ∧ wr.cell? ⟨b, o + i * 2, none⟩ = some (.int .i64 (u : Nat)) ∧ wr.cell? ⟨b, o + i * 2 + 1, none⟩ = some (.slice ea el ec) ∧ Ekc (es.getD i dek) u ea el ec := by
  obtain ⟨b, o, e, hl, hc⟩ := h (by omega)
  exact ⟨b, o, _, _, _, _, e, Nat.lt_of_lt_of_le hl hb.size, keep hb hl (hc i hi).1, keep hb hl (hc i hi).2, rfl, rfl, rfl, rfl⟩
theorem eks_oneL (w : World) {e : Ek} {u : Nat} {ea : Option Addr} {el ec : Nat} (h : Ekc e u ea el ec) : Eks (w.alloc (Obj.cells #[.int .i64 u, .slice ea el ec] 82)) (some ⟨w.heap.size, 0, none⟩) [e] := by
  obtain ⟨rfl, rfl, rfl, rfl⟩ := h
  exact eks_one w e

set_option maxRecDepth 20000 in
set_option maxHeartbeats 8000000 in
theorem l2merge_any (a1 a2 : Option Addr) (c1 c2 : Nat) (es fs : List Ek) (w : World) (h1 : Eks w a1 es) (h2 : Eks w a2 fs) (hl : es.length + fs.length ≤ 90000) :
    Calls Tryz.prog 45 #[.slice a1 es.length c1, .slice a2 fs.length c2] w fun e w' => ∃ v, e = .returned v ∧ OVk w' w.heap.size v (mrgE es fs) ∧ Below w.heap.size w w' := by
  have HY : Hid (Eks w a1 es ∧ Eks w a2 fs) := ⟨h1, h2⟩
  have HLEN : Hid (es.length + fs.length ≤ 90000 ∧ (mrgE es fs).length = es.length + fs.length) := ⟨hl, mrgE_len es fs⟩
  have hne : es.length ≤ 90000 := by omega
  have hnf : fs.length ≤ 90000 := by omega
  have HML : Hid (∀ i k, i < es.length → (fs.length ≤ k ∨ (es.getD i dek).p.wt ≤ (fs.getD k dek).p.wt) → mrgE (es.drop i) (fs.drop k) = es.getD i dek :: mrgE (es.drop (i + 1)) (fs.drop k)) := fun i k => mrgE_left
  have HMR : Hid (∀ i k, k < fs.length → (es.length ≤ i ∨ ¬ (es.getD i dek).p.wt ≤ (fs.getD k dek).p.wt) → mrgE (es.drop i) (fs.drop k) = fs.getD k dek :: mrgE (es.drop i) (fs.drop (k + 1))) := fun i k => mrgE_right
  have HD0 : Hid ([] ++ mrgE (es.drop 0) (fs.drop 0) = mrgE es fs ∧ ∀ i k, es.length ≤ i → fs.length ≤ k → mrgE (es.drop i) (fs.drop k) = []) := ⟨by simp, fun i k hi hk => by rw [List.drop_eq_nil_of_le hi, List.drop_eq_nil_of_le hk, mrgE]⟩
  clear h1 h2 hl
  obtain ⟨n, hn⟩ : ∃ n, n = es.length := ⟨_, rfl⟩
  obtain ⟨m, hm⟩ : ∃ m, m = fs.length := ⟨_, rfl⟩
  rw [← hn, ← hm] at HLEN ⊢
  rw [← hn] at hne HML HD0 HMR
  rw [← hm] at hnf HML HMR HD0
  have HNM : Hid (n = es.length ∧ m = fs.length) := ⟨hn, hm⟩
  clear hn hm
  go_enter Tryz.func45, Tryz.ntmps45
  go_wp2
  go_loopw [5, 6, 7] (fun ov iv kv W => ∃ (i k : Nat) (ds : List Ek), i ≤ n ∧ k ≤ m ∧ iv = .int .i64 i ∧ kv = .int .i64 k ∧ OVk W w.heap.size ov ds ∧ ds ++ mrgE (es.drop i) (fs.drop k) = mrgE es fs ∧ Below w.heap.size w W) (fun _ iv kv _ => (n - (intOf iv).toNat) + (m - (intOf kv).toNat))
  case atStart => exact ⟨0, 0, [], Nat.zero_le _, Nat.zero_le _, rfl, rfl, OVk.nil _ _, HD0.out.1, Below.refl _ _⟩
  case round =>
    obtain ⟨i, k, ds, hi, hk, rfl, rfl, hov, hds, hbel⟩ := hrel
    have hdl : ds.length ≤ n + m := by
      have h := congrArg List.length hds
      rw [List.length_append] at h
      have := HLEN.out.2
      omega
    have HR : Hid (OVk wr w.heap.size u5 ds ∧ ds ++ mrgE (es.drop i) (fs.drop k) = mrgE es fs ∧ Below w.heap.size w wr) := ⟨hov, hds, hbel⟩
    obtain ⟨oa, oc, hov5, -, -, -⟩ := hov.slice
    subst hov5
    obtain ⟨D, hD⟩ : ∃ D, D = ds.length := ⟨_, rfl⟩
    rw [← hD] at HR hdl ⊢
    have HDL : Hid (D = ds.length ∧ True) := ⟨hD, trivial⟩
    clear hov hds hbel hD
    by_cases hkm : k < m
    · obtain ⟨b2, o2, u2, ea2, el2, ec2, rfl, hb2, cA2, cB2, hE2⟩ := HY.out.2.read HR.out.2.2 k (by have := HNM.out.2; omega)
      obtain ⟨E2, hEE2⟩ : ∃ E, E = fs.getD k dek := ⟨(fs.getD k dek), rfl⟩
      rw [← hEE2] at hE2
      have HEE2 : Hid (E2 = fs.getD k dek ∧ u2 = (fs.getD k dek).p.wt) := ⟨hEE2, by rw [← hEE2]; exact hE2.1⟩
      have HE2 : Hid (Ekc E2 u2 ea2 el2 ec2) := hE2
      clear hE2 hEE2
      have hkm2 : (k : Int) < (m : Int) := by omega
      have hkm3 : ¬ (m : Int) ≤ (k : Int) := by omega
      have dk : decide ((m : Int) ≤ (k : Int)) = false := decide_eq_false hkm3
      by_cases hin : i < n
      · obtain ⟨b1, o1, u1, ea1, el1, ec1, rfl, hb1, cA1, cB1, hE1⟩ := HY.out.1.read HR.out.2.2 i (by have := HNM.out.1; omega)
        obtain ⟨E1, hEE1⟩ : ∃ E, E = es.getD i dek := ⟨(es.getD i dek), rfl⟩
        rw [← hEE1] at hE1
        have HEE1 : Hid (E1 = es.getD i dek ∧ u1 = (es.getD i dek).p.wt) := ⟨hEE1, by rw [← hEE1]; exact hE1.1⟩
        have HE1 : Hid (Ekc E1 u1 ea1 el1 ec1) := hE1
        clear hE1 hEE1
        have hin2 : (i : Int) < (n : Int) := by omega
        have di : decide ((i : Int) < (n : Int)) = true := decide_eq_true hin2
        by_cases hw : u1 ≤ u2
        · have hw2 : (u1 : Int) ≤ (u2 : Int) := by omega
          have dw : decide ((u1 : Int) ≤ (u2 : Int)) = true := decide_eq_true hw2
          have HST : Hid ((ds ++ [E1]) ++ mrgE (es.drop (i + 1)) (fs.drop k) = mrgE es fs ∧ True) := by
            refine ⟨?_, trivial⟩
            have h := HR.out.2.1
            rw [HML.out i k hin (.inr (by rw [← HEE1.out.2, ← HEE2.out.2]; exact hw)), ← HEE1.out.1] at h
            rw [← h, List.append_assoc]
            rfl
          go_wp2
          go_quiet (fail)
          have H4 : Hid (OVk (wr.drewN nq) w.heap.size (.slice oa D oc) ds ∧ Below w.heap.size w (wr.drewN nq)) := ⟨HR.out.1, ⟨HR.out.2.2.os, HR.out.2.2.tape, HR.out.2.2.output, HR.out.2.2.size, HR.out.2.2.block⟩⟩
          have x0 : (wr.drewN nq).cell? ⟨b1, o1 + i * 2, none⟩ = some (.int .i64 (u1 : Nat)) := cA1
          have x1 : (wr.drewN nq).cell? ⟨b1, o1 + i * 2 + 1, none⟩ = some (.slice ea1 el1 ec1) := cB1
          generalize wr.drewN nq = W4 at *
          have HY4 : Hid (OVk (W4.alloc (Obj.cells #[.int .i64 (u1 : Nat), .slice ea1 el1 ec1] 82)) w.heap.size (.slice oa D oc) ds ∧ Eks (W4.alloc (Obj.cells #[.int .i64 (u1 : Nat), .slice ea1 el1 ec1] 82)) (some ⟨W4.heap.size, 0, none⟩) [E1] ∧ w.heap.size ≤ (W4.alloc (Obj.cells #[.int .i64 (u1 : Nat), .slice ea1 el1 ec1] 82)).heap.size ∧ Below w.heap.size w (W4.alloc (Obj.cells #[.int .i64 (u1 : Nat), .slice ea1 el1 ec1] 82))) := ⟨H4.out.1.below ((Below.refl _ _).alloc (Nat.le_refl _) _), eks_oneL W4 HE1.out, by have := H4.out.2.size; simp; omega, H4.out.2.alloc H4.out.2.size _⟩
          go_wp2_with (at_builtin; (refine wpList_append_ek (v := .slice oa D oc) (es := ds) (fs := [E1]) rfl (.tmp 41) (.tmp 46) rfl rfl rfl rfl HY4.out.1 HY4.out.2.1 (show ds.length + 1 ≤ 100000 by rw [← HDL.out.1]; have := HLEN.out.1; omega) HY4.out.2.2.1 ?_; intro v9 w9 hov9 hg9 hat9; have H9 : Hid (OVk w9 w.heap.size v9 (ds ++ [E1]) ∧ Below w.heap.size w w9) := ⟨hov9, HY4.out.2.2.2.grown hg9 HY4.out.2.2.1 (fun j hj => (World.ownsRow.lt HY4.out.1 j hj).1)⟩; clear hov9 hg9 hat9))
          go_roundw
          case rel => exact ⟨i + 1, k, ds ++ [E1], by omega, by omega, by first | rfl | go_num, by first | rfl | go_num, H9.out.1, HST.out.1, H9.out.2⟩
          case measure => simp [intOf]; omega
        · have hw2 : ¬ (u1 : Int) ≤ (u2 : Int) := by omega
          have dw : decide ((u1 : Int) ≤ (u2 : Int)) = false := decide_eq_false hw2
          have HST : Hid ((ds ++ [E2]) ++ mrgE (es.drop i) (fs.drop (k + 1)) = mrgE es fs ∧ True) := by
            refine ⟨?_, trivial⟩
            have h := HR.out.2.1
            rw [HMR.out i k hkm (.inr (by rw [← HEE1.out.2, ← HEE2.out.2]; exact hw)), ← HEE2.out.1] at h
            rw [← h, List.append_assoc]
            rfl
          go_wp2
          go_quiet (fail)
          have H4 : Hid (OVk (wr.drewN nq) w.heap.size (.slice oa D oc) ds ∧ Below w.heap.size w (wr.drewN nq)) := ⟨HR.out.1, ⟨HR.out.2.2.os, HR.out.2.2.tape, HR.out.2.2.output, HR.out.2.2.size, HR.out.2.2.block⟩⟩
          have x0 : (wr.drewN nq).cell? ⟨b2, o2 + k * 2, none⟩ = some (.int .i64 (u2 : Nat)) := cA2
          have x1 : (wr.drewN nq).cell? ⟨b2, o2 + k * 2 + 1, none⟩ = some (.slice ea2 el2 ec2) := cB2
          generalize wr.drewN nq = W4 at *
          have HY4 : Hid (OVk (W4.alloc (Obj.cells #[.int .i64 (u2 : Nat), .slice ea2 el2 ec2] 82)) w.heap.size (.slice oa D oc) ds ∧ Eks (W4.alloc (Obj.cells #[.int .i64 (u2 : Nat), .slice ea2 el2 ec2] 82)) (some ⟨W4.heap.size, 0, none⟩) [E2] ∧ w.heap.size ≤ (W4.alloc (Obj.cells #[.int .i64 (u2 : Nat), .slice ea2 el2 ec2] 82)).heap.size ∧ Below w.heap.size w (W4.alloc (Obj.cells #[.int .i64 (u2 : Nat), .slice ea2 el2 ec2] 82))) := ⟨H4.out.1.below ((Below.refl _ _).alloc (Nat.le_refl _) _), eks_oneL W4 HE2.out, by have := H4.out.2.size; simp; omega, H4.out.2.alloc H4.out.2.size _⟩
          go_wp2_with (at_builtin; (refine wpList_append_ek (v := .slice oa D oc) (es := ds) (fs := [E2]) rfl (.tmp 50) (.tmp 55) rfl rfl rfl rfl HY4.out.1 HY4.out.2.1 (show ds.length + 1 ≤ 100000 by rw [← HDL.out.1]; have := HLEN.out.1; omega) HY4.out.2.2.1 ?_; intro v9 w9 hov9 hg9 hat9; have H9 : Hid (OVk w9 w.heap.size v9 (ds ++ [E2]) ∧ Below w.heap.size w w9) := ⟨hov9, HY4.out.2.2.2.grown hg9 HY4.out.2.2.1 (fun j hj => (World.ownsRow.lt HY4.out.1 j hj).1)⟩; clear hov9 hg9 hat9))
          go_roundw
          case rel => exact ⟨i, k + 1, ds ++ [E2], by omega, by omega, by first | rfl | go_num, by first | rfl | go_num, H9.out.1, HST.out.1, H9.out.2⟩
          case measure => simp [intOf]; omega
      · have hin2 : ¬ (i : Int) < (n : Int) := by omega
        have di : decide ((i : Int) < (n : Int)) = false := decide_eq_false hin2
        have HST : Hid ((ds ++ [E2]) ++ mrgE (es.drop i) (fs.drop (k + 1)) = mrgE es fs ∧ True) := by
          refine ⟨?_, trivial⟩
          have h := HR.out.2.1
          rw [HMR.out i k hkm (.inl (by omega)), ← HEE2.out.1] at h
          rw [← h, List.append_assoc]
          rfl
        go_wp2_with fail
        have dkN : decide (m ≤ k) = false := decide_eq_false (by omega)
        have diN : decide (i < n) = false := decide_eq_false (by omega)
        clear hkm2 hkm3 hin2
        refine wp_region_cut (S := fun _ => True) 23 (by kernel_rfl) (by kernel_rfl) (by exact trivial) (fun hHeld => ?_)
        refine tk 0 (v := ?_) ?_ ?_
        rotate_left 1
        · (intro w hSw; (try dsimp only at hSw); go_simp; try (with_reducible rfl))
        try simp only [tkS]
        refine tk 1 (v := ?_) ?_ ?_
        rotate_left 1
        · (intro w hSw; (try dsimp only at hSw); go_simp; try (with_reducible rfl))
        try simp only [tkS]
        refine tk 2 (v := ?_) ?_ ?_
        rotate_left 1
        · (intro w hSw; (try dsimp only at hSw); go_simp; try (with_reducible rfl))
        try simp only [tkS]
        refine tk 3 (v := ?_) ?_ ?_
        rotate_left 1
        · (intro w hSw; (try dsimp only at hSw); go_simp; try (with_reducible rfl))
        try simp only [tkS]
        refine tk 4 (v := ?_) ?_ ?_
        rotate_left 1
        · (intro w hSw; (try dsimp only at hSw); go_simp; try (with_reducible rfl))
        try simp only [tkS]
        refine tk 5 (v := ?_) ?_ ?_
        rotate_left 1
        · (intro w hSw; (try dsimp only at hSw); go_simp; try (with_reducible rfl))
        try simp only [tkS]
        refine tk 6 (v := ?_) ?_ ?_
        rotate_left 1
        · (intro w hSw; (try dsimp only at hSw); go_simp; try (with_reducible rfl))
        try simp only [tkS]
        refine tk 7 (v := ?_) ?_ ?_
        rotate_left 1
        · (intro w hSw; (try dsimp only at hSw); go_simp; try (with_reducible rfl))
        try simp only [tkS]
        refine tk 8 (v := ?_) ?_ ?_
        rotate_left 1
        · (intro w hSw; (try dsimp only at hSw); go_simp; try (with_reducible rfl))
        try simp only [tkS]
        refine tk 9 (v := ?_) ?_ ?_
        rotate_left 1
        · (intro w hSw; (try dsimp only at hSw); go_simp; try (with_reducible rfl))
        try simp only [tkS]
        refine tu 10 ?_
        try simp only [tkS]
        refine tu 11 ?_
        try simp only [tkS]
        refine tu 12 ?_
        try simp only [tkS]
        refine tu 13 ?_
        try simp only [tkS]
        refine tu 14 ?_
        try simp only [tkS]
        refine tu 15 ?_
        try simp only [tkS]
        refine tu 16 ?_
        try simp only [tkS]
        refine tu 17 ?_
        try simp only [tkS]
        refine tu 18 ?_
        try simp only [tkS]
        refine tu 19 ?_
        try simp only [tkS]
        refine tu 20 ?_
        try simp only [tkS]
        refine tk 21 (v := ?_) ?_ ?_
        rotate_left 1
        · (intro w hSw; (try dsimp only at hSw); go_simp; try (with_reducible rfl))
        try simp only [tkS]
        refine tk 22 (v := ?_) ?_ ?_
        rotate_left 1
        · (intro w hSw; (try dsimp only at hSw); go_simp; try (with_reducible rfl))
        try simp only [tkS]
        refine wpAnyH_done (by kernel_rfl) ?_ _
        simp only [cutQ, List.drop_succ_cons, List.drop_zero]
        clear hHeld
        have H4 : Hid (OVk (wr.drew) w.heap.size (.slice oa D oc) ds ∧ Below w.heap.size w (wr.drew)) := ⟨HR.out.1, ⟨HR.out.2.2.os, HR.out.2.2.tape, HR.out.2.2.output, HR.out.2.2.size, HR.out.2.2.block⟩⟩
        have x0 : (wr.drew).cell? ⟨b2, o2 + k * 2, none⟩ = some (.int .i64 (u2 : Nat)) := cA2
        have x1 : (wr.drew).cell? ⟨b2, o2 + k * 2 + 1, none⟩ = some (.slice ea2 el2 ec2) := cB2
        generalize wr.drew = W4 at *
        have HY4 : Hid (OVk (W4.alloc (Obj.cells #[.int .i64 (u2 : Nat), .slice ea2 el2 ec2] 82)) w.heap.size (.slice oa D oc) ds ∧ Eks (W4.alloc (Obj.cells #[.int .i64 (u2 : Nat), .slice ea2 el2 ec2] 82)) (some ⟨W4.heap.size, 0, none⟩) [E2] ∧ w.heap.size ≤ (W4.alloc (Obj.cells #[.int .i64 (u2 : Nat), .slice ea2 el2 ec2] 82)).heap.size ∧ Below w.heap.size w (W4.alloc (Obj.cells #[.int .i64 (u2 : Nat), .slice ea2 el2 ec2] 82))) := ⟨H4.out.1.below ((Below.refl _ _).alloc (Nat.le_refl _) _), eks_oneL W4 HE2.out, by have := H4.out.2.size; simp; omega, H4.out.2.alloc H4.out.2.size _⟩
        go_wp2_with (at_builtin; (refine wpList_append_ek (v := .slice oa D oc) (es := ds) (fs := [E2]) rfl (.tmp 50) (.tmp 55) rfl rfl rfl rfl HY4.out.1 HY4.out.2.1 (show ds.length + 1 ≤ 100000 by rw [← HDL.out.1]; have := HLEN.out.1; omega) HY4.out.2.2.1 ?_; intro v9 w9 hov9 hg9 hat9; have H9 : Hid (OVk w9 w.heap.size v9 (ds ++ [E2]) ∧ Below w.heap.size w w9) := ⟨hov9, HY4.out.2.2.2.grown hg9 HY4.out.2.2.1 (fun j hj => (World.ownsRow.lt HY4.out.1 j hj).1)⟩; clear hov9 hg9 hat9))
        go_roundw
        case rel => exact ⟨i, k + 1, ds ++ [E2], by omega, by omega, by first | rfl | go_num, by first | rfl | go_num, H9.out.1, HST.out.1, H9.out.2⟩
        case measure => simp [intOf]; omega
    · have hkm2 : ¬ (k : Int) < (m : Int) := by omega
      have hkm3 : (m : Int) ≤ (k : Int) := by omega
      have dk : decide ((m : Int) ≤ (k : Int)) = true := decide_eq_true hkm3
      by_cases hin : i < n
      · obtain ⟨b1, o1, u1, ea1, el1, ec1, rfl, hb1, cA1, cB1, hE1⟩ := HY.out.1.read HR.out.2.2 i (by have := HNM.out.1; omega)
        obtain ⟨E1, hEE1⟩ : ∃ E, E = es.getD i dek := ⟨(es.getD i dek), rfl⟩
        rw [← hEE1] at hE1
        have HEE1 : Hid (E1 = es.getD i dek ∧ u1 = (es.getD i dek).p.wt) := ⟨hEE1, by rw [← hEE1]; exact hE1.1⟩
        have HE1 : Hid (Ekc E1 u1 ea1 el1 ec1) := hE1
        clear hE1 hEE1
        have hin2 : (i : Int) < (n : Int) := by omega
        have HST : Hid ((ds ++ [E1]) ++ mrgE (es.drop (i + 1)) (fs.drop k) = mrgE es fs ∧ True) := by
          refine ⟨?_, trivial⟩
          have h := HR.out.2.1
          rw [HML.out i k hin (.inl (by omega)), ← HEE1.out.1] at h
          rw [← h, List.append_assoc]
          rfl
        go_wp2
        go_quiet (fail)
        have H4 : Hid (OVk (wr.drewN nq) w.heap.size (.slice oa D oc) ds ∧ Below w.heap.size w (wr.drewN nq)) := ⟨HR.out.1, ⟨HR.out.2.2.os, HR.out.2.2.tape, HR.out.2.2.output, HR.out.2.2.size, HR.out.2.2.block⟩⟩
        have x0 : (wr.drewN nq).cell? ⟨b1, o1 + i * 2, none⟩ = some (.int .i64 (u1 : Nat)) := cA1
        have x1 : (wr.drewN nq).cell? ⟨b1, o1 + i * 2 + 1, none⟩ = some (.slice ea1 el1 ec1) := cB1
        generalize wr.drewN nq = W4 at *
        have HY4 : Hid (OVk (W4.alloc (Obj.cells #[.int .i64 (u1 : Nat), .slice ea1 el1 ec1] 82)) w.heap.size (.slice oa D oc) ds ∧ Eks (W4.alloc (Obj.cells #[.int .i64 (u1 : Nat), .slice ea1 el1 ec1] 82)) (some ⟨W4.heap.size, 0, none⟩) [E1] ∧ w.heap.size ≤ (W4.alloc (Obj.cells #[.int .i64 (u1 : Nat), .slice ea1 el1 ec1] 82)).heap.size ∧ Below w.heap.size w (W4.alloc (Obj.cells #[.int .i64 (u1 : Nat), .slice ea1 el1 ec1] 82))) := ⟨H4.out.1.below ((Below.refl _ _).alloc (Nat.le_refl _) _), eks_oneL W4 HE1.out, by have := H4.out.2.size; simp; omega, H4.out.2.alloc H4.out.2.size _⟩
        go_wp2_with (at_builtin; (refine wpList_append_ek (v := .slice oa D oc) (es := ds) (fs := [E1]) rfl (.tmp 41) (.tmp 46) rfl rfl rfl rfl HY4.out.1 HY4.out.2.1 (show ds.length + 1 ≤ 100000 by rw [← HDL.out.1]; have := HLEN.out.1; omega) HY4.out.2.2.1 ?_; intro v9 w9 hov9 hg9 hat9; have H9 : Hid (OVk w9 w.heap.size v9 (ds ++ [E1]) ∧ Below w.heap.size w w9) := ⟨hov9, HY4.out.2.2.2.grown hg9 HY4.out.2.2.1 (fun j hj => (World.ownsRow.lt HY4.out.1 j hj).1)⟩; clear hov9 hg9 hat9))
        go_roundw
        case rel => exact ⟨i + 1, k, ds ++ [E1], by omega, by omega, by first | rfl | go_num, by first | rfl | go_num, H9.out.1, HST.out.1, H9.out.2⟩
        case measure => simp [intOf]; omega
      · have hin2 : ¬ (i : Int) < (n : Int) := by omega
        have HE : Hid (OVk wr w.heap.size (.slice oa D oc) (mrgE es fs) ∧ Below w.heap.size w wr) := by
          have h := HR.out.2.1
          rw [HD0.out.2 i k (by omega) (by omega), List.append_nil] at h
          rw [← h]
          exact ⟨HR.out.1, HR.out.2.2⟩
        go_wp2
        go_ret
        exact ⟨_, rfl, HE.out.1, HE.out.2⟩
/-- The symbols of each pack lie in a row of numbers of their own, behind the block M. -/
def EkSy (w : World) (M : Nat) (es : List Ek) : Prop := ∀ e ∈ es, ∃ b cur, e.a = some ⟨b, 0, none⟩ ∧ M < b ∧ e.p.sy.length ≤ e.c ∧ w.heap[b]? = some (.cells cur 3 (0, 0)) ∧ ∀ i, i < e.p.sy.length → cur[i]? = some (.int .i64 (e.p.sy.getD i 0))
theorem EkSy.only {S : Nat → Prop} {w w' : World} {M : Nat} {es : List Ek} (h : EkSy w M es) (ho : Only S w w') (hS : ∀ k, S k → k ≤ M ∨ ∃ cur T, w.heap[k]? = some (.cells cur T (0, 0)) ∧ T ≠ 3) : EkSy w' M es := fun e he => by
  obtain ⟨b, cur, h1, h2, h3, h4, h5⟩ := h e he
  refine ⟨b, cur, h1, h2, h3, (ho.block b (Array.getElem?_eq_some_iff.1 h4).1 (fun hs => ?_)).trans h4, h5⟩
  rcases hS b hs with h | ⟨cur', T, hc, hT⟩
  · omega
  · rw [h4] at hc
    simp at hc
    exact hT hc.2.symm
theorem EkSy.below {w w' : World} {M : Nat} {es : List Ek} (h : EkSy w M es) (hb : Below w.heap.size w w') : EkSy w' M es := h.only (Only.ofBelow (S := fun _ => False) hb (Nat.le_refl _)) (by simp)
theorem EkSy.sub {w : World} {M : Nat} {es fs : List Ek} (h : EkSy w M es) (hs : ∀ e ∈ fs, e ∈ es) : EkSy w M fs := fun e he => h e (hs e he)
theorem EkSy.ins {w : World} {M : Nat} {es : List Ek} (h : EkSy w M es) {e : Ek} (he : e ∈ es) (hr : ∀ z ∈ e.p.sy, -9223372036854775808 ≤ z ∧ z ≤ 9223372036854775807) : Ins w e.a e.p.sy := by
  obtain ⟨b, cur, h1, h2, h3, h4, h5⟩ := h e he
  refine ⟨hr, fun _ => ⟨b, 0, h1, (Array.getElem?_eq_some_iff.1 h4).1, fun i hi => ?_⟩⟩
  rw [Nat.zero_add]
  exact cell_blk h4 (h5 i hi)
theorem ek_made (w : World) {e : Ek} {u : Nat} {ea : Option Addr} {el ec : Nat} (h : Ekc e u ea el ec) : OVk (w.alloc (Obj.cells #[.int .i64 u, .slice ea el ec] 82)) w.heap.size (.slice (some ⟨w.heap.size, 0, none⟩) 1 1) [e] := by
  obtain ⟨rfl, rfl, rfl, rfl⟩ := h
  exact ⟨rfl, .inr ⟨w.heap.size, 1, _, rfl, Nat.le_refl _, heap_alloc_new w _, Nat.le_refl _, by decide, rfl, rfl⟩⟩
theorem OVk.take {w : World} {B : Nat} {a : Option Addr} {n c : Nat} {es : List Ek} (h : OVk w B (.slice a n c) es) (k : Nat) (hk : k ≤ es.length) : OVk w B (.slice a k c) (es.take k) := by
  have hl : (es.take k).length = k := by rw [List.length_take]; omega
  rcases h.2 with ⟨e, h1⟩ | ⟨g, cap, cur, e, hg, hh, h4, h5, h6, h7⟩
  · simp only [Value.slice.injEq] at e
    obtain ⟨rfl, -, rfl⟩ := e
    have hk0 : k = 0 := by omega
    subst hk0
    exact ⟨by rw [List.take_zero]; rfl, .inl ⟨rfl, by rw [List.take_zero]; rfl⟩⟩
  · simp only [Value.slice.injEq] at e
    obtain ⟨rfl, -, rfl⟩ := e
    refine ⟨ek_flen _, .inr ⟨g, c, cur, by rw [hl], hg, hh, by rw [hl]; omega, h5, h6, ?_⟩⟩
    rw [hl]
    have e1 : es.flatMap Ek.cells = (es.take k).flatMap Ek.cells ++ (es.drop k).flatMap Ek.cells := by rw [← List.flatMap_append, List.take_append_drop]
    have e2 : cur.toList.take (k * 2) = (cur.toList.take (es.length * 2)).take (k * 2) := by rw [List.take_take, Nat.min_eq_left (by omega)]
    rw [e2, h7, e1]
    have e3 : ((es.take k).flatMap Ek.cells).length = k * 2 := by rw [ek_flen, hl]
    rw [← e3, List.take_left]
theorem Eks.drop {w : World} {a : Option Addr} {c : Nat} {es : List Ek} (h : Eks w a es) (k : Nat) (hk : k ≤ es.length) (hc : es.length ≤ c) : Eks w (if c = k then a else a.map (·.add (k * 2))) (es.drop k) := fun h0 => by
  rw [List.length_drop] at h0
  obtain ⟨b, o, rfl, hl, hcl⟩ := h (by omega)
  rw [if_neg (by omega)]
  refine ⟨b, o + k * 2, by cases k <;> simp [Addr.add], hl, fun i hi => ?_⟩
  rw [List.length_drop] at hi
  have h1 := hcl (k + i) (by omega)
  have e : (es.drop k).getD i dek = es.getD (k + i) dek := by simp [List.getD_eq_getElem?_getD]
  rw [e, show o + k * 2 + i * 2 = o + (k + i) * 2 by omega]
  exact h1
/-- All that the model has in hand while it puts coins in order. -/
structure CoI (w W : World) (N n : Nat) (zs : List Int) (v : Value) (es : List Ek) : Prop where
  row : OVk W (N + 1) v es
  sy : EkSy W N es
  out : OwI W N N n (List.replicate zs.length 0)
  bel : Below N w W
theorem CoI.drewN {w W : World} {N n : Nat} {zs : List Int} {v : Value} {es : List Ek} (h : CoI w W N n zs v es) (q : Nat) : CoI w (W.drewN q) N n zs v es := ⟨h.row, h.sy, h.out, ⟨h.bel.os, h.bel.tape, h.bel.output, h.bel.size, h.bel.block⟩⟩
theorem CoI.below {w W W' : World} {N n : Nat} {zs : List Int} {v : Value} {es : List Ek} (h : CoI w W N n zs v es) (hb : Below W.heap.size W W') : CoI w W' N n zs v es := ⟨h.row.below hb, h.sy.below hb, h.out.below hb (Nat.le_refl _), h.bel.trans (hb.mono (Nat.le_of_lt h.out.lt.2))⟩
theorem CoI.more {w V w1 w2 : World} {N n D k i z cc : Nat} {zs : List Int} {ca : Option Addr} {v2 : Value} {es : List Ek} {o : Obj} (h : CoI w V N n zs (.slice ca D cc) es) (hk : k ≤ es.length)
    (hg1 : ((V.alloc (Obj.cells #[.int .i64 i] 3)).alloc o).grownBy w1 (some (V.heap.size + 1)))
    (hv2 : OVk w2 (N + 1) v2 (es.take k ++ ([⟨.coin i z, some ⟨V.heap.size, 0, none⟩, 1⟩] ++ es.drop k))) (hg2 : w1.grownBy w2 (Value.slice ca k cc).ownBlock) :
    CoI w w2 N n zs v2 (es.take k ++ ([⟨.coin i z, some ⟨V.heap.size, 0, none⟩, 1⟩] ++ es.drop k)) := by
  have hN := h.out.lt.2
  have hb2 : Below V.heap.size V ((V.alloc (Obj.cells #[.int .i64 i] 3)).alloc o) := ((Below.refl _ _).alloc (Nat.le_refl _) _).alloc (by simp) _
  have hb3 : Below V.heap.size V w1 := hb2.grown hg1 (by simp; omega) (fun j hj => by cases hj; omega)
  have hon : Only (fun b => (Value.slice ca k cc).ownBlock = some b) V w2 := (Only.ofBelow (S := fun b => (Value.slice ca k cc).ownBlock = some b) hb3 (Nat.le_refl _)).grown hg2 (fun b hb => .inl hb)
  have hcb : ∀ b, (Value.slice ca k cc).ownBlock = some b → N < b ∧ ∃ cur, V.heap[b]? = some (.cells cur 82 (0, 0)) := fun b hb => by
    have hb' : (Value.slice ca D cc).ownBlock = some b := by
      cases ca with
      | none => simp [Value.ownBlock] at hb
      | some x => exact hb
    exact ⟨(World.ownsRow.lt h.row b hb').1, h.row.tag hb'⟩
  have hsy : EkSy w2 N es := h.sy.only hon (fun b hb => by
    obtain ⟨_, cur, hc⟩ := hcb b hb
    exact .inr ⟨cur, _, hc, by decide⟩)
  have hnew : (V.alloc (Obj.cells #[.int .i64 i] 3)).heap[V.heap.size]? = some (.cells #[.int .i64 i] 3 (0, 0)) := heap_alloc_new V _
  have hnew2 : ((V.alloc (Obj.cells #[.int .i64 i] 3)).alloc o).heap[V.heap.size]? = some (.cells #[.int .i64 i] 3 (0, 0)) := (Below.heap_alloc _ _ _ (by simp)).trans hnew
  have hnew3 : w1.heap[V.heap.size]? = some (.cells #[.int .i64 i] 3 (0, 0)) := (hg1.block _ (by simp; omega) (by simp)).trans hnew2
  have hnew4 : w2.heap[V.heap.size]? = some (.cells #[.int .i64 i] 3 (0, 0)) := (hg2.block _ (Array.getElem?_eq_some_iff.1 hnew3).1 (fun e => by
    obtain ⟨_, cur, hc⟩ := hcb _ e.symm
    have := (Array.getElem?_eq_some_iff.1 hc).1
    omega)).trans hnew3
  refine ⟨hv2, fun e he => ?_, ?_, h.bel.trans (hon.below (Nat.le_of_lt hN) (fun b hb => by have := (hcb b hb).1; omega))⟩
  · rcases List.mem_append.1 he with he | he
    · exact hsy e (List.mem_of_mem_take he)
    · rcases List.mem_append.1 he with he | he
      · simp only [List.mem_singleton] at he
        subst he
        refine ⟨V.heap.size, _, rfl, hN, by simp [Pc.sy], hnew4, fun j hj => ?_⟩
        have hj0 : j = 0 := by simpa [Pc.sy] using hj
        subst hj0
        rfl
      · exact hsy e (List.mem_of_mem_drop he)
  · exact h.out.only hon (fun hb => by have := (hcb N hb).1; omega)
theorem insP_split (p : Pc) : ∀ (l : List Pc) (k : Nat), k ≤ l.length → (∀ j, j < k → (l.getD j dpc).wt ≤ p.wt) → (k < l.length → ¬ (l.getD k dpc).wt ≤ p.wt) → insP p l = l.take k ++ ([p] ++ l.drop k)
  | [], k, hk, _, _ => by simp at hk; subst hk; rfl
  | q :: l, 0, _, _, h2 => by
    have := h2 (by simp)
    simp only [insP]
    rw [if_neg (by simpa using this)]
    rfl
  | q :: l, k + 1, hk, h1, h2 => by
    have h0 := h1 0 (by omega)
    simp only [insP]
    rw [if_pos (by simpa using h0), insP_split p l k (by simpa using hk) (fun j hj => by simpa using h1 (j + 1) (by omega)) (fun h => by simpa using h2 (by simpa using h))]
    rfl
theorem ek_mapD (es : List Ek) (i : Nat) : (es.map Ek.p).getD i dpc = (es.getD i dek).p := by
  simp only [List.getD_eq_getElem?_getD, List.getElem?_map]
  cases es[i]? <;> rfl
/-- The model's list, one coin more. -/
theorem srt_step {zs : List Int} {es : List Ek} {i k z : Nat} {a : Option Addr} {c : Nat} (hm : es.map Ek.p = srt zs i) (hz : zs.getD i 0 = (z : Int)) (hz0 : 0 < z) (hk : k ≤ es.length) (h1 : ∀ j, j < k → (es.getD j dek).p.wt ≤ z) (h2 : k < es.length → ¬ (es.getD k dek).p.wt ≤ z) :
    (es.take k ++ ([(⟨.coin i z, a, c⟩ : Ek)] ++ es.drop k)).map Ek.p = srt zs (i + 1) := by
  simp only [srt]
  rw [if_pos (by omega), ← hm]
  have e : (zs.getD i 0).toNat = z := by omega
  rw [e, insP_split (.coin i z) (es.map Ek.p) k (by simpa using hk) (fun j hj => by rw [ek_mapD]; exact h1 j hj) (fun h => by rw [ek_mapD]; exact h2 (by simpa using h))]
  simp [List.map_take, List.map_drop]
end Go.Proofs.YtpancccomdchnaaGreatDoor
