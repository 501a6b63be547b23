/-
  The model's l4own: sequences copied.
-/
import Derived.Test.YtbkmdgceobilkaaCut2
import Derived.Test.YtbkmdgceobilkaaSqA
import Derived.Test.YtbkmdgceobilkaaBCut
import Derived.Test.YtbkmdgceobilkaaCut
import Derived.Test.YtbkmdgceobilkaaSqEq
namespace Go.Proofs.Ytbkmdgceobilkaa
open Go.RowKit
set_option linter.unusedVariables false
set_option linter.unusedSimpArgs false

set_option maxRecDepth 20000 in
set_option maxHeartbeats 4000000 in
theorem l4own_any (a : Option Addr) (cap : Nat) (ss : List Sq) (w : World) (hb : Sqs w a ss) (hn : ss.length ≤ 1000) (hl : ∀ s ∈ ss, s.ls.length ≤ 1000000) :
    Calls Try.prog 18 #[.slice a ss.length cap] w fun e w' => (∃ v ts, e = .returned v ∧ ts.map Sq.ct = ss.map Sq.ct ∧ OVq w' w.heap.size v ts ∧ DeepQ w' w.heap.size ts) ∧ Below w.heap.size w w' := by
  have HB : Hid (Sqs w a ss ∧ ∀ s ∈ ss, s.ls.length ≤ 1000000) := ⟨hb, hl⟩
  clear hb hl
  generalize hlen : ss.length = n at *
  have HLN : Hid (ss.length = n ∧ True) := ⟨hlen, trivial⟩
  clear hlen
  go_enter Try.func18, Try.ntmps18
  go_wp2
  go_loopw [3, 4] (fun o i wr => ∃ (k : Nat) (ts : List Sq) (oa : Option Addr) (oc : Nat), k ≤ n ∧ i = .int .i64 k ∧ o = .slice oa ts.length oc ∧ ts.map Sq.ct = (ss.take k).map Sq.ct ∧ OVq wr w.heap.size (.slice oa ts.length oc) ts ∧ DeepQ wr w.heap.size ts ∧ Below w.heap.size w wr) (fun _ i _ => n - (intOf i).toNat)
  case atStart => exact ⟨0, [], none, 0, Nat.zero_le _, rfl, rfl, by simp, OVq.nil _ _, DeepQ.nil _ _, Below.refl _ _⟩
  case round =>
    obtain ⟨k, ts, oa, oc, hk, rfl, rfl, hct, hoq, hdq, hbel⟩ := hrel
    have hes : ts.length = k := by
      have := congrArg List.length hct
      simp only [List.length_map, List.length_take, HLN.out.1] at this
      omega
    have HST : Hid (ts.map Sq.ct = (ss.take k).map Sq.ct ∧ ts.length = k) := ⟨hct, hes⟩
    have HO : Hid (OVq wr w.heap.size (.slice oa ts.length oc) ts ∧ DeepQ wr w.heap.size ts) := ⟨hoq, hdq⟩
    have HBB : Hid (Below w.heap.size w wr) := hbel
    clear hct hoq hdq
    by_cases hlt : k < n
    · obtain ⟨b, off, rfl, hbw, hly⟩ := HB.out.1.len_pos k (by rw [HLN.out.1]; exact hlt)
      have hk3 := (hly k (by rw [HLN.out.1]; exact hlt)).below hbel (Nat.le_refl _) hbw
      have d0 := hk3.c0
      have d1 := hk3.c1
      have d2 := hk3.c2
      have hby := hk3.byt
      have hll := HB.out.2 _ (getD_memS (k := k) (by rw [HLN.out.1]; exact hlt))
      have HCS : Hid ((ss.take (k + 1)).map Sq.ct = (ss.take k).map Sq.ct ++ [(ss.getD k dq).ct] ∧ True) := ⟨ct_take_succ ss k (by rw [HLN.out.1]; exact hlt), trivial⟩
      have hbl : b < wr.heap.size := Nat.lt_of_lt_of_le hbw hbel.size
      clear hk3 hly hbel
      generalize ss.getD k dq = s at *
      obtain ⟨a2, c2, sl, sn, sd⟩ := s
      simp only at d0 d1 d2 hby hll
      have HBY : Hid (Byt wr a2 sl) := hby
      clear hby
      have hk1 : ts.length ≤ 1000 := by omega
      have hwz : w.heap.size ≤ wr.heap.size := HBB.out.size
      clear hes
      go_wp2
      have HE1 : Hid (OVB (wr.drew.alloc (Obj.cells #[] 5)) wr.heap.size (.slice (some ⟨wr.heap.size, 0, none⟩) 0 0) [] ∧ Byt (wr.drew.alloc (Obj.cells #[] 5)) a2 sl ∧ Below wr.heap.size wr (wr.drew.alloc (Obj.cells #[] 5))) := ⟨OVB.empty wr.drew _ (Nat.le_refl _), (HBY.out.drewN 1).alloc _, Below.drewS ((Below.refl wr.heap.size wr.drew).alloc (Nat.le_refl _) _)⟩
      refine wp_region_cut (S := fun W => W.cell? ⟨b, off + k * 3, none⟩ = some (.slice a2 sl.length c2) ∧ W.cell? ⟨b, off + k * 3 + 1, none⟩ = some (.int .i64 sn) ∧ W.cell? ⟨b, off + k * 3 + 2, none⟩ = some (.int .i64 sd)) 21 (by kernel_rfl) (by kernel_rfl) (by exact ⟨d0, d1, d2⟩) (fun hHeld => ?_)
      refine tk 0 (v := ?_) ?_ ?_
      rotate_left 1
      · (intro w hSw; (try dsimp only at hSw); go_simp; try (with_reducible rfl))
      try simp only [tkS]
      refine tk 2 (v := ?_) ?_ ?_
      rotate_left 1
      · (intro w hSw; (try dsimp only at hSw); go_simp; try (with_reducible rfl))
      try simp only [tkS]
      refine tk 3 (v := ?_) ?_ ?_
      rotate_left 1
      · (intro w hSw; (try dsimp only at hSw); go_simp; try (with_reducible rfl))
      try simp only [tkS]
      refine tk 4 (v := ?_) ?_ ?_
      rotate_left 1
      · (intro w hSw; (try dsimp only at hSw); go_simp; try (with_reducible rfl))
      try simp only [tkS]
      refine tk 5 (v := ?_) ?_ ?_
      rotate_left 1
      · (intro w hSw; (try dsimp only at hSw); go_simp; try (with_reducible rfl))
      try simp only [tkS]
      refine tk 6 (v := ?_) ?_ ?_
      rotate_left 1
      · (intro w hSw; (try dsimp only at hSw); go_simp; try (with_reducible rfl))
      try simp only [tkS]
      refine tk 8 (v := ?_) ?_ ?_
      rotate_left 1
      · (intro w hSw; (try dsimp only at hSw); go_simp; try (with_reducible rfl))
      try simp only [tkS]
      refine tk 9 (v := ?_) ?_ ?_
      rotate_left 1
      · (intro w hSw; (try dsimp only at hSw); go_simp; try (with_reducible rfl))
      try simp only [tkS]
      refine tk 10 (v := ?_) ?_ ?_
      rotate_left 1
      · (intro w hSw; (try dsimp only at hSw); go_simp; try (with_reducible rfl))
      try simp only [tkS]
      refine tk 11 (v := ?_) ?_ ?_
      rotate_left 1
      · (intro w hSw; (try dsimp only at hSw); go_simp; try (with_reducible rfl))
      try simp only [tkS]
      refine tk 12 (v := ?_) ?_ ?_
      rotate_left 1
      · (intro w hSw; (try dsimp only at hSw); go_simp; try (with_reducible rfl))
      try simp only [tkS]
      refine tk 13 (v := ?_) ?_ ?_
      rotate_left 1
      · (intro w hSw; (try dsimp only at hSw); go_simp; try (with_reducible rfl))
      try simp only [tkS]
      refine tk 14 (v := ?_) ?_ ?_
      rotate_left 1
      · (intro w hSw; (try dsimp only at hSw); go_simp; try (with_reducible rfl))
      try simp only [tkS]
      refine tk 15 (v := ?_) ?_ ?_
      rotate_left 1
      · (intro w hSw; (try dsimp only at hSw); go_simp; try (with_reducible rfl))
      try simp only [tkS]
      refine tk 16 (v := ?_) ?_ ?_
      rotate_left 1
      · (intro w hSw; (try dsimp only at hSw); go_simp; try (with_reducible rfl))
      try simp only [tkS]
      refine tk 17 (v := ?_) ?_ ?_
      rotate_left 1
      · (intro w hSw; (try dsimp only at hSw); go_simp; try (with_reducible rfl))
      try simp only [tkS]
      refine wpAnyH_ready (rs := [1]) (by kernel_rfl) (by simp) ?_
      refine AllReadyH.cons rfl (fun K hK => ?_) AllReadyH.nil
      go_simp
      refine hK.out _ _ (by exact ⟨keepA _ hbl d0, keepA _ hbl d1, keepA _ hbl d2⟩) (fun hHeld => ?_)
      clear hK K
      try simp only [tkS]
      refine wpAnyH_ready (rs := [7]) (by kernel_rfl) (by simp) ?_
      refine AllReadyH.cons rfl (fun K hK => ?_) AllReadyH.nil
      refine wanted_step rfl (wp_append_byt (.tmp 12) (.tmp 17) rfl wr.heap.size (.slice (some ⟨wr.heap.size, 0, none⟩) 0 0) [] (by simp [Act.eval]) (HE1.out.1) a2 c2 sl (by simp [Act.eval]) (HE1.out.2.1) (by simp; omega) (by simp) ?_)
      intro v2 w2 hov2 hg2
      have hb2 : Below wr.heap.size wr w2 := appB_below HE1.out.2.2 (by simp) HE1.out.1 hg2
      rw [List.nil_append] at hov2
      obtain ⟨ua, uc, rfl, hm2⟩ := hov2.mine
      have HM2 : Hid (Mine w2 wr.heap.size w2.heap.size ua uc sl ∧ Below wr.heap.size wr w2) := ⟨hm2, hb2⟩
      have k0 := keep hb2 hbl d0
      have k1 := keep hb2 hbl d1
      have k2 := keep hb2 hbl d2
      have hbl2 : b < w2.heap.size := by have := hb2.size; omega
      clear hm2 hb2 hov2 hg2
      refine hK.out _ _ (by exact ⟨k0, k1, k2⟩) (fun hHeld => ?_)
      clear hK K
      try simp only [tkS]
      refine tk 18 (v := ?_) ?_ ?_
      rotate_left 1
      · (intro w hSw; (try dsimp only at hSw); go_simp; try (with_reducible rfl))
      try simp only [tkS]
      refine wpAnyH_ready (rs := [19]) (by kernel_rfl) (by simp) ?_
      refine AllReadyH.cons rfl (fun K hK => ?_) AllReadyH.nil
      go_simp
      refine hK.out _ _ (by exact ⟨keepA _ hbl2 k0, keepA _ hbl2 k1, keepA _ hbl2 k2⟩) (fun hHeld => ?_)
      clear hK K
      try simp only [tkS]
      refine wpAnyH_ready (rs := [20]) (by kernel_rfl) (by simp) ?_
      refine AllReadyH.cons rfl (fun K hK => ?_) AllReadyH.nil
      have hA2 : Below w2.heap.size w2 (w2.alloc (Obj.cells #[.slice ua sl.length uc, .int .i64 sn, .int .i64 sd] 43)) := (Below.refl _ _).alloc (Nat.le_refl _) _
      have HO2 : Hid (OVq (w2.alloc (Obj.cells #[.slice ua sl.length uc, .int .i64 sn, .int .i64 sd] 43)) w.heap.size (.slice oa ts.length oc) ts) := (HO.out.1.below HM2.out.2).below hA2
      refine wanted_step rfl (wp_append_sq (.tmp 11) (.tmp 30) rfl w.heap.size (.slice oa ts.length oc) ts (by simp [Act.eval]) HO2.out w2.heap.size 1 ⟨ua, uc, sl, sn, sd⟩ (by simp [Act.eval]) (newsQ w2 ua sl.length uc sn sd 43 ⟨ua, uc, sl, sn, sd⟩ rfl rfl rfl rfl rfl) (by omega) (by have := HM2.out.2.size; simp; omega) ?_)
      intro v3 w3 hov3 hg3
      obtain ⟨sa3, sc3, hv3⟩ := hov3.form
      rw [List.length_append, List.length_singleton] at hv3
      subst hv3
      have hd3 : DeepQ w2 w.heap.size (ts ++ [⟨ua, uc, sl, sn, sd⟩]) := (HO.out.2.below HM2.out.2).snoc (HM2.out.1.mono (by omega) (Nat.le_refl _)) (fun z hz q hq hq2 => by
        have h1 := ((HO.out.2.mine z hz).rowB hq).2
        have h2 := (HM2.out.1.rowB hq2).1
        omega)
      have HM : Hid (OVq w3 w.heap.size (.slice sa3 (ts.length + 1) sc3) (ts ++ [⟨ua, uc, sl, sn, sd⟩]) ∧ DeepQ w3 w.heap.size (ts ++ [⟨ua, uc, sl, sn, sd⟩]) ∧ Below w.heap.size w w3) := ⟨hov3, (hd3.below hA2).grown HO2.out hg3, appQ_below ((HBB.out.trans (HM2.out.2.mono HBB.out.size)).trans (hA2.mono (by have := HBB.out.size; have := HM2.out.2.size; omega))) (by have := HBB.out.size; have := HM2.out.2.size; simp; omega) HO2.out hg3⟩
      have hne : ¬ (Value.slice oa ts.length oc).ownBlock = some b := fun he => by have := (HO2.out.blk he).1; omega
      have e0 := (Only.ofGrownQ hg3).cell (b := b) (o := off + k * 3) (by simp; omega) hne (keepA _ hbl2 k0)
      have e1 := (Only.ofGrownQ hg3).cell (b := b) (o := off + k * 3 + 1) (by simp; omega) hne (keepA _ hbl2 k1)
      have e2 := (Only.ofGrownQ hg3).cell (b := b) (o := off + k * 3 + 2) (by simp; omega) hne (keepA _ hbl2 k2)
      clear hov3 hg3 hd3 hA2
      refine hK.out _ _ (by exact ⟨e0, e1, e2⟩) (fun hHeld => ?_)
      clear hK K
      try simp only [tkS]
      refine wpAnyH_done (by kernel_rfl) ?_ _
      simp only [cutQ, List.drop_succ_cons, List.drop_zero]
      have HCT2 : Hid ((ts ++ [(⟨ua, uc, sl, sn, sd⟩ : Sq)]).map Sq.ct = (ss.take (k + 1)).map Sq.ct ∧ True) := ⟨by rw [List.map_append, HST.out.1, HCS.out.1]; rfl, trivial⟩
      have HL9 : Hid ((ts ++ [(⟨ua, uc, sl, sn, sd⟩ : Sq)]).length = ts.length + 1 ∧ True) := ⟨by simp, trivial⟩
      clear HM2 d0 d1 d2 HO HCS HST k0 k1 k2 e0 e1 e2 HE1 HO2
      go_wp2
      go_roundw
      case rel => exact ⟨k + 1, _, sa3, sc3, by omega, by go_num, by rw [HL9.out.1], HCT2.out.1, by rw [HL9.out.1]; exact HM.out.1, HM.out.2.1, HM.out.2.2⟩
      case measure => simp [intOf]; omega
    · have hkn : k = n := by omega
      subst hkn
      have HF : Hid (ts.map Sq.ct = ss.map Sq.ct ∧ True) := ⟨by rw [HST.out.1, List.take_of_length_le (by rw [HLN.out.1]; exact Nat.le_refl _)], trivial⟩
      clear hes
      go_wp2
      go_ret
      exact ⟨⟨_, ts, rfl, HF.out.1, HO.out.1, HO.out.2⟩, HBB.out⟩
end Go.Proofs.Ytbkmdgceobilkaa
