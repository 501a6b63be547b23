/-
  Find of the model. (Typed by wip/mkfns.py.)
-/
import Derived.Test.YtojnomdlkihgmaaGreatDoorSqA
import Derived.Test.YtojnomdlkihgmaaGreatDoorITxtI
import Derived.Test.YtojnomdlkihgmaaGreatDoorSyM
import Derived.Deep.RegionHeld3
import Derived.Test.YtojnomdlkihgmaaGreatDoorPcN
import Derived.Test.YtojnomdlkihgmaaGreatDoorCut
namespace Go.Proofs.YtojnomdlkihgmaaGreatDoor
open Go.RowKit
set_option linter.unusedVariables false
set_option linter.unusedSimpArgs false

/-- Sequences that were read: what they say lies within bounds. -/
def Sml (ss : List Sq) : Prop := ∀ s ∈ ss, 0 ≤ s.n ∧ s.n ≤ 10000 ∧ 0 ≤ s.d ∧ s.d ≤ 10000 ∧ s.ls.length ≤ 300
theorem Sml.nil : Sml [] := by intro s hs; cases hs
theorem Sml.snoc {ss : List Sq} {s : Sq} (h : Sml ss) (hs : 0 ≤ s.n ∧ s.n ≤ 10000 ∧ 0 ≤ s.d ∧ s.d ≤ 10000 ∧ s.ls.length ≤ 300) : Sml (ss ++ [s]) := by
  intro x hx
  rcases List.mem_append.1 hx with hx | hx
  · exact h x hx
  · obtain rfl : x = s := by simpa using hx
    exact hs
theorem Sml.rng {ss : List Sq} (h : Sml ss) : ∀ s ∈ ss, rI s.n ∧ rI s.d ∧ s.ls.length ≤ maxLen := fun s hs => by
  obtain ⟨h1, h2, h3, h4, h5⟩ := h s hs
  refine ⟨⟨by omega, by omega⟩, ⟨by omega, by omega⟩, by unfold maxLen; omega⟩
/-- A row of letters lies apart from those of sequences. -/
def Aprt (ss : List Sq) (v : Value) : Prop := ∀ s ∈ ss, ∀ k, rowOf s.a k → v.ownBlock ≠ some k
theorem Aprt.none (ss : List Sq) : Aprt ss (.slice none 0 0) := by intro s hs k hk; simp [Value.ownBlock]
theorem Aprt.app {w : World} {B : Nat} {ss : List Sq} {v v' : Value} {H : Nat} (h : Aprt ss v) (hd : DeepQ w B ss) (hv : v'.ownBlock = v.ownBlock ∨ v'.ownBlock = some H) (hH : w.heap.size ≤ H) : Aprt ss v' := by
  intro s hs k hk
  rcases hv with hv | hv
  · rw [hv]; exact h s hs k hk
  · rw [hv]
    have := ((hd.mine s hs).rowB hk).2
    simp only [ne_eq, Option.some.injEq]
    omega
/-- The letters of all stay where a row of letters that lies apart grows. -/
theorem DeepQ.grownB {w w' : World} {B : Nat} {ss : List Sq} {v : Value} (hd : DeepQ w B ss) (h : Aprt ss v) (hg : w.grownBy w' v.ownBlock) : DeepQ w' B ss :=
  hd.stay (Only.ofGrownQ hg) (fun s hs k hk e => h s hs k hk e)
/-- A row of sequences stays where a row of letters grows. -/
theorem OVq.grownB {w w' : World} {B B' : Nat} {v lv : Value} {ss : List Sq} {ls : List Int} (h : OVq w B v ss) (hb : OVB w B' lv ls) (hg : w.grownBy w' lv.ownBlock) : OVq w' B v ss := by
  refine h.stay (Only.ofGrownQ hg) (fun k hk e => ?_)
  rcases h.own.2 with ⟨rfl, h0⟩ | ⟨g, cap, cur, rfl, hg, hh, _⟩
  · simp [Value.ownBlock] at hk
  · obtain rfl : g = k := by simpa [Value.ownBlock] using hk
    exact hb.blk_ne hh (by decide) e.symm
theorem DeepQ.weak {w : World} {B B' : Nat} {ss : List Sq} (h : DeepQ w B ss) (hB : B' ≤ B) : DeepQ w B' ss := ⟨fun s hs => (h.mine s hs).mono hB (Nat.le_refl _), h.apart⟩
theorem OVB.mineAt {w : World} {B : Nat} {v : Value} {zs : List Int} (h : OVB w B v zs) : ∃ (a : Option Addr) (cp : Nat), v = .slice a zs.length cp ∧ Mine w B w.heap.size a cp zs ∧ ∀ k, rowOf a k → v.ownBlock = some k := by
  obtain ⟨a, cp, e, hm⟩ := h.mine
  refine ⟨a, cp, e, hm, fun k hk => ?_⟩
  obtain ⟨x, rfl, rfl⟩ := hk
  rw [e]
  rfl
theorem heap_new (w : World) (o : Obj) : (w.alloc o).heap[w.heap.size]? = some o := by simp only [World.alloc, Array.getElem?_push_size]
theorem run_append_byt (w : World) (ty : TypeId) (B : Nat) (v : Value) (zs : List Int) (hown : OVB w B v zs) (xa : Option Addr) (c : Nat) (ys : List Int) (hy : Byt w xa ys) (hb1 : zs.length + ys.length ≤ 1000000) (hbase : B ≤ w.heap.size) :
    ∃ v' w', (Builtin.append_ #[22, 22] ty #[v, .slice xa ys.length c]).run Tryz.prog w = .ok v' w' ∧ OVB w' B v' (zs ++ ys) ∧ w.grownBy w' v.ownBlock := by
  obtain ⟨i0, hi, hz0, hz1, hz2⟩ := info_parts Tryz.infoU8
  have hr : ∀ z ∈ zs ++ ys, 0 ≤ z ∧ z ≤ 255 := fun z hz => (List.mem_append.1 hz).elim (hown.2 z) (hy.1 z)
  cases xa with
  | none =>
    have hy0 : ys = [] := by
      rcases Nat.eq_zero_or_pos ys.length with h0 | h0
      · exact List.eq_nil_of_length_eq_zero h0
      · obtain ⟨b, off, e, _⟩ := hy.2 h0
        cases e
    subst hy0
    exact ⟨v, w, run_append_none (P := Tryz.prog) w 22 ty 5 i0 Tryz.underlying22 hi B 1 zs.length v _ hown.1 c, by simpa using hown, World.grownBy.refl w _⟩
  | some ad =>
    have hnews : ∀ j u, (ys.map (Value.int .u8))[j]? = some u → w.cell? (ad.add j) = some u := by
      intro j u hu
      have hj : j < ys.length := by
        rcases Nat.lt_or_ge j ys.length with h | h
        · exact h
        · rw [List.getElem?_eq_none (by simpa using h)] at hu; cases hu
      obtain ⟨b, off, e, _, hc⟩ := hy.2 (by omega)
      obtain rfl : ad = ⟨b, off, none⟩ := by simpa using e
      exact news_of hc j u hu
    obtain ⟨v', w', hrun, h2, h3, _, _⟩ := run_append_own_at (P := Tryz.prog) w B 22 ty 5 i0 (.int .u8 0) 1 1 Tryz.underlying22 hi hz0 hz1 hz2 rfl (by decide) v zs.length _ hown.1 ad ys.length c (ys.map (Value.int .u8)) (by simp) hnews (oneCells ys) (by unfold maxLen; omega) (by omega) hbase
    refine ⟨v', w', hrun, ⟨?_, hr⟩, h3⟩
    rw [List.length_append, List.map_append]
    exact h2
theorem wanted_step {P : Program} {ops : Array Oper} {o : Oper} {a : Act} {w : World} {K : Act → World → Prop} {Q : Exit → Act → World → Prop} {E : Prop} (hg : o.guard = none) (h : Oper.wp P o a w K Q) :
    if Region.wanted o (yielded ops a.tmps) = true then Oper.wp P o a w K Q else E := by
  rw [if_pos (by simp [Region.wanted, hg])]
  exact h
theorem OVB.empty (w : World) (B : Nat) (hB : B ≤ w.heap.size) : OVB (w.alloc (Obj.cells #[] 5)) B (.slice (some ⟨w.heap.size, 0, none⟩) 0 0) [] :=
  ⟨⟨rfl, .inr ⟨w.heap.size, 0, #[], rfl, hB, heap_new w _, Nat.le_refl _, by simp, rfl, rfl⟩⟩, by simp⟩
theorem wp_append_byt {o : Oper} {a : Act} {w : World} {K : Act → World → Prop} {Q : Exit → Act → World → Prop} (s x : Operand) (ho : o.op = .call { callee := .builtin .append, args := #[s, x], argTypes := #[22, 22] })
    (B : Nat) (v : Value) (zs : List Int) (hs : a.eval s = v) (hown : OVB w B v zs) (xa : Option Addr) (c : Nat) (ys : List Int) (hx : a.eval x = .slice xa ys.length c) (hy : Byt w xa ys) (hb1 : zs.length + ys.length ≤ 1000000) (hbase : B ≤ w.heap.size)
    (h : ∀ v' w', OVB w' B v' (zs ++ ys) → w.grownBy w' v.ownBlock → K (a.put o.dst v') w') : o.wp Tryz.prog a w K Q := by
  obtain ⟨v', w', hr, h2, h3⟩ := run_append_byt w o.type B v zs hown xa c ys hy hb1 hbase
  unfold Oper.wp execOp
  simp only [ho, resolve, invoke, builtin, Sem.run_bind, Sem.run_pure, Result.andThen_ok, List.map_toArray, List.map_cons, List.map_nil, hs, hx, hr]
  exact h v' w' h2 h3
theorem below_dSq {B : Nat} {a b : World} (h : Below B a b) (n : Nat) : Below B a (b.drewN n) := ⟨h.os, h.tape, h.output, h.size, h.block⟩

theorem ct_get {ss ts : List Sq} (h : ss.map Sq.ct = ts.map Sq.ct) (k : Nat) : (ss.getD k dq).ct = (ts.getD k dq).ct := by
  have : (ss.map Sq.ct).getD k dq.ct = (ts.map Sq.ct).getD k dq.ct := by rw [h]
  simpa [List.getD_eq_getElem?_getD, List.getElem?_map, Option.getD_map] using this

set_option maxRecDepth 20000 in
set_option maxHeartbeats 4000000 in
theorem l4own_any (a : Option Addr) (cap : Nat) (ss : List Sq) (w : World) (hb : Sqs w a ss) (hn : ss.length ≤ 1000) (hl : ∀ s ∈ ss, s.ls.length ≤ 1000000) :
    Calls Tryz.prog 37 #[.slice a ss.length cap] w fun e w' => (∃ v ts, e = .returned v ∧ ts.map Sq.ct = ss.map Sq.ct ∧ OVq w' w.heap.size v ts ∧ DeepQ w' w.heap.size ts) ∧ Below w.heap.size w w' := by
  have HB : Hid (Sqs w a ss ∧ ∀ s ∈ ss, s.ls.length ≤ 1000000) := ⟨hb, hl⟩
  clear hb hl
  generalize hlen : ss.length = n at *
  have HLN : Hid (ss.length = n ∧ True) := ⟨hlen, trivial⟩
  clear hlen
  go_enter Tryz.func37, Tryz.ntmps37
  go_wp2
  go_loopw [3, 4] (fun o i wr => ∃ (k : Nat) (ts : List Sq) (oa : Option Addr) (oc : Nat), k ≤ n ∧ i = .int .i64 k ∧ o = .slice oa ts.length oc ∧ ts.map Sq.ct = (ss.take k).map Sq.ct ∧ OVq wr w.heap.size (.slice oa ts.length oc) ts ∧ DeepQ wr w.heap.size ts ∧ Below w.heap.size w wr) (fun _ i _ => n - (intOf i).toNat)
  case atStart => exact ⟨0, [], none, 0, Nat.zero_le _, rfl, rfl, by simp, OVq.nil _ _, DeepQ.nil _ _, Below.refl _ _⟩
  case round =>
    obtain ⟨k, ts, oa, oc, hk, rfl, rfl, hct, hoq, hdq, hbel⟩ := hrel
    have hes : ts.length = k := by
      have := congrArg List.length hct
      simp only [List.length_map, List.length_take, HLN.out.1] at this
      omega
    have HST : Hid (ts.map Sq.ct = (ss.take k).map Sq.ct ∧ ts.length = k) := ⟨hct, hes⟩
    have HO : Hid (OVq wr w.heap.size (.slice oa ts.length oc) ts ∧ DeepQ wr w.heap.size ts) := ⟨hoq, hdq⟩
    have HBB : Hid (Below w.heap.size w wr) := hbel
    clear hct hoq hdq
    by_cases hlt : k < n
    · obtain ⟨b, off, rfl, hbw, hly⟩ := HB.out.1.len_pos k (by rw [HLN.out.1]; exact hlt)
      have hk3 := (hly k (by rw [HLN.out.1]; exact hlt)).below hbel (Nat.le_refl _) hbw
      have d0 := hk3.c0
      have d1 := hk3.c1
      have d2 := hk3.c2
      have hby := hk3.byt
      have hll := HB.out.2 _ (getD_memS (k := k) (by rw [HLN.out.1]; exact hlt))
      have HCS : Hid ((ss.take (k + 1)).map Sq.ct = (ss.take k).map Sq.ct ++ [(ss.getD k dq).ct] ∧ True) := ⟨ct_take_succ ss k (by rw [HLN.out.1]; exact hlt), trivial⟩
      have hbl : b < wr.heap.size := Nat.lt_of_lt_of_le hbw hbel.size
      clear hk3 hly hbel
      generalize ss.getD k dq = s at *
      obtain ⟨a2, c2, sl, sn, sd⟩ := s
      simp only at d0 d1 d2 hby hll
      have HBY : Hid (Byt wr a2 sl) := hby
      clear hby
      have hk1 : ts.length ≤ 1000 := by omega
      have hwz : w.heap.size ≤ wr.heap.size := HBB.out.size
      clear hes
      go_wp2
      have HE1 : Hid (OVB (wr.drew.alloc (Obj.cells #[] 5)) wr.heap.size (.slice (some ⟨wr.heap.size, 0, none⟩) 0 0) [] ∧ Byt (wr.drew.alloc (Obj.cells #[] 5)) a2 sl ∧ Below wr.heap.size wr (wr.drew.alloc (Obj.cells #[] 5))) := ⟨OVB.empty wr.drew _ (Nat.le_refl _), (HBY.out.drewN 1).alloc _, Below.drewS ((Below.refl wr.heap.size wr.drew).alloc (Nat.le_refl _) _)⟩
      refine wp_region_cut (S := fun W => W.cell? ⟨b, off + k * 3, none⟩ = some (.slice a2 sl.length c2) ∧ W.cell? ⟨b, off + k * 3 + 1, none⟩ = some (.int .i64 sn) ∧ W.cell? ⟨b, off + k * 3 + 2, none⟩ = some (.int .i64 sd)) 21 (by kernel_rfl) (by kernel_rfl) (by exact ⟨d0, d1, d2⟩) (fun hHeld => ?_)
      refine tk 0 (v := ?_) ?_ ?_
      rotate_left 1
      · (intro w hSw; (try dsimp only at hSw); go_simp; try (with_reducible rfl))
      try simp only [tkS]
      refine tk 2 (v := ?_) ?_ ?_
      rotate_left 1
      · (intro w hSw; (try dsimp only at hSw); go_simp; try (with_reducible rfl))
      try simp only [tkS]
      refine tk 3 (v := ?_) ?_ ?_
      rotate_left 1
      · (intro w hSw; (try dsimp only at hSw); go_simp; try (with_reducible rfl))
      try simp only [tkS]
      refine tk 4 (v := ?_) ?_ ?_
      rotate_left 1
      · (intro w hSw; (try dsimp only at hSw); go_simp; try (with_reducible rfl))
      try simp only [tkS]
      refine tk 5 (v := ?_) ?_ ?_
      rotate_left 1
      · (intro w hSw; (try dsimp only at hSw); go_simp; try (with_reducible rfl))
      try simp only [tkS]
      refine tk 6 (v := ?_) ?_ ?_
      rotate_left 1
      · (intro w hSw; (try dsimp only at hSw); go_simp; try (with_reducible rfl))
      try simp only [tkS]
      refine tk 8 (v := ?_) ?_ ?_
      rotate_left 1
      · (intro w hSw; (try dsimp only at hSw); go_simp; try (with_reducible rfl))
      try simp only [tkS]
      refine tk 9 (v := ?_) ?_ ?_
      rotate_left 1
      · (intro w hSw; (try dsimp only at hSw); go_simp; try (with_reducible rfl))
      try simp only [tkS]
      refine tk 10 (v := ?_) ?_ ?_
      rotate_left 1
      · (intro w hSw; (try dsimp only at hSw); go_simp; try (with_reducible rfl))
      try simp only [tkS]
      refine tk 11 (v := ?_) ?_ ?_
      rotate_left 1
      · (intro w hSw; (try dsimp only at hSw); go_simp; try (with_reducible rfl))
      try simp only [tkS]
      refine tk 12 (v := ?_) ?_ ?_
      rotate_left 1
      · (intro w hSw; (try dsimp only at hSw); go_simp; try (with_reducible rfl))
      try simp only [tkS]
      refine tk 13 (v := ?_) ?_ ?_
      rotate_left 1
      · (intro w hSw; (try dsimp only at hSw); go_simp; try (with_reducible rfl))
      try simp only [tkS]
      refine tk 14 (v := ?_) ?_ ?_
      rotate_left 1
      · (intro w hSw; (try dsimp only at hSw); go_simp; try (with_reducible rfl))
      try simp only [tkS]
      refine tk 15 (v := ?_) ?_ ?_
      rotate_left 1
      · (intro w hSw; (try dsimp only at hSw); go_simp; try (with_reducible rfl))
      try simp only [tkS]
      refine tk 16 (v := ?_) ?_ ?_
      rotate_left 1
      · (intro w hSw; (try dsimp only at hSw); go_simp; try (with_reducible rfl))
      try simp only [tkS]
      refine tk 17 (v := ?_) ?_ ?_
      rotate_left 1
      · (intro w hSw; (try dsimp only at hSw); go_simp; try (with_reducible rfl))
      try simp only [tkS]
      refine wpAnyH_ready (rs := [1]) (by kernel_rfl) (by simp) ?_
      refine AllReadyH.cons rfl (fun K hK => ?_) AllReadyH.nil
      go_simp
      refine hK.out _ _ (by exact ⟨keepA _ hbl d0, keepA _ hbl d1, keepA _ hbl d2⟩) (fun hHeld => ?_)
      clear hK K
      try simp only [tkS]
      refine wpAnyH_ready (rs := [7]) (by kernel_rfl) (by simp) ?_
      refine AllReadyH.cons rfl (fun K hK => ?_) AllReadyH.nil
      refine wanted_step rfl (wp_append_byt (.tmp 12) (.tmp 17) rfl wr.heap.size (.slice (some ⟨wr.heap.size, 0, none⟩) 0 0) [] (by simp [Act.eval]) (HE1.out.1) a2 c2 sl (by simp [Act.eval]) (HE1.out.2.1) (by simp; omega) (by simp) ?_)
      intro v2 w2 hov2 hg2
      have hb2 : Below wr.heap.size wr w2 := appB_below HE1.out.2.2 (by simp) HE1.out.1 hg2
      rw [List.nil_append] at hov2
      obtain ⟨ua, uc, rfl, hm2⟩ := hov2.mine
      have HM2 : Hid (Mine w2 wr.heap.size w2.heap.size ua uc sl ∧ Below wr.heap.size wr w2) := ⟨hm2, hb2⟩
      have k0 := keep hb2 hbl d0
      have k1 := keep hb2 hbl d1
      have k2 := keep hb2 hbl d2
      have hbl2 : b < w2.heap.size := by have := hb2.size; omega
      clear hm2 hb2 hov2 hg2
      refine hK.out _ _ (by exact ⟨k0, k1, k2⟩) (fun hHeld => ?_)
      clear hK K
      try simp only [tkS]
      refine tk 18 (v := ?_) ?_ ?_
      rotate_left 1
      · (intro w hSw; (try dsimp only at hSw); go_simp; try (with_reducible rfl))
      try simp only [tkS]
      refine wpAnyH_ready (rs := [19]) (by kernel_rfl) (by simp) ?_
      refine AllReadyH.cons rfl (fun K hK => ?_) AllReadyH.nil
      go_simp
      refine hK.out _ _ (by exact ⟨keepA _ hbl2 k0, keepA _ hbl2 k1, keepA _ hbl2 k2⟩) (fun hHeld => ?_)
      clear hK K
      try simp only [tkS]
      refine wpAnyH_ready (rs := [20]) (by kernel_rfl) (by simp) ?_
      refine AllReadyH.cons rfl (fun K hK => ?_) AllReadyH.nil
      have hA2 : Below w2.heap.size w2 (w2.alloc (Obj.cells #[.slice ua sl.length uc, .int .i64 sn, .int .i64 sd] 37)) := (Below.refl _ _).alloc (Nat.le_refl _) _
      have HO2 : Hid (OVq (w2.alloc (Obj.cells #[.slice ua sl.length uc, .int .i64 sn, .int .i64 sd] 37)) w.heap.size (.slice oa ts.length oc) ts) := (HO.out.1.below HM2.out.2).below hA2
      refine wanted_step rfl (wp_append_sq (.tmp 11) (.tmp 30) rfl w.heap.size (.slice oa ts.length oc) ts (by simp [Act.eval]) HO2.out w2.heap.size 1 ⟨ua, uc, sl, sn, sd⟩ (by simp [Act.eval]) (newsQ w2 ua sl.length uc sn sd 37 ⟨ua, uc, sl, sn, sd⟩ rfl rfl rfl rfl rfl) (by omega) (by have := HM2.out.2.size; simp; omega) ?_)
      intro v3 w3 hov3 hg3
      obtain ⟨sa3, sc3, hv3⟩ := hov3.form
      rw [List.length_append, List.length_singleton] at hv3
      subst hv3
      have hd3 : DeepQ w2 w.heap.size (ts ++ [⟨ua, uc, sl, sn, sd⟩]) := (HO.out.2.below HM2.out.2).snoc (HM2.out.1.mono (by omega) (Nat.le_refl _)) (fun z hz q hq hq2 => by
        have h1 := ((HO.out.2.mine z hz).rowB hq).2
        have h2 := (HM2.out.1.rowB hq2).1
        omega)
      have HM : Hid (OVq w3 w.heap.size (.slice sa3 (ts.length + 1) sc3) (ts ++ [⟨ua, uc, sl, sn, sd⟩]) ∧ DeepQ w3 w.heap.size (ts ++ [⟨ua, uc, sl, sn, sd⟩]) ∧ Below w.heap.size w w3) := ⟨hov3, (hd3.below hA2).grown HO2.out hg3, appQ_below ((HBB.out.trans (HM2.out.2.mono HBB.out.size)).trans (hA2.mono (by have := HBB.out.size; have := HM2.out.2.size; omega))) (by have := HBB.out.size; have := HM2.out.2.size; simp; omega) HO2.out hg3⟩
      have hne : ¬ (Value.slice oa ts.length oc).ownBlock = some b := fun he => by have := (HO2.out.blk he).1; omega
      have e0 := (Only.ofGrownQ hg3).cell (b := b) (o := off + k * 3) (by simp; omega) hne (keepA _ hbl2 k0)
      have e1 := (Only.ofGrownQ hg3).cell (b := b) (o := off + k * 3 + 1) (by simp; omega) hne (keepA _ hbl2 k1)
      have e2 := (Only.ofGrownQ hg3).cell (b := b) (o := off + k * 3 + 2) (by simp; omega) hne (keepA _ hbl2 k2)
      clear hov3 hg3 hd3 hA2
      refine hK.out _ _ (by exact ⟨e0, e1, e2⟩) (fun hHeld => ?_)
      clear hK K
      try simp only [tkS]
      refine wpAnyH_done (by kernel_rfl) ?_ _
      simp only [cutQ, List.drop_succ_cons, List.drop_zero]
      have HCT2 : Hid ((ts ++ [(⟨ua, uc, sl, sn, sd⟩ : Sq)]).map Sq.ct = (ss.take (k + 1)).map Sq.ct ∧ True) := ⟨by rw [List.map_append, HST.out.1, HCS.out.1]; rfl, trivial⟩
      have HL9 : Hid ((ts ++ [(⟨ua, uc, sl, sn, sd⟩ : Sq)]).length = ts.length + 1 ∧ True) := ⟨by simp, trivial⟩
      clear HM2 d0 d1 d2 HO HCS HST k0 k1 k2 e0 e1 e2 HE1 HO2
      go_wp2
      go_roundw
      case rel => exact ⟨k + 1, _, sa3, sc3, by omega, by go_num, by rw [HL9.out.1], HCT2.out.1, by rw [HL9.out.1]; exact HM.out.1, HM.out.2.1, HM.out.2.2⟩
      case measure => simp [intOf]; omega
    · have hkn : k = n := by omega
      subst hkn
      have HF : Hid (ts.map Sq.ct = ss.map Sq.ct ∧ True) := ⟨by rw [HST.out.1, List.take_of_length_le (by rw [HLN.out.1]; exact Nat.le_refl _)], trivial⟩
      clear hes
      go_wp2
      go_ret
      exact ⟨⟨_, ts, rfl, HF.out.1, HO.out.1, HO.out.2⟩, HBB.out⟩
/-- Sequences whose numbers and letters are few. -/
def Few4 (ss : List Sq) : Prop := ss.length ≤ 65 ∧ ∀ s ∈ ss, s.ls.length ≤ 64 ∧ (0 ≤ s.n ∧ s.n ≤ 64) ∧ (0 ≤ s.d ∧ s.d ≤ 64)
/-- What is handed back: a row of the call's own that has the sequences cs. -/
def FnA (w : World) (B : Nat) (v : Value) (cs : List (List Int × Int × Int)) : Prop := ∃ ss : List Sq, ss.map Sq.ct = cs ∧ OVq w B v ss ∧ DeepQ w B ss ∧ Few4 ss
theorem St.few {ys : List Int} {f q : Nat} {ss : List Sq} (h : St ys f q (ss.map Sq.ct)) (hn : ys.length ≤ 64) : Few4 ss := by
  have h1 := h.cl
  have h2 := h.ql
  rw [List.length_map] at h1
  refine ⟨by omega, fun s hs => ?_⟩
  obtain ⟨p1, n, d, p2, p3, p4⟩ := h.parts s.ct (List.mem_map_of_mem hs)
  have e1 : s.ls.length ≤ ys.length := p1
  have e2 : s.n = n := congrArg Prod.fst p2
  have e3 : s.d = d := congrArg Prod.snd p2
  omega
theorem Few4.snoc {ys : List Int} {f q : Nat} {ss : List Sq} (h : St ys f q (ss.map Sq.ct)) (hn : ys.length ≤ 64) {s : Sq} (h1 : s.ls.length ≤ 64) (h2 : 0 ≤ s.n ∧ s.n ≤ 64) (h3 : 0 ≤ s.d ∧ s.d ≤ 64) : Few4 (ss ++ [s]) := by
  have h4 := h.few hn
  have h5 := h.cl
  have h6 := h.ql
  rw [List.length_map] at h5
  refine ⟨by rw [List.length_append]; simp; omega, fun x hx => ?_⟩
  rcases List.mem_append.1 hx with hx | hx
  · exact h4.2 x hx
  · obtain rfl : x = s := by simpa using hx
    exact ⟨h1, h2, h3⟩
theorem Few4.rng {ss : List Sq} (h : Few4 ss) : ∀ s ∈ ss, rI s.n ∧ rI s.d ∧ s.ls.length ≤ maxLen := fun s hs => by
  obtain ⟨h1, h2, h3⟩ := h.2 s hs
  exact ⟨⟨by omega, by omega⟩, ⟨by omega, by omega⟩, by unfold maxLen; omega⟩
theorem Few4.ct {ss ts : List Sq} (h : Few4 ss) (e : ts.map Sq.ct = ss.map Sq.ct) : Few4 ts := by
  have hl := congrArg List.length e
  simp only [List.length_map] at hl
  refine ⟨by rw [hl]; exact h.1, fun t ht => ?_⟩
  have h1 : t.ct ∈ ss.map Sq.ct := by rw [← e]; exact List.mem_map_of_mem ht
  obtain ⟨s, hs, h2⟩ := List.mem_map.1 h1
  have h3 := h.2 s hs
  have e1 : s.ls = t.ls := congrArg Prod.fst h2
  have e2 : s.n = t.n := congrArg (fun c => c.2.1) h2
  have e3 : s.d = t.d := congrArg (fun c => c.2.2) h2
  rw [e1, e2, e3] at h3
  exact h3

set_option maxRecDepth 20000 in
set_option maxHeartbeats 6400000 in
theorem l4find_any (a : Option Addr) (c : Nat) (ys : List Int) (w : World) (hb : Byt w a ys) (hn : ys.length ≤ 64) :
    Calls Tryz.prog 38 #[.slice a ys.length c] w fun e w' => (∃ v, e = .returned v ∧ FnA w' w.heap.size v (found ys)) ∧ Below w.heap.size w w' := by
  have HBY : Hid (Byt w a ys ∧ True) := ⟨hb, trivial⟩
  have HLO : Hid (∀ (W : World) (p : Nat), Below w.heap.size w W → p < ys.length → Calls Tryz.prog 45 #[.slice a ys.length c, .int .i64 p] W fun e w' => e = .returned (.tuple #[.int .i64 (lz ys p).1, .int .i64 (lz ys p).2]) ∧ Below W.heap.size W w') := fun W p hW hp => by
    rw [lz_at hp]
    exact l4longest_any a c ys p W (hb.below hW (Nat.le_refl _)) hn hp
  have HLE : Hid (∀ q, q + (lz ys q).1 ≤ max q ys.length ∧ (lz ys q).2 ≤ q) := lz_le ys
  have HEN : Hid (∀ q, ¬ q < ys.length → (lz ys q).1 = 0) := fun q h => by rw [lz_end h]
  have HRG : Hid (∀ q, q < ys.length → 0 ≤ ys.getD q 0 ∧ ys.getD q 0 ≤ 255) := fun q h => by
    rw [List.getD_eq_getElem?_getD, List.getElem?_eq_getElem h]
    exact hb.1 _ (List.getElem_mem h)
  have HCN : Hid (∀ f q, f ≤ q → q < ys.length → cutL ys f q ++ [ys.getD q 0] = cutL ys f (q + 1)) := cutL_snoc ys
  have HCL : Hid (∀ f q, f ≤ q → q ≤ ys.length → (cutL ys f q).length = q - f) := cutL_len ys
  have HTW : Hid (∀ f q cs, St ys f q cs → q < ys.length → ¬ takes ys q → St ys f (q + 1) cs) := fun f q cs h1 h2 h3 => h1.wait h2 h3
  have HTT : Hid (∀ f q cs, St ys f q cs → q < ys.length → takes ys q → St ys (q + (lz ys q).1) (q + (lz ys q).1) (cs ++ [(cutL ys f q, ((lz ys q).1 : Int), ((lz ys q).2 : Int))])) := fun f q cs h1 h2 h3 => h1.take h2 h3
  have HDN : Hid (∀ f q cs, St ys f q cs → ¬ q < ys.length → found ys = fin ys f cs) := fun f q cs h1 h2 => h1.done h2
  have HSR : Hid (∀ f q cs, St ys f q cs → f ≤ q ∧ q ≤ ys.length ∧ cs.length ≤ q) := fun f q cs h => ⟨h.fq, h.ql, h.cl⟩
  have HFW : Hid (∀ f q ss, St ys f q (ss.map Sq.ct) → Few4 ss ∧ ∀ s : Sq, s.ls.length ≤ 64 → (0 ≤ s.n ∧ s.n ≤ 64) → (0 ≤ s.d ∧ s.d ≤ 64) → Few4 (ss ++ [s])) := fun f q ss h => ⟨h.few hn, fun s h1 h2 h3 => Few4.snoc h hn h1 h2 h3⟩
  have HST : Hid (St ys 0 0 []) := St.start ys
  clear hb
  generalize hL : ys.length = n at *
  have HL : Hid (ys.length = n ∧ True) := ⟨hL, trivial⟩
  clear hL
  go_enter Tryz.func38, Tryz.ntmps38
  go_wp2
  go_loopw [3, 4, 5] (fun ov lv iv wr => ∃ (f q : Nat) (ss : List Sq) (ls : List Int), iv = .int .i64 q ∧ St ys f q (ss.map Sq.ct) ∧ ls = cutL ys f q ∧ OVB wr w.heap.size lv ls ∧ OVq wr w.heap.size ov ss ∧ DeepQ wr w.heap.size ss ∧ Aprt ss lv ∧ Below w.heap.size w wr) (fun _ _ iv _ => n - (intOf iv).toNat)
  case atStart => exact ⟨0, 0, [], [], rfl, HST.out, (cutL_nil ys 0).symm, OVB.nil _ _, OVq.nil _ _, DeepQ.nil _ _, Aprt.none _, Below.refl _ _⟩
  case round =>
    obtain ⟨f, q, ss, ls, rfl, hst, hls, hob, hoq, hdq, hap, hbel⟩ := hrel
    obtain ⟨la, lc, rfl⟩ := hob.form
    obtain ⟨oa, oc, rfl⟩ := hoq.form
    obtain ⟨hfq, hqn, hcl⟩ := HSR.out _ _ _ hst
    have hll : ls.length = q - f := by rw [hls]; exact HCL.out f q hfq hqn
    rw [List.length_map] at hcl
    have HS : Hid (St ys f q (ss.map Sq.ct) ∧ ls = cutL ys f q ∧ ls.length = q - f) := ⟨hst, hls, hll⟩
    have HO : Hid (OVB wr w.heap.size (.slice la ls.length lc) ls ∧ OVq wr w.heap.size (.slice oa ss.length oc) ss ∧ DeepQ wr w.heap.size ss ∧ Aprt ss (.slice la ls.length lc)) := ⟨hob, hoq, hdq, hap⟩
    have HB : Hid (Below w.heap.size w wr) := hbel
    have hsz := hbel.size
    have hlq : ls.length ≤ q := by omega
    have hsq : ss.length ≤ q := hcl
    clear hst hls hob hoq hdq hap hbel hll hcl
    by_cases hlt : q < n
    · have h1 := HLO.out wr q HB.out hlt
      have hle := (HLE.out q).1
      have hld := (HLE.out q).2
      obtain ⟨b1, o1, rfl, hbl, hbc⟩ := HBY.out.1.2 (by rw [HL.out.1]; omega)
      have hz := HRG.out q hlt
      have HCZ : Hid (∀ W, Below w.heap.size w W → W.cell? ⟨b1, o1 + q, none⟩ = some (.int .u8 (ys.getD q 0))) := fun W hW => keep hW hbl (hbc q (by rw [HL.out.1]; exact hlt))
      have HTQ : Hid (takes ys q ↔ 0 < (lz ys q).1 ∧ (lz ys (q + 1)).1 ≤ (lz ys q).1) := Iff.rfl
      have HCQ : Hid (cutL ys f q ++ [ys.getD q 0] = cutL ys f (q + 1) ∧ True) := ⟨HCN.out f q hfq hlt, trivial⟩
      have HT2 : Hid (takes ys q → St ys (q + (lz ys q).1) (q + (lz ys q).1) (ss.map Sq.ct ++ [(cutL ys f q, ((lz ys q).1 : Int), ((lz ys q).2 : Int))])) := fun h => HTT.out f q _ HS.out.1 hlt h
      clear hbl hbc
      generalize ys.getD q 0 = z at *
      generalize (lz ys q).1 = x at *
      generalize (lz ys q).2 = y at *
      have hxn : q + x ≤ n := by omega
      go_wp2_with fail
      refine h1.mono ?_
      clear h1
      rintro e w1 ⟨rfl, hb1⟩
      have HB1 : Hid (Below w.heap.size w w1) := HB.out.trans (hb1.mono hsz)
      have HO1 : Hid (OVB w1 w.heap.size (.slice la ls.length lc) ls ∧ OVq w1 w.heap.size (.slice oa ss.length oc) ss ∧ DeepQ w1 w.heap.size ss ∧ Aprt ss (.slice la ls.length lc)) := ⟨HO.out.1.below hb1, HO.out.2.1.below hb1, HO.out.2.2.1.below hb1, HO.out.2.2.2⟩
      have hsz1 := HB1.out.size
      clear hb1 HO HB hsz hle
      by_cases hx0 : x = 0
      · subst hx0
        have hcz := HCZ.out w1 HB1.out
        have HWT : Hid (St ys f (q + 1) (ss.map Sq.ct) ∧ ls ++ [z] = cutL ys f (q + 1)) := ⟨HTW.out f q _ HS.out.1 hlt (fun h => by have := (HTQ.out.1 h).1; omega), by rw [HS.out.2.1]; exact HCQ.out.1⟩
        go_wp2_with (at_builtin; (refine wpList_append_b1 rfl (.tmp 41) (.tmp 46) rfl w.heap.size (.slice la ls.length lc) ls rfl (HO1.out.1.alloc _) w1.heap.size 1 z rfl (by simp) hz (by omega) (by simp; omega) ?_); intro v4 w4 hown hgrow hat)
        have HO4 : Hid (OVB w4 w.heap.size v4 (ls ++ [z]) ∧ OVq w4 w.heap.size (.slice oa ss.length oc) ss ∧ DeepQ w4 w.heap.size ss ∧ Aprt ss v4) := by
          have hbA : Below w1.heap.size w1 (w1.alloc (Obj.cells #[.int .u8 z] 5)) := (Below.refl _ _).alloc (Nat.le_refl _) _
          exact ⟨hown, (HO1.out.2.1.below hbA).grownB (HO1.out.1.alloc _) hgrow, (HO1.out.2.2.1.below hbA).grownB HO1.out.2.2.2 hgrow, HO1.out.2.2.2.app HO1.out.2.2.1 hat (by simp)⟩
        have HB4 : Hid (Below w.heap.size w w4) := (HB1.out.alloc HB1.out.size _).grown hgrow (by have := HB1.out.size; simp; omega) (fun k hk => (HO1.out.1.blk hk))
        clear hown hgrow hat hcz
        go_roundw
        case rel => exact ⟨f, q + 1, ss, ls ++ [z], by go_num, HWT.out.1, HWT.out.2, HO4.out.1, HO4.out.2.1, HO4.out.2.2.1, HO4.out.2.2.2, HB4.out⟩
        case measure => simp [intOf]; omega
      · have hx1 : (0 : Int) < (x : Int) := by omega
        have hx2 : 0 < x := by omega
        by_cases hq1 : q + 1 < n
        · have hq1I : (q : Int) + 1 < (n : Int) := by omega
          have h2 := HLO.out w1 (q + 1) HB1.out hq1
          have e1 : ((q + 1 : Nat) : Int) = (q : Int) + 1 := by omega
          rw [e1] at h2
          obtain ⟨m, hm⟩ : ∃ m, m = (lz ys (q + 1)).1 := ⟨_, rfl⟩
          rw [← hm] at h2
          have HM : Hid (m = (lz ys (q + 1)).1 ∧ True) := ⟨hm, trivial⟩
          have hmb : m ≤ 64 := by have := (HLE.out (q + 1)).1; omega
          generalize (lz ys (q + 1)).2 = md at *
          clear hm e1
          go_wp2_with fail
          refine h2.mono ?_
          clear h2
          rintro e w2 ⟨rfl, hb2⟩
          have HB2 : Hid (Below w.heap.size w w2) := HB1.out.trans (hb2.mono hsz1)
          have HO2 : Hid (OVB w2 w.heap.size (.slice la ls.length lc) ls ∧ OVq w2 w.heap.size (.slice oa ss.length oc) ss ∧ DeepQ w2 w.heap.size ss ∧ Aprt ss (.slice la ls.length lc)) := ⟨HO1.out.1.below hb2, HO1.out.2.1.below hb2, HO1.out.2.2.1.below hb2, HO1.out.2.2.2⟩
          have hsz2 := HB2.out.size
          clear hb2 HO1 HB1 hsz1
          by_cases hmx : x < m
          · have hmxI : (x : Int) < (m : Int) := by omega
            have hcz := HCZ.out w2 HB2.out
            have HWT : Hid (St ys f (q + 1) (ss.map Sq.ct) ∧ ls ++ [z] = cutL ys f (q + 1)) := ⟨HTW.out f q _ HS.out.1 hlt (fun h => by have h3 := (HTQ.out.1 h).2; rw [← HM.out.1] at h3; omega), by rw [HS.out.2.1]; exact HCQ.out.1⟩
            go_wp2_with (at_builtin; (refine wpList_append_b1 rfl (.tmp 41) (.tmp 46) rfl w.heap.size (.slice la ls.length lc) ls rfl (HO2.out.1.alloc _) w2.heap.size 1 z rfl (by simp) hz (by omega) (by simp; omega) ?_); intro v4 w4 hown hgrow hat)
            have HO4 : Hid (OVB w4 w.heap.size v4 (ls ++ [z]) ∧ OVq w4 w.heap.size (.slice oa ss.length oc) ss ∧ DeepQ w4 w.heap.size ss ∧ Aprt ss v4) := by
              have hbA : Below w2.heap.size w2 (w2.alloc (Obj.cells #[.int .u8 z] 5)) := (Below.refl _ _).alloc (Nat.le_refl _) _
              exact ⟨hown, (HO2.out.2.1.below hbA).grownB (HO2.out.1.alloc _) hgrow, (HO2.out.2.2.1.below hbA).grownB HO2.out.2.2.2 hgrow, HO2.out.2.2.2.app HO2.out.2.2.1 hat (by simp)⟩
            have HB4 : Hid (Below w.heap.size w w4) := (HB2.out.alloc HB2.out.size _).grown hgrow (by have := HB2.out.size; simp; omega) (fun k hk => (HO2.out.1.blk hk))
            clear hown hgrow hat hcz
            go_roundw
            case rel => exact ⟨f, q + 1, ss, ls ++ [z], by go_num, HWT.out.1, HWT.out.2, HO4.out.1, HO4.out.2.1, HO4.out.2.2.1, HO4.out.2.2.2, HB4.out⟩
            case measure => simp [intOf]; omega
          · have hmxI : ¬ (x : Int) < (m : Int) := by omega
            have hx3 : ¬ (x : Int) = 0 := by omega
            have HTK : Hid (St ys (q + x) (q + x) (ss.map Sq.ct ++ [(ls, (x : Int), (y : Int))])) := by rw [HS.out.2.1]; exact HT2.out (HTQ.out.2 ⟨hx2, by rw [← HM.out.1]; omega⟩)
            go_wp2_with (at_builtin; (refine wpList_append_sq rfl (.tmp 50) (.tmp 55) rfl w.heap.size (.slice oa ss.length oc) ss rfl (HO2.out.2.1.below ((Below.refl _ _).alloc (Nat.le_refl _) _)) w2.heap.size 1 ⟨la, lc, ls, (x : Int), (y : Int)⟩ rfl (newsQ w2 la ls.length lc _ _ _ _ rfl rfl rfl rfl rfl) (by omega) (by simp; omega) ?_); intro v4 w4 hown hgrow)
            have HO4 : Hid (OVq w4 w.heap.size v4 (ss ++ [⟨la, lc, ls, (x : Int), (y : Int)⟩]) ∧ DeepQ w4 w.heap.size (ss ++ [⟨la, lc, ls, (x : Int), (y : Int)⟩])) := by
              obtain ⟨a5, c5, e5, hm5, hr5⟩ := HO2.out.1.mineAt
              obtain ⟨rfl, rfl⟩ : la = a5 ∧ lc = c5 := by simpa using e5
              have hd5 : DeepQ w2 w.heap.size (ss ++ [⟨la, lc, ls, (x : Int), (y : Int)⟩]) := HO2.out.2.2.1.snoc hm5 (fun z hz k hk hk2 => HO2.out.2.2.2 z hz k hk (hr5 k hk2))
              exact ⟨hown, (hd5.below ((Below.refl _ _).alloc (Nat.le_refl _) _)).grown (HO2.out.2.1.below ((Below.refl _ _).alloc (Nat.le_refl _) _)) hgrow⟩
            have HB4 : Hid (Below w.heap.size w w4) := (HB2.out.alloc HB2.out.size _).grown hgrow (by have := HB2.out.size; simp; omega) (fun k hk => (HO2.out.2.1.blk hk).1)
            have HMP : Hid ((ss ++ [(⟨la, lc, ls, (x : Int), (y : Int)⟩ : Sq)]).map Sq.ct = ss.map Sq.ct ++ [(ls, (x : Int), (y : Int))] ∧ True) := ⟨by rw [List.map_append]; rfl, trivial⟩
            clear hown hgrow
            go_roundw
            case rel => exact ⟨q + x, q + x, ss ++ [⟨la, lc, ls, (x : Int), (y : Int)⟩], [], by congr 1, by rw [HMP.out.1]; exact HTK.out, (cutL_nil ys (q + x)).symm, OVB.nil _ _, HO4.out.1, HO4.out.2, Aprt.none _, HB4.out⟩
            case measure => simp [intOf]; omega
        · have hq1I : ¬ (q : Int) + 1 < (n : Int) := by omega
          have hx3 : ¬ (x : Int) = 0 := by omega
          have HTK : Hid (St ys (q + x) (q + x) (ss.map Sq.ct ++ [(ls, (x : Int), (y : Int))])) := by rw [HS.out.2.1]; exact HT2.out (HTQ.out.2 ⟨hx2, by rw [HEN.out (q + 1) hq1]; omega⟩)
          go_wp2_with (at_builtin; (refine wpList_append_sq rfl (.tmp 50) (.tmp 55) rfl w.heap.size (.slice oa ss.length oc) ss rfl (HO1.out.2.1.below ((Below.refl _ _).alloc (Nat.le_refl _) _)) w1.heap.size 1 ⟨la, lc, ls, (x : Int), (y : Int)⟩ rfl (newsQ w1 la ls.length lc _ _ _ _ rfl rfl rfl rfl rfl) (by omega) (by simp; omega) ?_); intro v4 w4 hown hgrow)
          have HO4 : Hid (OVq w4 w.heap.size v4 (ss ++ [⟨la, lc, ls, (x : Int), (y : Int)⟩]) ∧ DeepQ w4 w.heap.size (ss ++ [⟨la, lc, ls, (x : Int), (y : Int)⟩])) := by
            obtain ⟨a5, c5, e5, hm5, hr5⟩ := HO1.out.1.mineAt
            obtain ⟨rfl, rfl⟩ : la = a5 ∧ lc = c5 := by simpa using e5
            have hd5 : DeepQ w1 w.heap.size (ss ++ [⟨la, lc, ls, (x : Int), (y : Int)⟩]) := HO1.out.2.2.1.snoc hm5 (fun z hz k hk hk2 => HO1.out.2.2.2 z hz k hk (hr5 k hk2))
            exact ⟨hown, (hd5.below ((Below.refl _ _).alloc (Nat.le_refl _) _)).grown (HO1.out.2.1.below ((Below.refl _ _).alloc (Nat.le_refl _) _)) hgrow⟩
          have HB4 : Hid (Below w.heap.size w w4) := (HB1.out.alloc HB1.out.size _).grown hgrow (by have := HB1.out.size; simp; omega) (fun k hk => (HO1.out.2.1.blk hk).1)
          have HMP : Hid ((ss ++ [(⟨la, lc, ls, (x : Int), (y : Int)⟩ : Sq)]).map Sq.ct = ss.map Sq.ct ++ [(ls, (x : Int), (y : Int))] ∧ True) := ⟨by rw [List.map_append]; rfl, trivial⟩
          clear hown hgrow
          go_roundw
          case rel => exact ⟨q + x, q + x, ss ++ [⟨la, lc, ls, (x : Int), (y : Int)⟩], [], by congr 1, by rw [HMP.out.1]; exact HTK.out, (cutL_nil ys (q + x)).symm, OVB.nil _ _, HO4.out.1, HO4.out.2, Aprt.none _, HB4.out⟩
          case measure => simp [intOf]; omega
    · have HF : Hid (found ys = fin ys f (ss.map Sq.ct) ∧ q = n) := ⟨HDN.out f q _ HS.out.1 hlt, by omega⟩
      have HFQ := HFW.out f q ss HS.out.1
      by_cases hl0 : ls.length = 0
      · have HFN : Hid (found ys = ss.map Sq.ct ∧ Few4 ss) := by
          refine ⟨?_, HFQ.1⟩
          rw [HF.out.1]
          unfold fin
          rw [if_neg (by have := HS.out.2.2; have := HF.out.2; rw [HL.out.1]; omega)]
        have hl0I : ¬ (0 : Int) < (ls.length : Int) := by omega
        clear HFQ
        go_wp2
        go_ret
        exact ⟨⟨_, rfl, ss, HFN.out.1.symm, HO.out.2.1, HO.out.2.2.1, HFN.out.2⟩, HB.out⟩
      · have hl0I : (0 : Int) < (ls.length : Int) := by omega
        have HFN : Hid (found ys = ss.map Sq.ct ++ [(ls, 0, 0)] ∧ Few4 (ss ++ [⟨la, lc, ls, 0, 0⟩])) := by
          refine ⟨?_, HFQ.2 _ (by show ls.length ≤ 64; omega) ⟨by simp, by simp⟩ ⟨by simp, by simp⟩⟩
          rw [HF.out.1]
          unfold fin
          rw [if_pos (by have := HS.out.2.2; have := HF.out.2; rw [HL.out.1]; omega), HL.out.1, HS.out.2.1, HF.out.2]
        have hl0n : 0 < ls.length := by omega
        clear hl0 HFQ
        go_wp2_with (at_builtin; (refine wpList_append_sq rfl (.tmp 63) (.tmp 66) rfl w.heap.size (.slice oa ss.length oc) ss rfl (HO.out.2.1.below ((Below.refl _ _).alloc (Nat.le_refl _) _)) wr.heap.size 1 ⟨la, lc, ls, 0, 0⟩ rfl (newsQ wr la ls.length lc _ _ _ _ rfl rfl rfl rfl rfl) (by omega) (by simp; omega) ?_); intro v4 w4 hown hgrow)
        go_ret
        obtain ⟨a5, c5, e5, hm5, hr5⟩ := HO.out.1.mineAt
        obtain ⟨rfl, rfl⟩ : la = a5 ∧ lc = c5 := by simpa using e5
        have hd5 : DeepQ wr w.heap.size (ss ++ [⟨la, lc, ls, 0, 0⟩]) := HO.out.2.2.1.snoc hm5 (fun z hz k hk hk2 => HO.out.2.2.2 z hz k hk (hr5 k hk2))
        exact ⟨⟨v4, rfl, ss ++ [⟨la, lc, ls, 0, 0⟩], by rw [HFN.out.1, List.map_append]; rfl, hown, (hd5.below ((Below.refl _ _).alloc (Nat.le_refl _) _)).grown (HO.out.2.1.below ((Below.refl _ _).alloc (Nat.le_refl _) _)) hgrow, HFN.out.2⟩, (HB.out.alloc hsz _).grown hgrow (by simp; omega) (fun k hk => (HO.out.2.1.blk hk).1)⟩

end Go.Proofs.YtojnomdlkihgmaaGreatDoor
