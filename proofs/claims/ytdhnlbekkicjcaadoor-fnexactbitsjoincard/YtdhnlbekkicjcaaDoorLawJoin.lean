/-
  The law on BitsJoin returns true, whatever is handed in, where the two sentinels are not the same, and writes nothing that was there.
-/
import Derived.Test.YtdhnlbekkicjcaaDoorJoin3
import Derived.Test.YtdhnlbekkicjcaaDoorSnapJ
import Derived.Test.YtdhnlbekkicjcaaDoorSz
import Derived.Test.YtdhnlbekkicjcaaDoorToB
import Derived.Test.YtdhnlbekkicjcaaDoorEqB
import Derived.Test.YtdhnlbekkicjcaaDoorMarksB
import Derived.Deep.RegionWith
namespace Go.Proofs.YtdhnlbekkicjcaaDoor
open Go.RowKit
set_option linter.unusedVariables false

/-- The model and the program join alike. -/
theorem join_both (N L : Int) (zs us : List Int) (hl : zs.length ≤ 1048576) (hl2 : us.length ≤ 1048576) : ∃ (ys : List Int) (M : Int) (ok : Bool), ys.length ≤ 1048576 ∧
    (∀ (a : Option Addr) (cap : Nat) (b : Option Addr) (cb : Nat) (w : World), Byt w a zs → Byt w b us → Calls Tryd.prog 33 #[.agg #[.slice a zs.length cap, .int .i64 N], .agg #[.slice b us.length cb, .int .i64 L]] w fun e w' =>
      ∃ a' cp, e = .returned (.tuple #[.agg #[.slice a' ys.length cp, .int .i64 M], .bool ok]) ∧ Mine w' w.heap.size w'.heap.size a' cp ys ∧ Below w.heap.size w w') ∧
    (∀ (a : Option Addr) (cap : Nat) (b : Option Addr) (cb : Nat) (p q : Addr) (w : World), Byt w a zs → Byt w b us → Two w p q → Calls Tryd.prog 24 #[.agg #[.slice a zs.length cap, .int .i64 N], .agg #[.slice b us.length cb, .int .i64 L]] w fun e w' =>
      ∃ a' cp, e = .returned (.tuple #[.agg #[.slice a' ys.length cp, .int .i64 M], .bool ok]) ∧ Mine w' w.heap.size w'.heap.size a' cp ys ∧ Below w.heap.size w w') := by
  by_cases hk : okB N zs = true ∧ okB L us = true
  · have hN : 0 ≤ N ∧ N ≤ 4096 := by
      refine ⟨?_, ?_⟩
      · rcases Int.lt_or_le N 0 with hN | hN
        · rw [okB_neg hN] at hk; cases hk.1
        · exact hN
      · rcases Int.lt_or_le 4096 N with hN | hN
        · rw [okB_big hN] at hk; cases hk.1
        · exact hN
    have hL : 0 ≤ L ∧ L ≤ 4096 := by
      refine ⟨?_, ?_⟩
      · rcases Int.lt_or_le L 0 with hN | hN
        · rw [okB_neg hN] at hk; cases hk.2
        · exact hN
      · rcases Int.lt_or_le 4096 L with hN | hN
        · rw [okB_big hN] at hk; cases hk.2
        · exact hN
    obtain ⟨k, rfl⟩ : ∃ k : Nat, N = k := ⟨N.toNat, by omega⟩
    obtain ⟨j, rfl⟩ : ∃ j : Nat, L = j := ⟨L.toNat, by omega⟩
    by_cases hfit : k + j ≤ 4096
    · refine ⟨enc (k + j) (val zs + val us * 2 ^ k), ((k + j : Nat) : Int), true, by rw [enc_len]; omega, ?_, ?_⟩
      · intro a cap b cb w ha hb
        refine (specJoin_yes a cap zs _ b cb us _ w ha hb ⟨hk.1, hk.2, by omega⟩).mono ?_
        rintro e w' ⟨a', cp, rfl, hm, hbb⟩
        exact ⟨a', cp, rfl, hm, hbb⟩
      · intro a cap b cb p q w ha hb hT
        refine (implJoin_ok a cap zs b cb us k j p q w ha hb hT hk.1 hk.2).mono ?_
        rintro e w' ⟨hbb, -, hy⟩
        obtain ⟨a', cp, rfl, hm⟩ := hy hfit
        exact ⟨a', cp, rfl, hm, hbb⟩
    · refine ⟨[], 0, false, by simp, ?_, ?_⟩
      · intro a cap b cb w ha hb
        refine (specJoin_no a cap zs _ b cb us _ w ha hb (by omega) (by omega) (fun h => hfit (by have := h.2.2; omega))).mono ?_
        rintro e w' ⟨rfl, hbb⟩
        exact ⟨none, 0, rfl, .inl ⟨rfl, rfl, rfl⟩, hbb⟩
      · intro a cap b cb p q w ha hb hT
        refine (implJoin_ok a cap zs b cb us k j p q w ha hb hT hk.1 hk.2).mono ?_
        rintro e w' ⟨hbb, hn, -⟩
        obtain rfl := hn (by omega)
        exact ⟨none, 0, rfl, .inl ⟨rfl, rfl, rfl⟩, hbb⟩
  · refine ⟨[], 0, false, by simp, ?_, ?_⟩
    · intro a cap b cb w ha hb
      refine (specJoin_no a cap zs _ b cb us _ w ha hb (by omega) (by omega) (fun h => hk ⟨h.1, h.2.1⟩)).mono ?_
      rintro e w' ⟨rfl, hbb⟩
      exact ⟨none, 0, rfl, .inl ⟨rfl, rfl, rfl⟩, hbb⟩
    · intro a cap b cb p q w ha hb hT
      refine (implJoin_bad a cap zs _ b cb us _ w ha hb (by omega) (by omega) hk).mono ?_
      rintro e w' ⟨rfl, hbb⟩
      exact ⟨none, 0, rfl, .inl ⟨rfl, rfl, rfl⟩, hbb⟩

set_option maxRecDepth 100000 in
set_option maxHeartbeats 4000000 in
theorem lawJoin_any (a : Option Addr) (cap : Nat) (zs : List Int) (N : Int) (b : Option Addr) (cb : Nat) (us : List Int) (L : Int) (p q : Addr) (w : World) (hba : Byt w a zs) (hbb : Byt w b us) (hm : zs.length ≤ maxLen) (hm2 : us.length ≤ maxLen) (hT : Two w p q) :
    Calls Tryd.prog 8 #[.agg #[.slice a zs.length cap, .int .i64 N], .agg #[.slice b us.length cb, .int .i64 L]] w fun e w' => e = .returned (.bool true) ∧ Below w.heap.size w w' := by
  have hw : Below w.heap.size w ((w.alloc (Obj.cells #[Value.slice a zs.length cap, Value.int IntKind.i64 N] 44)).alloc (Obj.cells #[Value.slice b us.length cb, Value.int IntKind.i64 L] 44)) := ((Below.refl _ _).alloc (Nat.le_refl _) _).alloc (by simp) _
  by_cases hn : zs.length ≤ 1048576
  · have hsz : (zs.length : Int) ≤ 1048576 := by omega
    go_enter Tryd.func8, Tryd.ntmps8
    go_wp2_with fail
    refine (szBits_any a zs.length cap N 1048576 _ hm (by omega) (by omega)).mono ?_
    rintro e w1 ⟨rfl, hb1⟩
    rw [if_pos hsz]
    have hbb1 := hw.trans (hb1.mono (by simp; omega))
    have p0 : w1.cell? ⟨w.heap.size, 0, none⟩ = some (.slice a zs.length cap) := keep hb1 (by simp; omega) (keepA _ (by simp) (by simp))
    have p1 : w1.cell? ⟨w.heap.size, 1, none⟩ = some (.int .i64 N) := keep hb1 (by simp; omega) (keepA _ (by simp) (by simp))
    have q0 : w1.cell? ⟨w.heap.size + 1, 0, none⟩ = some (.slice b us.length cb) := keep hb1 (by simp) (by simp)
    have q1 : w1.cell? ⟨w.heap.size + 1, 1, none⟩ = some (.int .i64 L) := keep hb1 (by simp) (by simp)
    have z1 : w.heap.size + 1 < w1.heap.size := by have := hb1.size; simp at this; omega
    clear hb1
    by_cases hn2 : zs.length + us.length ≤ 1048576
    · obtain ⟨ys, M, ok, hyl, hspec, himpl⟩ := join_both N L zs us hn (by omega)
      have HS0 : Hid _ := hspec
      have HI0 : Hid _ := himpl
      clear hspec himpl
      go_wp2_with fail
      refine (szBits_any b us.length cb L (1048576 - zs.length) _ hm2 (by omega) (by omega)).mono ?_
      rintro e w1' ⟨rfl, hb1⟩
      rw [if_pos (by omega)]
      have hbb1' := hbb1.trans (hb1.mono (by omega))
      have p0' := keep hb1 (by omega) p0
      have p1' := keep hb1 (by omega) p1
      have q0' := keep hb1 z1 q0
      have q1' := keep hb1 z1 q1
      have z1' : w.heap.size + 1 < w1'.heap.size := by have := hb1.size; omega
      clear hb1 p0 p1 q0 q1 hbb1 z1
      have HBX : Hid (Below w.heap.size w w1'.drew) := hbb1'.drew
      have BX : Hid (Box4 w (.slice a zs.length cap) (.int .i64 N) (.slice b us.length cb) (.int .i64 L) w1'.drew) := ⟨p0', p1', q0', q1', z1'⟩
      clear hbb1' p0' p1' q0' q1' hw
      go_upto_region 8 with fail
      go_cut [6, 7] (fun s6 s7 wx => ∃ A aw cw, s6 = .pointer (some ⟨A, 0, none⟩) ∧ s7 = .bool ok ∧ SpecJ w wx (.slice a zs.length cap) (.int .i64 N) (.slice b us.length cb) (.int .i64 L) A aw cw ys M)
      case first =>
        go_region_held3 (fun W => W.cell? ⟨w.heap.size, 0, none⟩ = some (.slice a zs.length cap) ∧ W.cell? ⟨w.heap.size, 1, none⟩ = some (.int .i64 N) ∧ W.cell? ⟨w.heap.size + 1, 0, none⟩ = some (.slice b us.length cb) ∧ W.cell? ⟨w.heap.size + 1, 1, none⟩ = some (.int .i64 L) ∧ w.heap.size + 1 < W.heap.size)
          (first | exact BX.out | exact box4_alloc BX.out _ | exact box4_below BX.out hbb2.out | exact box4_alloc (box4_below BX.out hbb2.out) _ | exact box4_below BX.out hbb3.out | exact box4_alloc (box4_below BX.out hbb3.out) _ | exact box4_below BX.out hbb4.out | exact box4_alloc (box4_below BX.out hbb4.out) _ | exact box4_set (box4_set (box4_below BX.out hbb4.out) (by (try simp); omega) _) (by (try simp); omega) _)
          (first
            | (go_at_call_of 27 (Value.agg #[.slice a zs.length cap, .int .i64 N]); refine (toBits_any a cap zs N _ (hba.below (by first | exact HBX.out | exact HBX.out.alloc (by simp; omega) _) (Nat.le_refl _)) hn).mono ?_; rintro e w2 ⟨g2, rfl, ho2', hb2'⟩; have ho2 : Hid (Own w2 w1'.heap.size g2 zs.length zs) := ho2'.mono (by simp); have hbb2 : Hid (Below w1'.drew.heap.size w1'.drew w2) := (by first | exact hb2' | exact ((Below.refl _ _).alloc (Nat.le_refl _) _).trans (hb2'.mono (by simp))); have z2 : w1'.heap.size ≤ w2.heap.size := hbb2.out.size; (first | have hA2 : Hid (w2.heap[w1'.heap.size]? = some (Obj.cells #[Value.slice none 0 0, Value.int .i64 0] 24 (0, 0)) ∧ w1'.heap.size < w2.heap.size) := keepNew2 hb2' | have hA2 : Hid (w2.heap[w1'.heap.size]? = some (Obj.cells #[Value.slice none 0 0, Value.int .i64 0] 24 (0, 0)) ∧ w1'.heap.size < w2.heap.size) := keepNew2 (Below.drewS hb2') | skip); clear ho2' hb2')
            | (go_at_call_of 27 (Value.agg #[.slice b us.length cb, .int .i64 L]); refine (toBits_any b cb us L _ (hbb.below (by first | exact HBX.out.trans (hbb2.out.mono (by simp; omega)) | exact (HBX.out.trans (hbb2.out.mono (by simp; omega))).alloc (by omega) _) (Nat.le_refl _)) (by omega)).mono ?_; rintro e w3 ⟨g3, rfl, ho3', hb3'⟩; have ho3 : Hid (Own w3 w1'.heap.size g3 us.length us) := ho3'.mono (by (try simp); omega); have hbb3 : Hid (Below w1'.drew.heap.size w1'.drew w3) := (by first | exact hbb2.out.trans (hb3'.mono (by (try simp); omega)) | exact (hbb2.out.alloc (by (try simp); omega) _).trans (hb3'.mono (by (try simp); omega))); have z3 : w2.heap.size ≤ w3.heap.size := (by have := hb3'.size; (try simp at this); omega); have ho23 : Hid (Own w3 w1'.heap.size g2 zs.length zs) := (by first | exact ho2.out.below hb3' (Nat.le_refl _) | exact (ho2.out.alloc _).below hb3' (Nat.le_refl _)); (first | have hA3 : Hid (w3.heap[w2.heap.size]? = some (Obj.cells #[Value.slice none 0 0, Value.int .i64 0] 24 (0, 0)) ∧ w2.heap.size < w3.heap.size) := keepNew2 hb3' | have hA3 : Hid (w3.heap[w1'.heap.size]? = some (Obj.cells #[Value.slice none 0 0, Value.int .i64 0] 24 (0, 0)) ∧ w1'.heap.size < w3.heap.size) := keepOld hA2.out hb3' | skip); clear ho3' hb3')
            | (go_at_call 33; refine (HS0.out (some ⟨g2, 0, none⟩) zs.length (some ⟨g3, 0, none⟩) us.length _ (by first | exact ho23.out.byt | exact (ho23.out.alloc _).byt) (by first | exact ho3.out.byt | exact (ho3.out.alloc _).byt)).mono ?_; rintro e w4 ⟨aw, cw, rfl, hmw', hb4'⟩; have hbb4 : Hid (Below w1'.drew.heap.size w1'.drew w4) := (by first | exact hbb3.out.trans (hb4'.mono (by (try simp); omega)) | exact (hbb3.out.alloc (by (try simp); omega) _).trans (hb4'.mono (by (try simp); omega))); have z4 : w3.heap.size ≤ w4.heap.size := (by have := hb4'.size; (try simp at this); omega); have HMW : Hid (Mine w4 w1'.heap.size w4.heap.size aw cw ys) := hmw'.mono (by (try simp); omega) (Nat.le_refl _); (first | have hA4 : Hid (w4.heap[w3.heap.size]? = some (Obj.cells #[Value.slice none 0 0, Value.int .i64 0] 24 (0, 0)) ∧ w3.heap.size < w4.heap.size) := keepNew2 hb4' | have hA4 : Hid (w4.heap[w2.heap.size]? = some (Obj.cells #[Value.slice none 0 0, Value.int .i64 0] 24 (0, 0)) ∧ w2.heap.size < w4.heap.size) := keepOld hA3.out hb4' | have hA4 : Hid (w4.heap[w1'.heap.size]? = some (Obj.cells #[Value.slice none 0 0, Value.int .i64 0] 24 (0, 0)) ∧ w1'.heap.size < w4.heap.size) := keepOld hA3.out hb4' | skip); (first | (have cA0 := cellR (j := 0) hA4.out.1 rfl; have cA1 := cellR (j := 1) hA4.out.1 rfl; have fA0 := frozenR (j := 0) hA4.out.1; have fA1 := frozenR (j := 1) hA4.out.1) | skip); clear hmw' hb4'))
        all_goals
          go_wp2_with fail
          go_meet
          first
            | exact ⟨_, _, _, rfl, rfl, SpecJ.ofAlloc (HBX.out.trans (hbb4.out.mono (by simp; omega))) (box4_below BX.out hbb4.out) (HMW.out.mono (by omega) (Nat.le_refl _))⟩
            | exact ⟨_, _, _, rfl, rfl, SpecJ.ofSet (HBX.out.trans (hbb4.out.mono (by simp; omega))) (box4_below BX.out hbb4.out) (HMW.out.mono (by omega) (Nat.le_refl _)) (by omega) hA4.out.1 (by decide)⟩
      case rest =>
      obtain ⟨A, aw, cw, rfl, rfl, HJ'⟩ := hcut
      have HJ : Hid (SpecJ w wc (.slice a zs.length cap) (.int .i64 N) (.slice b us.length cb) (.int .i64 L) A aw cw ys M) := HJ'
      clear HJ' HBX BX
      have p0 := HJ.out.box.1
      have p1 := HJ.out.box.2.1
      go_wp2_with fail
      refine (toBits_any a cap zs N _ (hba.below HJ.out.bel (Nat.le_refl _)) hn).mono ?_
      rintro e w4 ⟨gx, rfl, ho4, hb4⟩
      have hbox4 := box4_below HJ.out.box hb4
      have q0 := hbox4.2.2.1
      have q1 := hbox4.2.2.2.1
      have z5' := hbox4.2.2.2.2
      have hbb4 := HJ.out.bel.trans (hb4.mono (by have := HJ.out.box.2.2.2.2; omega))
      have zA := HJ.out.hA
      have z4 := hb4.size
      have c0 := keep hb4 zA.2 HJ.out.a0
      have c1 := keep hb4 zA.2 HJ.out.a1
      have hmw4 := HJ.out.mw.below hb4
      generalize wc.heap.size = U at *
      clear hb4 p0 p1 HJ
      go_wp2_with fail
      have hbb4' := hbb4.alloc (by omega) (Obj.cells #[Value.slice (some ⟨gx, 0, none⟩) zs.length zs.length, Value.int IntKind.i64 N] 24)
      refine (toBits_any b cb us L _ (hbb.below hbb4' (Nat.le_refl _)) (by omega)).mono ?_
      rintro e w5 ⟨gy, rfl, ho5, hb5⟩
      have z5 : w4.heap.size < w5.heap.size := by have := hb5.size; simp at this; omega
      have hbb5 := hbb4'.trans (hb5.mono (by simp; omega))
      have k5 : ∀ {c o : Nat} {v : Value}, c < w4.heap.size → w4.cell? ⟨c, o, none⟩ = some v → w5.cell? ⟨c, o, none⟩ = some v :=
        fun hlt hc => keep hb5 (by simp; omega) (keepA _ hlt hc)
      have p0 := k5 (by omega) hbox4.1
      have p1 := k5 (by omega) hbox4.2.1
      have r0 := k5 (by omega) q0
      have r1 := k5 (by omega) q1
      have d0 := k5 (by omega) c0
      have d1 := k5 (by omega) c1
      have x0 : w5.cell? ⟨w4.heap.size, 0, none⟩ = some (.slice (some ⟨gx, 0, none⟩) zs.length zs.length) := keep hb5 (by simp) (by simp)
      have x1 : w5.cell? ⟨w4.heap.size, 1, none⟩ = some (.int .i64 N) := keep hb5 (by simp) (by simp)
      have hmw5 := (hmw4.below ((Below.refl w4.heap.size w4).alloc (Nat.le_refl _) _)).below hb5
      have hlt4 := ho4.lt
      have ho4' := (ho4.alloc (Obj.cells #[Value.slice (some ⟨gx, 0, none⟩) zs.length zs.length, Value.int IntKind.i64 N] 24)).below hb5 (Nat.le_refl _)
      clear k5 q0 q1 c0 c1 hb5 hbb4 hbb4' hmw4 ho4 hbox4
      go_wp2_with fail
      have hbb5' := hbb5.alloc (by omega) (Obj.cells #[Value.slice (some ⟨gy, 0, none⟩) us.length us.length, Value.int IntKind.i64 L] 24)
      refine (HI0.out _ _ _ _ p q _ (ho4'.alloc _).byt (ho5.alloc _).byt (hT.below hbb5')).mono ?_
      rintro e w6 ⟨ag, cg, rfl, hmg, hb6⟩
      have z6 : w5.heap.size < w6.heap.size := by have := hb6.size; simp at this; omega
      have hlt5 := ho5.lt
      simp at hlt5 hmg
      have hbb6 := hbb5'.trans (hb6.mono (by simp; omega))
      have sn6 : SnapJ w (w6.alloc (Obj.cells #[Value.slice ag ys.length cg, Value.int IntKind.i64 M] 24)) a cap zs N b cb us L A aw cw ys M U w4.heap.size gx zs w5.heap.size gy us w6.heap.size ag cg ys := by
        have k1 : ∀ {c o : Nat} {v : Value}, c < w5.heap.size → w5.cell? ⟨c, o, none⟩ = some v → (w6.alloc (Obj.cells #[Value.slice ag ys.length cg, Value.int IntKind.i64 M] 24)).cell? ⟨c, o, none⟩ = some v :=
          fun hlt hc => keepA _ (by omega) (keep hb6 (by simp; omega) (keepA _ hlt hc))
        have k2 : ∀ {o : Nat} {v : Value}, (w5.alloc (Obj.cells #[Value.slice (some ⟨gy, 0, none⟩) us.length us.length, Value.int IntKind.i64 L] 24)).cell? ⟨w5.heap.size, o, none⟩ = some v → (w6.alloc (Obj.cells #[Value.slice ag ys.length cg, Value.int IntKind.i64 M] 24)).cell? ⟨w5.heap.size, o, none⟩ = some v :=
          fun hc => keepA _ (by omega) (keep hb6 (by simp) hc)
        refine ⟨hbb6.alloc (by omega) _, k1 (by omega) p0, k1 (by omega) p1, k1 (by omega) r0, k1 (by omega) r1, zA, k1 (by omega) d0, k1 (by omega) d1, ⟨hlt4.1, hlt4.2⟩, k1 z5 x0, k1 z5 x1, ⟨by omega, hlt5.2⟩, k2 (by simp), k2 (by simp), ⟨z6, by simp⟩, by simp, by simp, ?_, ?_, ?_, ?_⟩
        · exact ((hmw5.below ((Below.refl w5.heap.size w5).alloc (Nat.le_refl _) _)).below hb6).below ((Below.refl w6.heap.size w6).alloc (Nat.le_refl _) _)
        · refine .inr ⟨gx, rfl, hlt4.1, hlt4.2, ?_⟩
          exact (((ho4'.alloc (Obj.cells #[Value.slice (some ⟨gy, 0, none⟩) us.length us.length, Value.int IntKind.i64 L] 24)).below hb6 (Nat.le_refl _)).alloc (Obj.cells #[Value.slice ag ys.length cg, Value.int IntKind.i64 M] 24))
        · refine .inr ⟨gy, rfl, hlt5.1, hlt5.2, ?_⟩
          have := (((ho5.alloc (Obj.cells #[Value.slice (some ⟨gy, 0, none⟩) us.length us.length, Value.int IntKind.i64 L] 24)).below hb6 (Nat.le_refl _)).alloc (Obj.cells #[Value.slice ag ys.length cg, Value.int IntKind.i64 M] 24))
          exact this.mono (by simp)
        · exact (hmg.below ((Below.refl w6.heap.size w6).alloc (Nat.le_refl _) _))
      have HS6 : Hid (SnapJ w (w6.alloc (Obj.cells #[Value.slice ag ys.length cg, Value.int IntKind.i64 M] 24)) a cap zs N b cb us L A aw cw ys M U w4.heap.size gx zs w5.heap.size gy us w6.heap.size ag cg ys) := sn6
      have hx0 : w6.cell? ⟨A, 0, none⟩ = some (.slice aw ys.length cw) := keep hb6 (by simp; omega) (keepA _ (by omega) d0)
      have hx1 : w6.cell? ⟨A, 1, none⟩ = some (.int .i64 M) := keep hb6 (by simp; omega) (keepA _ (by omega) d1)
      have y36 : A < w6.heap.size := by omega
      clear p0 p1 r0 r1 d0 d1 x0 x1 hb6 hmg hbb6 sn6 hmw5 ho4' ho5 hbb5 hbb5'
      go_wp2_with fail
      refine (eqBits_yes ag aw cg cw ys M _ HS6.out.mg.byt HS6.out.mw.byt (by omega)).mono ?_
      rintro e w7 ⟨rfl, hb7⟩
      have HS7 : Hid (SnapJ w w7 a cap zs N b cb us L A aw cw ys M U w4.heap.size gx zs w5.heap.size gy us w6.heap.size ag cg ys) := HS6.out.step hb7
      clear hb7 hx0 hx1 HS6
      generalize w4.heap.size = X at *
      generalize w5.heap.size = Y at *
      generalize w6.heap.size = G at *
      clear z4 z5 z6 z5' hlt4 hlt5 y36 zA
      have hok : (ok != ok) = false := by simp
      go_wp2_with fail
      go_region_held3 (fun W => W.cell? ⟨X, 0, none⟩ = some (.slice (some ⟨gx, 0, none⟩) zs.length zs.length) ∧ W.cell? ⟨X, 1, none⟩ = some (.int .i64 N) ∧ W.cell? ⟨w.heap.size, 0, none⟩ = some (.slice a zs.length cap) ∧ W.cell? ⟨w.heap.size, 1, none⟩ = some (.int .i64 N))
        (first | exact ⟨HS7.out.x0, HS7.out.x1, HS7.out.p0, HS7.out.p1⟩ | exact ⟨HS8.out.x0, HS8.out.x1, HS8.out.p0, HS8.out.p1⟩ | exact ⟨HS9.out.x0, HS9.out.x1, HS9.out.p0, HS9.out.p1⟩)
        (first
          | (go_at_call 27; refine (toBits_any a cap zs N _ (hba.below HS7.out.bel.drew (Nat.le_refl _)) hn).mono ?_; rintro e w8 ⟨g8, rfl, ho8', hb8'⟩; have ho8 : Hid (Byt w8 (some ⟨g8, 0, none⟩) zs) := ho8'.byt; have HS8 : Hid (SnapJ w w8 a cap zs N b cb us L A aw cw ys M U X gx zs Y gy us G ag cg ys) := HS7.out.step (Below.drewS hb8'); clear ho8' hb8')
          | (go_at_call 28; refine (eqBits_yes _ _ _ _ zs N _ (by exact HS8.out.mx.byt) (by exact ho8.out) (by omega)).mono ?_; rintro e w9 ⟨rfl, hb9⟩; have HS9 : Hid (SnapJ w w9 a cap zs N b cb us L A aw cw ys M U X gx zs Y gy us G ag cg ys) := HS8.out.step hb9; clear hb9))
      clear HS7 HS8 ho8
      go_wp2_with fail
      go_region_held3 (fun W => W.cell? ⟨Y, 0, none⟩ = some (.slice (some ⟨gy, 0, none⟩) us.length us.length) ∧ W.cell? ⟨Y, 1, none⟩ = some (.int .i64 L) ∧ W.cell? ⟨w.heap.size + 1, 0, none⟩ = some (.slice b us.length cb) ∧ W.cell? ⟨w.heap.size + 1, 1, none⟩ = some (.int .i64 L))
        (first | exact ⟨HS9.out.y0, HS9.out.y1, HS9.out.q0, HS9.out.q1⟩ | exact ⟨HS10.out.y0, HS10.out.y1, HS10.out.q0, HS10.out.q1⟩ | exact ⟨HS11.out.y0, HS11.out.y1, HS11.out.q0, HS11.out.q1⟩)
        (first
          | (go_at_call 27; refine (toBits_any b cb us L _ (hbb.below HS9.out.bel.drew (Nat.le_refl _)) (by omega)).mono ?_; rintro e w10 ⟨g10, rfl, ho10', hb10'⟩; have ho10 : Hid (Byt w10 (some ⟨g10, 0, none⟩) us) := ho10'.byt; have HS10 : Hid (SnapJ w w10 a cap zs N b cb us L A aw cw ys M U X gx zs Y gy us G ag cg ys) := HS9.out.step (Below.drewS hb10'); clear ho10' hb10')
          | (go_at_call 28; refine (eqBits_yes _ _ _ _ us L _ (by exact HS10.out.my.byt) (by exact ho10.out) (by omega)).mono ?_; rintro e w11 ⟨rfl, hb11⟩; have HS11 : Hid (SnapJ w w11 a cap zs N b cb us L A aw cw ys M U X gx zs Y gy us G ag cg ys) := HS10.out.step hb11; clear hb11))
      clear HS9 HS10 ho10
      have x0 := HS11.out.x0
      have x1 := HS11.out.x1
      go_wp2_with fail
      refine (markBits_any (some ⟨gx, 0, none⟩) U X zs.length zs N 1 _ HS11.out.mx (by omega) (by omega) (by omega)).mono ?_
      rintro e w12 ⟨rfl, hm12, ho12⟩
      have HS12 : Hid (SnapJ w w12 a cap zs N b cb us L A aw cw ys M U X gx (marks 1 zs.length) Y gy us G ag cg ys) := HS11.out.markX ho12 hm12
      clear hm12 ho12 HS11 x0 x1
      have y0 := HS12.out.y0
      have y1 := HS12.out.y1
      go_wp2_with fail
      refine (markBits_any (some ⟨gy, 0, none⟩) (X + 1) Y us.length us L (1 + zs.length) _ HS12.out.my (by omega) (by omega) (by omega)).mono ?_
      rintro e w13 ⟨rfl, hm13, ho13⟩
      have HS13 : Hid (SnapJ w w13 a cap zs N b cb us L A aw cw ys M U X gx (marks 1 zs.length) Y gy (marks (1 + zs.length) us.length) G ag cg ys) := HS12.out.markY ho13 hm13
      clear hm13 ho13 HS12 y0 y1
      have a0 := HS13.out.a0
      have a1 := HS13.out.a1
      have g0 := HS13.out.g0
      have g1 := HS13.out.g1
      go_wp2_with fail
      refine (eqBits_yes ag aw cg cw ys M _ HS13.out.mg.byt HS13.out.mw.byt (by omega)).mono ?_
      rintro e w14 ⟨rfl, hb14⟩
      have HS14 : Hid (SnapJ w w14 a cap zs N b cb us L A aw cw ys M U X gx (marks 1 zs.length) Y gy (marks (1 + zs.length) us.length) G ag cg ys) := HS13.out.step hb14
      clear hb14 HS13 a0 a1 g0 g1
      have g0 := HS14.out.g0
      have g1 := HS14.out.g1
      go_wp2_with fail
      refine (markBits_any ag (Y + 1) G cg ys M 1 _ HS14.out.mg (by omega) (by omega) (by omega)).mono ?_
      rintro e w15 ⟨rfl, hm15, ho15⟩
      have HS15 : Hid (SnapJ w w15 a cap zs N b cb us L A aw cw ys M U X gx (marks 1 zs.length) Y gy (marks (1 + zs.length) us.length) G ag cg (marks 1 ys.length)) := HS14.out.markG ho15 hm15
      clear hm15 ho15 HS14 g0 g1
      have g0 := HS15.out.g0
      have g1 := HS15.out.g1
      go_wp2_with fail
      refine (heldBits_any ag cg ys.length M 1 _ HS15.out.mg.byt (by omega) (by omega) (by omega)).mono ?_
      rintro e w16 ⟨rfl, hb16⟩
      have HS16 : Hid (SnapJ w w16 a cap zs N b cb us L A aw cw ys M U X gx (marks 1 zs.length) Y gy (marks (1 + zs.length) us.length) G ag cg (marks 1 ys.length)) := HS15.out.step hb16
      clear hb16 HS15 g0 g1
      have HBX : Hid (Below w.heap.size w w16.drew) := HS16.out.bel.drew
      have BX : Hid (Box4 w (.slice a zs.length cap) (.int .i64 N) (.slice b us.length cb) (.int .i64 L) w16.drew) := ⟨HS16.out.p0, HS16.out.p1, HS16.out.q0, HS16.out.q1, by have h1 := HS16.out.hA; have h2 := HS16.out.hX; have h3 := HS16.out.hY; have h4 := HS16.out.hG; simp; omega⟩
      have z16 : w.heap.size + 1 < w16.heap.size := BX.out.2.2.2.2
      go_upto_region 31 with fail
      go_cut [15, 16] (fun s15 s16 wx => ∃ H ah ch, s15 = .pointer (some ⟨H, 0, none⟩) ∧ s16 = .bool ok ∧ SpecJ w wx (.slice a zs.length cap) (.int .i64 N) (.slice b us.length cb) (.int .i64 L) H ah ch ys M ∧ SnapJ w wx a cap zs N b cb us L A aw cw ys M U X gx (marks 1 zs.length) Y gy (marks (1 + zs.length) us.length) G ag cg (marks 1 ys.length))
      case first =>
        go_region_held3 (fun W => W.cell? ⟨w.heap.size, 0, none⟩ = some (.slice a zs.length cap) ∧ W.cell? ⟨w.heap.size, 1, none⟩ = some (.int .i64 N) ∧ W.cell? ⟨w.heap.size + 1, 0, none⟩ = some (.slice b us.length cb) ∧ W.cell? ⟨w.heap.size + 1, 1, none⟩ = some (.int .i64 L) ∧ w.heap.size + 1 < W.heap.size)
          (first | exact BX.out | exact box4_alloc BX.out _ | exact box4_below BX.out hbb2.out | exact box4_alloc (box4_below BX.out hbb2.out) _ | exact box4_below BX.out hbb3.out | exact box4_alloc (box4_below BX.out hbb3.out) _ | exact box4_below BX.out hbb4.out | exact box4_alloc (box4_below BX.out hbb4.out) _ | exact box4_set (box4_set (box4_below BX.out hbb4.out) (by (try simp); omega) _) (by (try simp); omega) _)
          (first
            | (go_at_call_of 27 (Value.agg #[.slice a zs.length cap, .int .i64 N]); refine (toBits_any a cap zs N _ (hba.below (by first | exact HBX.out | exact HBX.out.alloc (by simp; omega) _) (Nat.le_refl _)) hn).mono ?_; rintro e n2 ⟨j2, rfl, ho2', hb2'⟩; have ho2 : Hid (Own n2 w16.heap.size j2 zs.length zs) := ho2'.mono (by simp); have hbb2 : Hid (Below w16.drew.heap.size w16.drew n2) := (by first | exact hb2' | exact ((Below.refl _ _).alloc (Nat.le_refl _) _).trans (hb2'.mono (by simp))); have z2 : w16.heap.size ≤ n2.heap.size := hbb2.out.size; (first | have hA2 : Hid (n2.heap[w16.heap.size]? = some (Obj.cells #[Value.slice none 0 0, Value.int .i64 0] 24 (0, 0)) ∧ w16.heap.size < n2.heap.size) := keepNew2 hb2' | have hA2 : Hid (n2.heap[w16.heap.size]? = some (Obj.cells #[Value.slice none 0 0, Value.int .i64 0] 24 (0, 0)) ∧ w16.heap.size < n2.heap.size) := keepNew2 (Below.drewS hb2') | skip); clear ho2' hb2')
            | (go_at_call_of 27 (Value.agg #[.slice b us.length cb, .int .i64 L]); refine (toBits_any b cb us L _ (hbb.below (by first | exact HBX.out.trans (hbb2.out.mono (by simp; omega)) | exact (HBX.out.trans (hbb2.out.mono (by simp; omega))).alloc (by omega) _) (Nat.le_refl _)) (by omega)).mono ?_; rintro e n3 ⟨j3, rfl, ho3', hb3'⟩; have ho3 : Hid (Own n3 w16.heap.size j3 us.length us) := ho3'.mono (by (try simp); omega); have hbb3 : Hid (Below w16.drew.heap.size w16.drew n3) := (by first | exact hbb2.out.trans (hb3'.mono (by (try simp); omega)) | exact (hbb2.out.alloc (by (try simp); omega) _).trans (hb3'.mono (by (try simp); omega))); have z3 : n2.heap.size ≤ n3.heap.size := (by have := hb3'.size; (try simp at this); omega); have ho23 : Hid (Own n3 w16.heap.size j2 zs.length zs) := (by first | exact ho2.out.below hb3' (Nat.le_refl _) | exact (ho2.out.alloc _).below hb3' (Nat.le_refl _)); (first | have hA3 : Hid (n3.heap[n2.heap.size]? = some (Obj.cells #[Value.slice none 0 0, Value.int .i64 0] 24 (0, 0)) ∧ n2.heap.size < n3.heap.size) := keepNew2 hb3' | have hA3 : Hid (n3.heap[w16.heap.size]? = some (Obj.cells #[Value.slice none 0 0, Value.int .i64 0] 24 (0, 0)) ∧ w16.heap.size < n3.heap.size) := keepOld hA2.out hb3' | skip); clear ho3' hb3')
            | (go_at_call 24; refine (HI0.out (some ⟨j2, 0, none⟩) zs.length (some ⟨j3, 0, none⟩) us.length p q _ (by first | exact ho23.out.byt | exact (ho23.out.alloc _).byt) (by first | exact ho3.out.byt | exact (ho3.out.alloc _).byt) (hT.below (by first | exact HBX.out.trans (hbb3.out.mono (by simp; omega)) | exact (HBX.out.trans (hbb3.out.mono (by simp; omega))).alloc (by omega) _))).mono ?_; rintro e n4 ⟨ah, ch, rfl, hmw', hb4'⟩; have hbb4 : Hid (Below w16.drew.heap.size w16.drew n4) := (by first | exact hbb3.out.trans (hb4'.mono (by (try simp); omega)) | exact (hbb3.out.alloc (by (try simp); omega) _).trans (hb4'.mono (by (try simp); omega))); have z4 : n3.heap.size ≤ n4.heap.size := (by have := hb4'.size; (try simp at this); omega); have HMW : Hid (Mine n4 w16.heap.size n4.heap.size ah ch ys) := hmw'.mono (by (try simp); omega) (Nat.le_refl _); (first | have hA4 : Hid (n4.heap[n3.heap.size]? = some (Obj.cells #[Value.slice none 0 0, Value.int .i64 0] 24 (0, 0)) ∧ n3.heap.size < n4.heap.size) := keepNew2 hb4' | have hA4 : Hid (n4.heap[n2.heap.size]? = some (Obj.cells #[Value.slice none 0 0, Value.int .i64 0] 24 (0, 0)) ∧ n2.heap.size < n4.heap.size) := keepOld hA3.out hb4' | have hA4 : Hid (n4.heap[w16.heap.size]? = some (Obj.cells #[Value.slice none 0 0, Value.int .i64 0] 24 (0, 0)) ∧ w16.heap.size < n4.heap.size) := keepOld hA3.out hb4' | skip); (first | (have cA0 := cellR (j := 0) hA4.out.1 rfl; have cA1 := cellR (j := 1) hA4.out.1 rfl; have fA0 := frozenR (j := 0) hA4.out.1; have fA1 := frozenR (j := 1) hA4.out.1) | skip); clear hmw' hb4'))
        all_goals
          go_wp2_with fail
          go_meet
          first
            | exact ⟨_, _, _, rfl, rfl, SpecJ.ofAlloc (HBX.out.trans (hbb4.out.mono (by simp; omega))) (box4_below BX.out hbb4.out) (HMW.out.mono (by omega) (Nat.le_refl _)), HS16.out.step ((Below.drewS hbb4.out).alloc (by simp; omega) _)⟩
            | exact ⟨_, _, _, rfl, rfl, SpecJ.ofSet (HBX.out.trans (hbb4.out.mono (by simp; omega))) (box4_below BX.out hbb4.out) (HMW.out.mono (by omega) (Nat.le_refl _)) (by omega) hA4.out.1 (by decide), HS16.out.step (((Below.drewS hbb4.out).setCell (by simp <;> omega) _).setCell (by simp <;> omega) _)⟩
      case rest =>
      obtain ⟨H, ah, ch, rfl, rfl, HJ', HS17'⟩ := hcut
      have HJ : Hid (SpecJ w wc (.slice a zs.length cap) (.int .i64 N) (.slice b us.length cb) (.int .i64 L) H ah ch ys M) := HJ'
      have HS19 : Hid (SnapJ w wc a cap zs N b cb us L A aw cw ys M U X gx (marks 1 zs.length) Y gy (marks (1 + zs.length) us.length) G ag cg (marks 1 ys.length)) := HS17'
      clear HJ' HS17' HBX BX HS16
      have a0 := HS19.out.a0
      have a1 := HS19.out.a1
      have h0 := HJ.out.a0
      have h1 := HJ.out.a1
      go_wp2_with fail
      refine (eqBits_yes ah aw ch cw ys M _ HJ.out.mw.byt HS19.out.mw.byt (by omega)).mono ?_
      rintro e w20 ⟨rfl, hb20⟩
      have HS20 : Hid (SnapJ w w20 a cap zs N b cb us L A aw cw ys M U X gx (marks 1 zs.length) Y gy (marks (1 + zs.length) us.length) G ag cg (marks 1 ys.length)) := HS19.out.step hb20
      clear hb20 HS19 HJ a0 a1 h0 h1
      have g0 := HS20.out.g0
      have g1 := HS20.out.g1
      go_wp2_with fail
      refine (heldBits_any ag cg ys.length M 1 _ HS20.out.mg.byt (by omega) (by omega) (by omega)).mono ?_
      rintro e w21 ⟨rfl, hb21⟩
      have HS21 : Hid (SnapJ w w21 a cap zs N b cb us L A aw cw ys M U X gx (marks 1 zs.length) Y gy (marks (1 + zs.length) us.length) G ag cg (marks 1 ys.length)) := HS20.out.step hb21
      clear hb21 HS20 g0 g1
      go_wp2
      go_ret
      exact ⟨rfl, HS21.out.bel⟩
    · go_wp2_with fail
      refine (szBits_any b us.length cb L (1048576 - zs.length) _ hm2 (by omega) (by omega)).mono ?_
      rintro e w1' ⟨rfl, hb1⟩
      rw [if_neg (by omega)]
      go_wp2
      go_ret
      exact ⟨rfl, hbb1.trans (hb1.mono (by omega))⟩
  · go_enter Tryd.func8, Tryd.ntmps8
    go_wp2_with fail
    refine (szBits_any a zs.length cap N 1048576 _ hm (by omega) (by omega)).mono ?_
    rintro e w1 ⟨rfl, hb1⟩
    rw [if_neg (by omega)]
    go_wp2
    go_ret
    exact ⟨rfl, hw.trans (hb1.mono (by simp; omega))⟩
end Go.Proofs.YtdhnlbekkicjcaaDoor
