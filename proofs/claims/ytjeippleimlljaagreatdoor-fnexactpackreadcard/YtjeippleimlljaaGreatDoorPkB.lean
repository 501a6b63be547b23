/-
  The bytes of a pack: the model's and the program's. (Typed by wip/mkpb.py.)
-/
import Derived.Test.YtjeippleimlljaaGreatDoorRp2
import Derived.Test.YtjeippleimlljaaGreatDoorItF
import Derived.Deep.RegionHeld3
import Derived.Test.YtjeippleimlljaaGreatDoorPkS
import Derived.Test.YtjeippleimlljaaGreatDoorUs3
import Derived.Test.YtjeippleimlljaaGreatDoorBRep
import Derived.Test.YtjeippleimlljaaGreatDoorCut
namespace Go.Proofs.YtjeippleimlljaaGreatDoor
open Go.RowKit
set_option linter.unusedVariables false

set_option maxHeartbeats 800000 in
theorem eqByteS_any (a b : Option Addr) (ca cb : Nat) (xs ys : List Int) (w : World) (ha : Byt w a xs) (hb : Byt w b ys) (hx : xs.length ≤ 281474976710656) (hy : ys.length ≤ 281474976710656) :
    Calls Tryz.prog 8 #[.slice a xs.length ca, .slice b ys.length cb] w fun e w' => e = .returned (.bool (decide (xs = ys))) ∧ ∃ n, w' = w.drewN n := by
  by_cases hl : xs.length = ys.length
  · generalize hlx : xs.length = n at *
    have HX : Hid (xs.length = n) := hlx
    have HY : Hid (ys.length = n) := hl.symm
    rw [← hl]
    have hnn : ((n : Int) != (n : Int)) = false := by simp
    clear hlx hl hy
    go_enter Tryz.func8, Tryz.ntmps8
    go_wp2
    go_loopw [5] (fun i wr => ∃ k m : Nat, k ≤ n ∧ i = .int .i64 k ∧ wr = w.drewN m ∧ xs.take k = ys.take k) (fun i _ => n - (intOf i).toNat)
    case atStart => exact ⟨0, 0, Nat.zero_le _, rfl, rfl, by simp⟩
    case round =>
      obtain ⟨k, m, hk, rfl, rfl, htk⟩ := hrel
      have HT : Hid (xs.take k = ys.take k) := htk
      clear htk
      by_cases hlt : k < n
      · obtain ⟨b1, o1, rfl, hb1, hc1⟩ := ha.len_pos k (by rw [HX.out]; exact hlt)
        obtain ⟨b2, o2, rfl, hb2, hc2⟩ := hb.len_pos k (by rw [HY.out]; exact hlt)
        have hs1 := hc1 k (by rw [HX.out]; exact hlt)
        have hs2 := hc2 k (by rw [HY.out]; exact hlt)
        have g1 := getD_rng ha.1 k
        have g2 := getD_rng hb.1 k
        clear hc1 hc2 ha hb
        generalize hx1 : xs.getD k 0 = x1 at *
        generalize hy1 : ys.getD k 0 = y1 at *
        have HX1 : Hid (xs.getD k 0 = x1) := hx1
        have HY1 : Hid (ys.getD k 0 = y1) := hy1
        clear hx1 hy1
        by_cases hxy : x1 = y1
        · subst hxy
          have hq : (x1 != x1) = false := by simp
          have HT' : Hid (xs.take (k + 1) = ys.take (k + 1)) := take_eq_succ HT.out (by rw [HX.out]; exact hlt) (by rw [HY.out]; exact hlt) (by rw [HX1.out, HY1.out])
          go_wp2
          go_quiet (fail)
          go_wp2
          go_roundw
          case rel => exact ⟨k + 1, _, by omega, by go_num, rfl, HT'.out⟩
          case measure => simp [intOf]; omega
        · have hq : (x1 != y1) = true := by rw [bne_iff_ne]; exact hxy
          have HN : Hid (decide (xs = ys) = false) := by
            have : xs ≠ ys := ne_of_getD (k := k) (by rw [HX1.out, HY1.out]; exact hxy)
            simpa [Hid] using this
          clear hxy
          go_wp2
          go_quiet (fail)
          go_wp2
          go_ret
          exact ⟨by rw [HN.out]; rfl, _, World.drewN_drewN ..⟩
      · have HE : Hid (decide (xs = ys) = true) := by
          have h1 := HT.out
          rw [List.take_of_length_le (by rw [HX.out]; omega), List.take_of_length_le (by rw [HY.out]; omega)] at h1
          simpa [Hid] using h1
        go_wp2
        go_ret
        exact ⟨by rw [HE.out]; rfl, _, rfl⟩
  · have hne : decide (xs = ys) = false := by simp; intro h; exact hl (by rw [h])
    have hl' : ((xs.length : Int) != (ys.length : Int)) = true := by rw [bne_iff_ne]; omega
    rw [hne]
    go_enter Tryz.func8, Tryz.ntmps8
    go_wp2
    go_ret
    exact ⟨rfl, 0, rfl⟩

theorem eqByteS_yes (a b : Option Addr) (ca cb : Nat) (xs : List Int) (w : World) (ha : Byt w a xs) (hb : Byt w b xs) (hx : xs.length ≤ 281474976710656) :
    Calls Tryz.prog 8 #[.slice a xs.length ca, .slice b xs.length cb] w fun e w' => e = .returned (.bool true) ∧ ∃ n, w' = w.drewN n := by
  refine (eqByteS_any a b ca cb xs xs w ha hb hx hx).mono ?_
  rintro e w' ⟨rfl, h⟩
  exact ⟨by simp, h⟩

end Go.Proofs.YtjeippleimlljaaGreatDoor
namespace Go.Proofs.YtjeippleimlljaaGreatDoor
open Go.RowKit
set_option linter.unusedVariables false

theorem below_dI {w W : World} {B : Nat} (h : Below B w W) (n : Nat) : Below B w (W.drewN n) := ⟨h.os, h.tape, h.output, h.size, h.block⟩

set_option maxHeartbeats 800000 in
theorem eqItem_yes (a b : Option Addr) (ca cb : Nat) (xs : List Int) (n : Int) (w : World) (ha : Byt w a xs) (hb : Byt w b xs) (hx : xs.length ≤ 281474976710656) :
    Calls Tryz.prog 28 #[.agg #[.int .i64 n, .slice a xs.length ca], .agg #[.int .i64 n, .slice b xs.length cb]] w fun e w' => e = .returned (.bool true) ∧ Below w.heap.size w w' := by
  have hw : Below w.heap.size w ((w.alloc (Obj.cells #[Value.int IntKind.i64 n, Value.slice a xs.length ca] 36)).alloc (Obj.cells #[Value.int IntKind.i64 n, Value.slice b xs.length cb] 36)) := ((Below.refl _ _).alloc (Nat.le_refl _) _).alloc (by simp) _
  have hnn : (n != n) = false := by simp
  go_enter Tryz.func28, Tryz.ntmps28
  go_wp2_with fail
  refine (eqByteS_yes a b ca cb xs _ (ha.below hw (Nat.le_refl _)) (hb.below hw (Nat.le_refl _)) hx).mono ?_
  rintro e w1 ⟨rfl, nq, rfl⟩
  go_wp2
  go_ret
  exact ⟨rfl, below_dI hw _⟩

set_option maxHeartbeats 1600000 in
theorem eqItemS_yes (a b : Option Addr) (ca cb : Nat) (ss ts : List El) (w : World) (ha : Els true w a ss) (hb : Els true w b ts) (hct : ss.map El.ct = ts.map El.ct) (hx : ss.length ≤ 281474976710656) (hxl : ∀ s ∈ ss, s.ls.length ≤ 281474976710656) :
    Calls Tryz.prog 16 #[.slice a ss.length ca, .slice b ss.length cb] w fun e w' => e = .returned (.bool true) ∧ Below w.heap.size w w' := by
  have htl : ts.length = ss.length := by have := congrArg List.length hct; simpa using this.symm
  have HA : Hid (Els true w a ss) := ha
  have HB : Hid (Els true w b ts) := hb
  have HCT : Hid (ss.map El.ct = ts.map El.ct ∧ ts.length = ss.length) := ⟨hct, htl⟩
  have HXL : Hid (∀ s ∈ ss, s.ls.length ≤ 281474976710656) := hxl
  clear ha hb hct htl hxl
  generalize hlen : ss.length = n at *
  have HL : Hid (ss.length = n ∧ True) := ⟨hlen, trivial⟩
  clear hlen
  have hnn : ((n : Int) != (n : Int)) = false := by simp
  go_enter Tryz.func16, Tryz.ntmps16
  go_wp2
  go_loopw [5] (fun i wr => ∃ k : Nat, k ≤ n ∧ i = .int .i64 k ∧ Below w.heap.size w wr) (fun i _ => n - (intOf i).toNat)
  case atStart => exact ⟨0, Nat.zero_le _, rfl, Below.refl _ _⟩
  case round =>
    obtain ⟨k, hk, rfl, hbel⟩ := hrel
    by_cases hlt : k < n
    · obtain ⟨b1, o1, rfl, hb1, c0, c1, hy1, -⟩ := (HA.out.below hbel (Nat.le_refl _)).pen k (by rw [HL.out.1]; exact hlt)
      obtain ⟨b2, o2, rfl, hb2, d0, d1, hy2, -⟩ := (HB.out.below hbel (Nat.le_refl _)).pen k (by rw [HCT.out.2]; exact hlt)
      have hml := HXL.out _ (getD_memE (k := k) (by rw [HL.out.1]; exact hlt))
      have hce := ctE_get HCT.out.1 k
      generalize ss.getD k de = s at *
      generalize ts.getD k de = t at *
      obtain ⟨sn, sa, sc, sl⟩ := s
      obtain ⟨tn, ta, tc, tl⟩ := t
      simp only [El.ct, Prod.mk.injEq] at hce
      obtain ⟨rfl, rfl⟩ := hce
      simp only at c0 c1 d0 d1 hy1 hy2 hml
      have HY1 : Hid (Byt wr sa sl) := hy1
      have HY2 : Hid (Byt wr ta sl) := hy2
      have HML : Hid (sl.length ≤ 281474976710656) := hml
      have HC : Hid (wr.cell? ⟨b1, o1 + k * 2, none⟩ = some (.int .i64 sn) ∧ wr.cell? ⟨b1, o1 + k * 2 + 1, none⟩ = some (.slice sa sl.length sc) ∧ wr.cell? ⟨b2, o2 + k * 2, none⟩ = some (.int .i64 sn) ∧ wr.cell? ⟨b2, o2 + k * 2 + 1, none⟩ = some (.slice ta sl.length tc)) := ⟨c0, c1, d0, d1⟩
      clear hy1 hy2 hml c0 c1 d0 d1
      go_wp2_with fail
      go_region_held3 (fun W => W.cell? ⟨b1, o1 + k * 2, none⟩ = some (.int .i64 sn) ∧ W.cell? ⟨b1, o1 + k * 2 + 1, none⟩ = some (.slice sa sl.length sc) ∧ W.cell? ⟨b2, o2 + k * 2, none⟩ = some (.int .i64 sn) ∧ W.cell? ⟨b2, o2 + k * 2 + 1, none⟩ = some (.slice ta sl.length tc))
        (first | exact HC.out | exact HC8.out)
        (first
          | (go_at_call 28; refine (eqItem_yes sa ta sc tc sl sn _ (by exact HY1.out) (by exact HY2.out) HML.out).mono ?_; rintro e w8 ⟨rfl, hb8'⟩; have HB8 : Hid (Below w.heap.size w w8) := hbel.trans ((Below.drewS hb8').mono hbel.size); have HC8 : Hid (w8.cell? ⟨b1, o1 + k * 2, none⟩ = some (.int .i64 sn) ∧ w8.cell? ⟨b1, o1 + k * 2 + 1, none⟩ = some (.slice sa sl.length sc) ∧ w8.cell? ⟨b2, o2 + k * 2, none⟩ = some (.int .i64 sn) ∧ w8.cell? ⟨b2, o2 + k * 2 + 1, none⟩ = some (.slice ta sl.length tc)) := ⟨keep (Below.drewS hb8') hb1 HC.out.1, keep (Below.drewS hb8') hb1 HC.out.2.1, keep (Below.drewS hb8') hb2 HC.out.2.2.1, keep (Below.drewS hb8') hb2 HC.out.2.2.2⟩; clear hb8'))
      clear HC HC8
      go_wp2
      go_roundw
      case rel => exact ⟨k + 1, by omega, by go_num, HB8.out⟩
      case measure => simp [intOf]; omega
    · have hkn : k = n := by omega
      subst hkn
      go_wp2
      go_ret
      exact ⟨rfl, hbel⟩

set_option maxHeartbeats 1600000 in
theorem eqPack_yes (E O : Int) (a b : Option Addr) (ca cb : Nat) (ss ts : List El) (w : World) (ha : Els true w a ss) (hb : Els true w b ts) (hct : ss.map El.ct = ts.map El.ct) (hx : FewI ss) :
    Calls Tryz.prog 7 #[.agg #[.int .i64 E, .int .i64 O, .slice a ss.length ca], .agg #[.int .i64 E, .int .i64 O, .slice b ss.length cb]] w fun e w' => e = .returned (.bool true) ∧ Below w.heap.size w w' := by
  have hw : Below w.heap.size w ((w.alloc (Obj.cells #[Value.int IntKind.i64 E, Value.int IntKind.i64 O, Value.slice a ss.length ca] 25)).alloc (Obj.cells #[Value.int IntKind.i64 E, Value.int IntKind.i64 O, Value.slice b ss.length cb] 25)) := ((Below.refl _ _).alloc (Nat.le_refl _) _).alloc (by simp) _
  have HE := eqItemS_yes a b ca cb ss ts _ (ha.below hw (Nat.le_refl _)) (hb.below hw (Nat.le_refl _)) hct (by have := hx.n; omega) (fun s hs => by have := hx.l s hs; omega)
  have hE : (E != E) = false := by simp
  have hO : (O != O) = false := by simp
  clear ha hb hct hx
  go_enter Tryz.func7, Tryz.ntmps7
  go_wp2_with fail
  refine HE.mono ?_
  clear HE
  rintro e w1 ⟨rfl, hb1⟩
  have HB1 : Hid (Below w.heap.size w w1) := hw.trans (hb1.mono (by simp; omega))
  clear hw hb1
  go_wp2
  go_ret
  exact ⟨rfl, HB1.out⟩
end Go.Proofs.YtjeippleimlljaaGreatDoor
namespace Go.Proofs.YtjeippleimlljaaGreatDoor
open Go.RowKit
set_option linter.unusedVariables false

theorem FewI.j {es : List El} (h : FewI es) : FewJ es := ⟨h.n, h.l, by have := h.sum; omega⟩
/-- Two copies of one pack are equal. -/
theorem eqPack_two (E O : Int) (a b : Option Addr) (es us vs : List El) {B B' : Nat} (w : World) (hu : CopT w B (.slice a es.length es.length) us es) (hv : CopT w B' (.slice b es.length es.length) vs es) (hx : FewI es) :
    Calls Tryz.prog 7 #[.agg #[.int .i64 E, .int .i64 O, .slice a es.length es.length], .agg #[.int .i64 E, .int .i64 O, .slice b es.length es.length]] w fun e w' => e = .returned (.bool true) ∧ Below w.heap.size w w' := by
  have := eqPack_yes E O a b es.length es.length us vs w hu.its.els hv.its.els (hu.ct.trans hv.ct.symm) (hx.ct hu.ct)
  rw [len_ctE hu.ct] at this
  exact this
end Go.Proofs.YtjeippleimlljaaGreatDoor
namespace Go.Proofs.YtjeippleimlljaaGreatDoor
open Go.RowKit
set_option linter.unusedVariables false
set_option linter.unusedSimpArgs false

theorem zeros_listB (m : Nat) : Builtin.zeroCells (Value.int .u8 0).cells m = ((List.replicate m (0 : Int)).map (Value.int .u8)).toArray := by
  apply Array.ext'
  simp only [Builtin.zeroCells, Value.cells, Array.toList_map, Array.toList_range, List.map_replicate]
  rw [List.eq_replicate_iff]
  refine ⟨by simp, fun b hb => ?_⟩
  simp only [List.mem_map] at hb
  obtain ⟨i, _, rfl⟩ := hb
  simp [Nat.mod_one]
theorem run_append_zerB {P : Program} (w : World) (base : Nat) (t tn ty e : TypeId) (i : TypeInfo) (k kn : IntKind) (ht : P.underlying t = some (.slice e)) (htn : P.underlying tn = some (.int kn)) (hi : P.info? e = some i) (hz : i.zero = some (.int .u8 0))
    (hsize : i.size = 1) (hby : i.bytes ≤ 8) (v : Value) (n : Nat) (hn : 0 < n) (xs : List Value) (hown : w.ownsRow base e 1 v n xs) (m : Nat) (hnm : n + m ≤ 1000000) (hbase : base ≤ w.heap.size) :
    ∃ v' w', (Builtin.append_ #[t, tn] ty #[v, .int k m]).run P w = .ok v' w' ∧ w'.ownsRow base e 1 v' (n + m) (xs ++ (List.replicate m (0 : Int)).map (Value.int .u8)) ∧ w.grownBy w' v.ownBlock := by
  have hl : ((List.replicate m (0 : Int)).map (Value.int .u8)).length = m := by simp
  have hZ := zeros_listB m
  have h1 : ∀ u ∈ (List.replicate m (0 : Int)).map (Value.int .u8), u.oneCell' = true := by
    intro u hu
    simp only [List.mem_map] at hu
    obtain ⟨z, _, rfl⟩ := hu
    rfl
  generalize (List.replicate m (0 : Int)).map (Value.int .u8) = news at *
  have hlen : (xs ++ news).length = n + m := by rw [List.length_append, hown.1, hl]; omega
  have hw : IntKind.i64.wrap (m : Int) = m := by rw [IntKind.wrap_i64]; omega
  have hneg : ¬ ((m : Int) < 0) := by omega
  have hmb : m * i.bytes ≤ m * 8 := Nat.mul_le_mul_left _ hby
  have h48i : ¬ (281474976710656 < (m : Int) * (i.bytes : Int)) := by
    rw [← Int.natCast_mul]
    omega
  rcases hown.2 with ⟨rfl, rfl⟩ | ⟨g, cap, cur, rfl, hbg, hg, hnc, hcm, hcs, htake⟩
  · omega
  · by_cases hroom : n + m ≤ cap
    · have hst := run_storeCells_at P g n e news 0 cur w hg (by simp [hl]; omega) h1
      simp only [Nat.add_zero] at hst
      have hr : (Builtin.append_ #[t, tn] ty #[.slice (some ⟨g, 0, none⟩) n cap, .int k m]).run P w = .ok (.slice (some ⟨g, 0, none⟩) (n + m) cap) (w.setRow g (cur.toList.take n ++ news ++ cur.toList.drop (n + news.length)).toArray) := by
        by_cases hm0 : m = 0
        · subst hm0
          have hn0 : news = [] := List.eq_nil_of_length_eq_zero hl
          subst hn0
          have hw0 : IntKind.i64.wrap 0 = 0 := by decide
          simp [Addr.add_lit] at hst
          simp [Builtin.append_, run_underlying ht, run_underlying htn, sizeOf, typeInfo, zeroValue, hi, hz, hsize, asInt, asIntOf, hw0, Addr.add_lit, hnc, hst]
        · simp [Builtin.append_, run_underlying ht, run_underlying htn, sizeOf, typeInfo, zeroValue, hi, hz, hsize, asInt, asIntOf, hw, hneg, h48i, hroom, hm0, hZ, Addr.add_lit, hst]
      refine ⟨_, _, hr, ⟨by rw [hlen, Nat.mul_one], .inr ⟨g, cap, _, rfl, hbg, setRow_heap w g cur _ e _ hg, hroom, hcm, ?_, ?_⟩⟩, ⟨rfl, rfl, rfl, by simp, fun k _ hk => setRow_other w g k _ (fun e => hk (by simp [Value.ownBlock, e]))⟩⟩
      · simp only [List.size_toArray, List.length_append, List.length_take, List.length_drop, Array.length_toList]
        omega
      · rw [Nat.mul_one] at htake ⊢
        rw [htake, ← hlen]
        exact List.take_left
    · have holds : ∀ j u, xs[j]? = some u → w.cell? ((⟨g, 0, none⟩ : Addr).add j) = some u := hown.cells (g := g) rfl
      have hm0 : ¬ m = 0 := by omega
      have h63' : ¬ (9223372036854775807 < ((n : Int) + (m : Int))) := by omega
      have hfit := growslice_fits (need := n + m) (old := cap) (bytes := i.bytes) (by omega) (by have := Nat.mul_le_mul_left (n + m) hby; omega)
      have h48' : ¬ (281474976710656 < Builtin.nextslicecap (n + m) cap * i.bytes) := by omega
      have hfo := run_firstCells_some (P := P) w.drew 1 n ⟨g, 0, none⟩ n cap xs hown.1 (by simpa using holds)
      have hr : (Builtin.append_ #[t, tn] ty #[.slice (some ⟨g, 0, none⟩) n cap, .int k m]).run P w = .ok (.slice (some ⟨w.heap.size, 0, none⟩) (n + m) (grownCap w (n + m) cap e))
          (w.drew.alloc (.cells (xs.toArray ++ news.toArray ++ Builtin.zeroCells (Value.int .u8 0).cells (grownCap w (n + m) cap e - (n + m))) e)) := by
        simp [Builtin.append_, run_underlying ht, run_underlying htn, sizeOf, typeInfo, zeroValue, hi, hz, hsize, asInt, asIntOf, hw, hneg, h48i, hroom, hm0, hZ, h63', h48', Question.forced, hfo, newRow, grownCap]
        congr 2
        apply Array.ext'
        simp [List.append_assoc]
      have hge := grownCap_ge w (n + m) cap e
      have hcm2 : grownCap w (n + m) cap e ≤ maxLen := grownCap_le_maxLen w (n + m) cap e (by unfold maxLen; omega)
      refine ⟨_, _, hr, ⟨by rw [hlen, Nat.mul_one], .inr ⟨w.heap.size, _, _, rfl, hbase, heap_alloc_new w.drew _, hge, hcm2, ?_, ?_⟩⟩, ⟨rfl, rfl, rfl, by simp, fun j hj _ => heap_alloc_old w.drew _ hj⟩⟩
      · have hx := hown.1
        simp only [Array.size_append, List.size_toArray, size_zeroCells, hl, Value.cells]
        simp
        omega
      · rw [Nat.mul_one]
        simp only [Array.toList_append, List.append_assoc]
        rw [← List.append_assoc, ← hlen]
        exact List.take_left

theorem OVB.appZ {w w' : World} {B : Nat} {v v' : Value} {zs : List Int} {n m : Nat} (h : OVB w B v zs) (hn : zs.length = n) (h2 : w'.ownsRow B 5 1 v' (n + m) (zs.map (Value.int .u8) ++ (List.replicate m (0 : Int)).map (Value.int .u8))) : OVB w' B v' (zs ++ List.replicate m 0) := by
  refine ⟨?_, ?_⟩
  · rw [List.length_append, List.length_replicate, hn, List.map_append]
    exact h2
  · intro z hz
    rcases List.mem_append.1 hz with hz | hz
    · exact h.2 z hz
    · have := List.eq_of_mem_replicate hz
      omega
theorem wpList_append_zerB {ops : Array Oper} {rest : List Oper} {o : Oper} {a : Act} {Q : Exit → Act → World → Prop} {w : World} (hgd : o.guard = none) (s x : Operand)
    (ho : o.op = .call { callee := .builtin .append, args := #[s, x], argTypes := #[22, 3] })
    (B : Nat) (v : Value) (zs : List Int) (hs : a.eval s = v) (hown : OVB w B v zs) (m : Nat) (hx : a.eval x = .int .i64 (m : Nat)) (hp : 0 < zs.length) (hb1 : zs.length + m ≤ 1000000) (hbase : B ≤ w.heap.size)
    (h : ∀ v' w', OVB w' B v' (zs ++ List.replicate m 0) → w.grownBy w' v.ownBlock → wpList Tryz.prog ops Q rest (a.put o.dst v') w') : wpList Tryz.prog ops Q (o :: rest) a w := by
  obtain ⟨i0, hi, hz0, hz1, hz2⟩ := info_parts Tryz.infoU8
  obtain ⟨v', w', hr, h2, h3⟩ := run_append_zerB (P := Tryz.prog) w B 22 3 o.type 5 i0 .i64 .i64 Tryz.underlying22 Tryz.underlying3 hi hz0 hz1 (by rw [hz2]; omega) v zs.length hp _ hown.1 m hb1 hbase
  refine wpList_plain hgd fun K hK' => ?_
  unfold Oper.wp execOp
  simp only [ho, resolve, invoke, builtin, Sem.run_bind, Sem.run_pure, Result.andThen_ok, List.map_toArray, List.map_cons, List.map_nil, hs, hx, hr]
  exact hK' _ _ (h v' w' (hown.appZ rfl h2) h3)
end Go.Proofs.YtjeippleimlljaaGreatDoor
namespace Go.Proofs.YtjeippleimlljaaGreatDoor
open Go.RowKit
set_option linter.unusedVariables false
set_option linter.unusedSimpArgs false

def pbH (E O : Int) (n : Nat) : List Int := [80, E / 256, E % 256, O / 256, O % 256, n]
def pbI (es : List El) : List Int := es.flatMap (fun e => [e.n, (e.ls.length : Int)])
def pbB (es : List El) : List Int := es.flatMap (fun e => e.ls)
/-- The bytes of a pack. -/
def pkL (E O : Int) (es : List El) : List Int := pbH E O es.length ++ pbI es ++ pbB es ++ List.replicate (256 - szP es) 0
theorem pbH_len (E O : Int) (n : Nat) : (pbH E O n).length = 6 := rfl
theorem pbI_len (es : List El) : (pbI es).length = es.length * 2 := by
  induction es with
  | nil => rfl
  | cons e es ih => rw [show pbI (e :: es) = [e.n, (e.ls.length : Int)] ++ pbI es from rfl, List.length_append, ih, List.length_cons]; simp; omega
theorem pbB_len (es : List El) : (pbB es).length = elets es := by
  induction es with
  | nil => rfl
  | cons e es ih => rw [show pbB (e :: es) = e.ls ++ pbB es from rfl, List.length_append, ih]; rfl
theorem pbI_app (es fs : List El) : pbI (es ++ fs) = pbI es ++ pbI fs := by simp [pbI, List.flatMap_append]
theorem pbB_app (es fs : List El) : pbB (es ++ fs) = pbB es ++ pbB fs := by simp [pbB, List.flatMap_append]
theorem pbI_succ (es : List El) (k : Nat) (h : k < es.length) : pbI (es.take (k + 1)) = pbI (es.take k) ++ [(es.getD k de).n, ((es.getD k de).ls.length : Int)] := by
  rw [List.take_succ_eq_append_getElem h, pbI_app]
  simp [pbI, List.getD_eq_getElem?_getD, List.getElem?_eq_getElem h]
theorem pbB_succ (es : List El) (k : Nat) (h : k < es.length) : pbB (es.take (k + 1)) = pbB (es.take k) ++ (es.getD k de).ls := by
  rw [List.take_succ_eq_append_getElem h, pbB_app]
  simp [pbB, List.getD_eq_getElem?_getD, List.getElem?_eq_getElem h]
theorem pkL_ct {E O : Int} {es ts : List El} (h : es.map El.ct = ts.map El.ct) : pkL E O es = pkL E O ts := by
  have h1 : pbI es = pbI ts := by
    have : ∀ l : List El, pbI l = (l.map El.ct).flatMap (fun p => [p.1, (p.2.length : Int)]) := fun l => by simp [pbI, List.flatMap_map, El.ct]
    rw [this, this, h]
  have h2 : pbB es = pbB ts := by
    have : ∀ l : List El, pbB l = (l.map El.ct).flatMap (fun p => p.2) := fun l => by simp [pbB, List.flatMap_map, El.ct]
    rw [this, this, h]
  have hl := len_ctE h
  have hz : szP es = szP ts := by unfold szP; rw [hl, elets_ct _ _ h]
  unfold pkL
  rw [h1, h2, hz, hl]
theorem pkL_len {E O : Int} {es : List El} (h : szP es ≤ 256) : (pkL E O es).length = 256 := by
  unfold pkL
  simp only [List.length_append, pbH_len, pbI_len, pbB_len, List.length_replicate]
  unfold szP at *
  omega
theorem byt_twoP (w : World) (x y : Int) (hx : 0 ≤ x ∧ x ≤ 255) (hy : 0 ≤ y ∧ y ≤ 255) : Byt (w.alloc (.cells #[.int .u8 x, .int .u8 y] 5)) (some ⟨w.heap.size, 0, none⟩) [x, y] := by
  refine ⟨by intro z hz; simp at hz; omega, fun _ => ⟨w.heap.size, 0, rfl, by simp, fun i hi => ?_⟩⟩
  have : i = 0 ∨ i = 1 := by simp at hi; omega
  rcases this with rfl | rfl
  · simp
  · simp
theorem build6 (w : World) (x0 x1 x2 x3 x4 x5 : Int) (h0 : 0 ≤ x0 ∧ x0 ≤ 255) (h1 : 0 ≤ x1 ∧ x1 ≤ 255) (h2 : 0 ≤ x2 ∧ x2 ≤ 255) (h3 : 0 ≤ x3 ∧ x3 ≤ 255) (h4 : 0 ≤ x4 ∧ x4 ≤ 255) (h5 : 0 ≤ x5 ∧ x5 ≤ 255) (B : Nat) (hB : B ≤ w.heap.size) :
    OVB (w.alloc (.cells #[.int .u8 x0, .int .u8 x1, .int .u8 x2, .int .u8 x3, .int .u8 x4, .int .u8 x5] 5)) B (.slice (some ⟨w.heap.size, 0, none⟩) 6 6) [x0, x1, x2, x3, x4, x5] := by
  refine ⟨⟨rfl, .inr ⟨w.heap.size, 6, _, rfl, hB, heap_alloc_new w _, Nat.le_refl _, by unfold maxLen; omega, rfl, rfl⟩⟩, ?_⟩
  intro z hz
  simp at hz
  omega
/-- What is asked of a pack that has bytes. -/
structure PbR (E O : Int) (es : List El) : Prop where
  e : 0 ≤ E ∧ E ≤ 60000
  o : 0 ≤ O ∧ O ≤ 60000
  n : es.length ≤ 16
  r : ∀ k, k < es.length → (0 ≤ (es.getD k de).n ∧ (es.getD k de).n < 16) ∧ (es.getD k de).ls.length ≤ 65
  z : szP es ≤ 256
theorem PkR.pb {f : List Int → Option (List Int)} (hf : DecF f) {E O : Int} {es : List El} (h : PkR f E O es) (hl : ∀ e ∈ es, e.ls.length ≤ 1048576) (hr : ∀ e ∈ es, ∀ z ∈ e.ls, 0 ≤ z ∧ z ≤ 255) : PbR E O es :=
  ⟨⟨h.e0, h.e1⟩, ⟨h.o0, h.o1⟩, h.n, fun k hk => ⟨(h.ap k hk).1.1, apT_short hf h.ap (Nat.le_refl _) hl hr k hk⟩, h.sz⟩

set_option maxRecDepth 20000 in
set_option maxHeartbeats 8000000 in
theorem l7bytes_any (E O : Int) (a : Option Addr) (cap : Nat) (es : List El) (w : World) (hb : Els true w a es) (hp : PbR E O es) :
    Calls Tryz.prog 13 #[.agg #[.int .i64 E, .int .i64 O, .slice a es.length cap]] w fun r w' => (∃ v, r = .returned v ∧ OVB w' w.heap.size v (pkL E O es)) ∧ Below w.heap.size w w' := by
  have HB : Hid (Els true w a es) := hb
  have HP : Hid (PbR E O es) := hp
  obtain ⟨he, ho, hn16, -, hz⟩ := id hp
  have HSB : Hid (pkL E O es = (pbH E O es.length ++ pbI (es.take es.length) ++ pbB (es.take es.length)) ++ List.replicate (256 - szP es) 0 ∧ pbH E O es.length ++ pbI (es.take 0) = [80, E / 256, E % 256, O / 256, O % 256, (es.length : Int)] ∧ szP es = 6 + 2 * es.length + elets es) := ⟨by rw [List.take_length]; rfl, rfl, rfl⟩
  have HSL : Hid (∀ k, k ≤ es.length → (pbH E O es.length ++ pbI (es.take k)).length = 6 + k * 2) := fun k hk => by rw [List.length_append, pbI_len, pbH_len, List.length_take, Nat.min_eq_left hk]
  have HSM : Hid (∀ k, k ≤ es.length → (pbH E O es.length ++ pbI (es.take es.length) ++ pbB (es.take k)).length = 6 + es.length * 2 + elets (es.take k) ∧ elets (es.take k) ≤ elets es) := fun k hk => ⟨by rw [List.length_append, List.length_append, pbI_len, pbH_len, pbB_len, List.take_length], elets_take_le es k⟩
  have HSS : Hid (∀ k, k < es.length → (pbH E O es.length ++ pbI (es.take k)) ++ [(es.getD k de).n, ((es.getD k de).ls.length : Int)] = pbH E O es.length ++ pbI (es.take (k + 1))) := fun k hk => by rw [pbI_succ es k hk, List.append_assoc]
  have HST : Hid (∀ k, k < es.length → (pbH E O es.length ++ pbI (es.take es.length) ++ pbB (es.take k)) ++ (es.getD k de).ls = pbH E O es.length ++ pbI (es.take es.length) ++ pbB (es.take (k + 1))) := fun k hk => by rw [pbB_succ es k hk, List.append_assoc]
  have HS0 : Hid (pbB (es.take 0) = [] ∧ True) := ⟨rfl, trivial⟩
  clear hb hp
  generalize hlen : es.length = n at *
  have HL : Hid (es.length = n ∧ True) := ⟨hlen, trivial⟩
  clear hlen
  have hzz : (w.alloc (Obj.cells #[Value.int IntKind.i64 E, Value.int IntKind.i64 O, Value.slice a n cap] 25)).cell? ⟨w.heap.size, 2, none⟩ = some (.slice a n cap) := by simp
  have HZS : Hid (w.heap.size + 1 = (w.alloc (Obj.cells #[Value.int IntKind.i64 E, Value.int IntKind.i64 O, Value.slice a n cap] 25)).heap.size ∧ True) := ⟨by simp, trivial⟩
  have HW : Hid (Below w.heap.size w (w.alloc (Obj.cells #[Value.int IntKind.i64 E, Value.int IntKind.i64 O, Value.slice a n cap] 25))) := (Below.refl _ _).alloc (Nat.le_refl _) _
  have he1 : 0 ≤ E / 256 ∧ E / 256 ≤ 255 := by omega
  have he2 : 0 ≤ E % 256 ∧ E % 256 ≤ 255 := by omega
  have ho1 : 0 ≤ O / 256 ∧ O / 256 ≤ 255 := by omega
  have ho2 : 0 ≤ O % 256 ∧ O % 256 ≤ 255 := by omega
  have HOV0 : Hid (OVB ((w.alloc (Obj.cells #[Value.int IntKind.i64 E, Value.int IntKind.i64 O, Value.slice a n cap] 25)).alloc (.cells #[.int .u8 80, .int .u8 (E / 256), .int .u8 (E % 256), .int .u8 (O / 256), .int .u8 (O % 256), .int .u8 n] 5)) (w.heap.size + 1) (.slice (some ⟨w.heap.size + 1, 0, none⟩) (pbH E O n ++ pbI (es.take 0)).length 6) (pbH E O n ++ pbI (es.take 0))) := by
    have h1 := build6 (w.alloc (Obj.cells #[Value.int IntKind.i64 E, Value.int IntKind.i64 O, Value.slice a n cap] 25)) 80 (E / 256) (E % 256) (O / 256) (O % 256) n (by omega) he1 he2 ho1 ho2 (by omega) (w.heap.size + 1) (by rw [HZS.out.1]; exact Nat.le_refl _)
    rw [HSB.out.2.1]
    rw [← HZS.out.1] at h1
    exact h1
  go_enter Tryz.func13, Tryz.ntmps13
  go_wp2
  have HB0 : Hid (Below (w.heap.size + 1) (w.alloc (Obj.cells #[Value.int IntKind.i64 E, Value.int IntKind.i64 O, Value.slice a n cap] 25)) ((w.alloc (Obj.cells #[Value.int IntKind.i64 E, Value.int IntKind.i64 O, Value.slice a n cap] 25)).alloc (.cells #[.int .u8 80, .int .u8 (E / 256), .int .u8 (E % 256), .int .u8 (O / 256), .int .u8 (O % 256), .int .u8 n] 5))) := (Below.refl _ _).alloc (by rw [← HZS.out.1]; exact Nat.le_refl _) _
  clear he1 he2 ho1 ho2
  generalize (w.alloc (Obj.cells #[Value.int IntKind.i64 E, Value.int IntKind.i64 O, Value.slice a n cap] 25)).alloc (.cells #[.int .u8 80, .int .u8 (E / 256), .int .u8 (E % 256), .int .u8 (O / 256), .int .u8 (O % 256), .int .u8 n] 5) = W0 at *
  generalize (w.alloc (Obj.cells #[Value.int IntKind.i64 E, Value.int IntKind.i64 O, Value.slice a n cap] 25)) = W at *
  go_loopw [3, 4] (fun v i wr => ∃ (k : Nat) (va : Option Addr) (vc : Nat), k ≤ n ∧ i = .int .i64 k ∧ v = .slice va (pbH E O n ++ pbI (es.take k)).length vc ∧ OVB wr (w.heap.size + 1) (.slice va (pbH E O n ++ pbI (es.take k)).length vc) (pbH E O n ++ pbI (es.take k)) ∧ Below (w.heap.size + 1) W wr) (fun _ i _ => n - (intOf i).toNat)
  case atStart => exact ⟨0, _, 6, Nat.zero_le _, rfl, by rw [HSL.out 0 (Nat.zero_le _)], HOV0.out, HB0.out⟩
  case round =>
    obtain ⟨k, va, vc, hk, rfl, rfl, hov, hbel⟩ := hrel
    have HR : Hid (Below (w.heap.size + 1) W wr ∧ Below w.heap.size w wr ∧ w.heap.size + 1 ≤ wr.heap.size) := ⟨hbel, HW.out.trans (hbel.mono (by omega)), by rw [HZS.out.1]; exact hbel.size⟩
    have p0 := keep hbel (by omega) hzz
    have HOV : Hid (OVB wr (w.heap.size + 1) (.slice va (pbH E O n ++ pbI (es.take k)).length vc) (pbH E O n ++ pbI (es.take k))) := hov
    have hsl := HSL.out k hk
    clear hbel hov HOV0 HB0
    by_cases hlt : k < n
    · obtain ⟨b, off, rfl, hbw, c00, c01, hby0, hrg0⟩ := HB.out.pen k (by rw [HL.out.1]; exact hlt)
      have c0 := keep HR.out.2.1 hbw c00
      have c1 := keep HR.out.2.1 hbw c01
      have hrg := HP.out.r k (by rw [HL.out.1]; exact hlt)
      have HE : Hid (_ ∧ True) := ⟨HSS.out k hlt, trivial⟩
      have HLT : Hid (w.heap.size < wr.heap.size ∧ b < wr.heap.size) := ⟨by have := HR.out.2.2; omega, by have := HR.out.2.2; omega⟩
      clear hby0 hrg0 HSS HSL HST HSM HSB HS0
      generalize es.getD k de = q at *
      obtain ⟨x, sa, sc, sl⟩ := q
      obtain ⟨⟨x1, x2⟩, y2⟩ := hrg
      simp only at c0 c1 c00 c01 x1 x2 y2 HE
      generalize pbH E O n ++ pbI (es.take k) = ls at *
      have hsl2 : ls.length ≤ 300 := by omega
      clear hsl
      have hwx : IntKind.u8.wrap x = x := IntWalk.u8_in _ (by omega)
      have hwy : IntKind.u8.wrap (sl.length : Int) = (sl.length : Int) := IntWalk.u8_in _ (by omega)
      have HWX : Hid (IntKind.u8.wrap x = x ∧ IntKind.u8.wrap (sl.length : Int) = (sl.length : Int)) := ⟨hwx, hwy⟩
      clear hwx hwy
      go_wp2
      refine wp_region_cut (S := fun W => W.cell? ⟨w.heap.size, 2, none⟩ = some (.slice (some ⟨b, off, none⟩) n cap) ∧ W.cell? ⟨b, off + k * 2, none⟩ = some (.int .i64 x) ∧ W.cell? ⟨b, off + k * 2 + 1, none⟩ = some (.slice sa sl.length sc)) 18 (by kernel_rfl) (by kernel_rfl) (by exact ⟨p0, c0, c1⟩) (fun hHeld => ?_)
      refine wpAnyH_take (i := 0) (v := ?_) rfl (by kernel_rfl) (by kernel_rfl) (by kernel_rfl) (fun _ _ _ h => h) (Or.inl ⟨by rfl, ?_⟩) (by assumption) ?_
      rotate_left 1
      · (intro w hSw; (try dsimp only at hSw); go_simp; try (with_reducible rfl))
      try simp only [List.getElem_toArray, List.getElem_cons_zero, List.getElem_cons_succ, Act.put, List.setIfInBounds_toArray, List.set_cons_zero, List.set_cons_succ]
      refine wpAnyH_take (i := 1) (v := ?_) rfl (by kernel_rfl) (by kernel_rfl) (by kernel_rfl) (fun _ _ _ h => h) (Or.inl ⟨by rfl, ?_⟩) (by assumption) ?_
      rotate_left 1
      · (intro w hSw; (try dsimp only at hSw); go_simp; try (with_reducible rfl))
      try simp only [List.getElem_toArray, List.getElem_cons_zero, List.getElem_cons_succ, Act.put, List.setIfInBounds_toArray, List.set_cons_zero, List.set_cons_succ]
      refine wpAnyH_take (i := 2) (v := ?_) rfl (by kernel_rfl) (by kernel_rfl) (by kernel_rfl) (fun _ _ _ h => h) (Or.inl ⟨by rfl, ?_⟩) (by assumption) ?_
      rotate_left 1
      · (intro w hSw; (try dsimp only at hSw); go_simp; try (with_reducible rfl))
      try simp only [List.getElem_toArray, List.getElem_cons_zero, List.getElem_cons_succ, Act.put, List.setIfInBounds_toArray, List.set_cons_zero, List.set_cons_succ]
      refine wpAnyH_take (i := 3) (v := ?_) rfl (by kernel_rfl) (by kernel_rfl) (by kernel_rfl) (fun _ _ _ h => h) (Or.inl ⟨by rfl, ?_⟩) (by assumption) ?_
      rotate_left 1
      · (intro w hSw; (try dsimp only at hSw); go_simp; try (with_reducible rfl))
      try simp only [List.getElem_toArray, List.getElem_cons_zero, List.getElem_cons_succ, Act.put, List.setIfInBounds_toArray, List.set_cons_zero, List.set_cons_succ]
      refine wpAnyH_take (i := 4) (v := ?_) rfl (by kernel_rfl) (by kernel_rfl) (by kernel_rfl) (fun _ _ _ h => h) (Or.inl ⟨by rfl, ?_⟩) (by assumption) ?_
      rotate_left 1
      · (intro w hSw; (try dsimp only at hSw); go_simp; try (with_reducible rfl))
      try simp only [List.getElem_toArray, List.getElem_cons_zero, List.getElem_cons_succ, Act.put, List.setIfInBounds_toArray, List.set_cons_zero, List.set_cons_succ]
      refine wpAnyH_take (i := 5) (v := ?_) rfl (by kernel_rfl) (by kernel_rfl) (by kernel_rfl) (fun _ _ _ h => h) (Or.inl ⟨by rfl, ?_⟩) (by assumption) ?_
      rotate_left 1
      · (intro w hSw; (try dsimp only at hSw); go_simp; try (with_reducible rfl))
      try simp only [List.getElem_toArray, List.getElem_cons_zero, List.getElem_cons_succ, Act.put, List.setIfInBounds_toArray, List.set_cons_zero, List.set_cons_succ]
      refine wpAnyH_take (i := 6) (v := ?_) rfl (by kernel_rfl) (by kernel_rfl) (by kernel_rfl) (fun _ _ _ h => h) (Or.inl ⟨by rfl, ?_⟩) (by assumption) ?_
      rotate_left 1
      · (intro w hSw; (try dsimp only at hSw); go_simp; try (with_reducible rfl))
      try simp only [List.getElem_toArray, List.getElem_cons_zero, List.getElem_cons_succ, Act.put, List.setIfInBounds_toArray, List.set_cons_zero, List.set_cons_succ]
      refine wpAnyH_take (i := 7) (v := ?_) rfl (by kernel_rfl) (by kernel_rfl) (by kernel_rfl) (fun _ _ _ h => h) (Or.inl ⟨by rfl, ?_⟩) (by assumption) ?_
      rotate_left 1
      · (intro w hSw; (try dsimp only at hSw); go_simp; try (with_reducible rfl))
      try simp only [List.getElem_toArray, List.getElem_cons_zero, List.getElem_cons_succ, Act.put, List.setIfInBounds_toArray, List.set_cons_zero, List.set_cons_succ]
      refine wpAnyH_take (i := 8) (v := ?_) rfl (by kernel_rfl) (by kernel_rfl) (by kernel_rfl) (fun _ _ _ h => h) (Or.inl ⟨by rfl, ?_⟩) (by assumption) ?_
      rotate_left 1
      · (intro w hSw; (try dsimp only at hSw); go_simp; try (with_reducible rfl))
      try simp only [List.getElem_toArray, List.getElem_cons_zero, List.getElem_cons_succ, Act.put, List.setIfInBounds_toArray, List.set_cons_zero, List.set_cons_succ]
      refine wpAnyH_take (i := 9) (v := ?_) rfl (by kernel_rfl) (by kernel_rfl) (by kernel_rfl) (fun _ _ _ h => h) (Or.inl ⟨by rfl, ?_⟩) (by assumption) ?_
      rotate_left 1
      · (intro w hSw; (try dsimp only at hSw); go_simp; try (with_reducible rfl))
      try simp only [List.getElem_toArray, List.getElem_cons_zero, List.getElem_cons_succ, Act.put, List.setIfInBounds_toArray, List.set_cons_zero, List.set_cons_succ]
      refine wpAnyH_take (i := 10) (v := ?_) rfl (by kernel_rfl) (by kernel_rfl) (by kernel_rfl) (fun _ _ _ h => h) (Or.inl ⟨by rfl, ?_⟩) (by assumption) ?_
      rotate_left 1
      · (intro w hSw; (try dsimp only at hSw); go_simp; try (with_reducible rfl))
      try simp only [List.getElem_toArray, List.getElem_cons_zero, List.getElem_cons_succ, Act.put, List.setIfInBounds_toArray, List.set_cons_zero, List.set_cons_succ]
      refine wpAnyH_take (i := 11) (v := ?_) rfl (by kernel_rfl) (by kernel_rfl) (by kernel_rfl) (fun _ _ _ h => h) (Or.inl ⟨by rfl, ?_⟩) (by assumption) ?_
      rotate_left 1
      · (intro w hSw; (try dsimp only at hSw); go_simp; try (with_reducible rfl))
      try simp only [List.getElem_toArray, List.getElem_cons_zero, List.getElem_cons_succ, Act.put, List.setIfInBounds_toArray, List.set_cons_zero, List.set_cons_succ]
      refine wpAnyH_take (i := 12) (v := ?_) rfl (by kernel_rfl) (by kernel_rfl) (by kernel_rfl) (fun _ _ _ h => h) (Or.inl ⟨by rfl, ?_⟩) (by assumption) ?_
      rotate_left 1
      · (intro w hSw; (try dsimp only at hSw); go_simp; try (with_reducible rfl))
      try simp only [List.getElem_toArray, List.getElem_cons_zero, List.getElem_cons_succ, Act.put, List.setIfInBounds_toArray, List.set_cons_zero, List.set_cons_succ]
      refine wpAnyH_take (i := 13) (v := ?_) rfl (by kernel_rfl) (by kernel_rfl) (by kernel_rfl) (fun _ _ _ h => h) (Or.inl ⟨by rfl, ?_⟩) (by assumption) ?_
      rotate_left 1
      · (intro w hSw; (try dsimp only at hSw); go_simp; try (with_reducible rfl))
      try simp only [List.getElem_toArray, List.getElem_cons_zero, List.getElem_cons_succ, Act.put, List.setIfInBounds_toArray, List.set_cons_zero, List.set_cons_succ]
      refine wpAnyH_take (i := 14) (v := ?_) rfl (by kernel_rfl) (by kernel_rfl) (by kernel_rfl) (fun _ _ _ h => h) (Or.inl ⟨by rfl, ?_⟩) (by assumption) ?_
      rotate_left 1
      · (intro w hSw; (try dsimp only at hSw); go_simp; try (with_reducible rfl))
      try simp only [List.getElem_toArray, List.getElem_cons_zero, List.getElem_cons_succ, Act.put, List.setIfInBounds_toArray, List.set_cons_zero, List.set_cons_succ]
      refine wpAnyH_take (i := 15) (v := ?_) rfl (by kernel_rfl) (by kernel_rfl) (by kernel_rfl) (fun _ _ _ h => h) (Or.inl ⟨by rfl, ?_⟩) (by assumption) ?_
      rotate_left 1
      · (intro w hSw; (try dsimp only at hSw); go_simp; try (with_reducible rfl))
      try simp only [List.getElem_toArray, List.getElem_cons_zero, List.getElem_cons_succ, Act.put, List.setIfInBounds_toArray, List.set_cons_zero, List.set_cons_succ]
      refine wpAnyH_ready (rs := [16]) (by kernel_rfl) (by simp) ?_
      refine AllReadyH.cons rfl (fun K hK => ?_) AllReadyH.nil
      go_simp
      refine hK.out _ _ (by exact ⟨keepA _ (by exact HLT.out.1) p0, keepA _ (by exact HLT.out.2) c0, keepA _ (by exact HLT.out.2) c1⟩) (fun hHeld => ?_)
      clear hK K
      try simp only [List.getElem_toArray, List.getElem_cons_zero, List.getElem_cons_succ, Act.put, List.setIfInBounds_toArray, List.set_cons_zero, List.set_cons_succ]
      refine wpAnyH_ready (rs := [17]) (by kernel_rfl) (by simp) ?_
      refine AllReadyH.cons rfl (fun K hK => ?_) AllReadyH.nil
      refine wanted_step rfl (wp_append_byt (.tmp 32) (.tmp 48) rfl (w.heap.size + 1) (.slice va ls.length vc) ls (by simp [Act.eval]) (by exact HOV.out.alloc _) (some ⟨wr.heap.size, 0, none⟩) 2 [x, (sl.length : Int)] (by simp [Act.eval]) (by rw [HWX.out.1, HWX.out.2]; exact byt_twoP wr x sl.length ⟨x1, by omega⟩ ⟨by omega, by omega⟩) (by simp; omega) (by have := HLT.out.1; simp; omega) ?_)
      intro v1 w1 hov1 hg1
      have hb1' : Below (w.heap.size + 1) W w1 := by exact appB_below ((HR.out.1.alloc (by have := HLT.out.1; omega) _).drew) (by have := HLT.out.1; simp; omega) (show OVB _ _ _ ls from HOV.out.alloc _) hg1
      obtain ⟨va1, vc1, hv1⟩ := hov1.form
      rw [HE.out.1] at hov1 hv1
      subst hv1
      have HN1 : Hid (OVB w1 (w.heap.size + 1) (.slice va1 (pbH E O n ++ pbI (es.take (k + 1))).length vc1) (pbH E O n ++ pbI (es.take (k + 1))) ∧ Below (w.heap.size + 1) W w1) := ⟨hov1, hb1'⟩
      have hbz : Below w.heap.size w w1 := HW.out.trans (hb1'.mono (by omega))
      refine hK.out _ _ (by exact ⟨keep hb1' (by omega) hzz, keep hbz hbw c00, keep hbz hbw c01⟩) (fun hHeld => ?_)
      clear hK K
      try simp only [List.getElem_toArray, List.getElem_cons_zero, List.getElem_cons_succ, Act.put, List.setIfInBounds_toArray, List.set_cons_zero, List.set_cons_succ]
      refine wpAnyH_done (by kernel_rfl) ?_ _
      simp only [cutQ, List.drop_succ_cons, List.drop_zero]
      clear hHeld hg1 hov1 hb1' hbz
      go_wp2
      go_roundw
      case rel => exact ⟨k + 1, va1, vc1, by omega, by go_num, by first | rfl | simp [Nat.add_assoc], HN1.out.1, HN1.out.2⟩
      case measure => simp [intOf]; omega
    · have hkn : k = n := by omega
      subst hkn
      have HOV2 : Hid (OVB wr (w.heap.size + 1) (.slice va (pbH E O k ++ pbI (es.take k) ++ pbB (es.take 0)).length vc) (pbH E O k ++ pbI (es.take k) ++ pbB (es.take 0))) := by
        rw [HS0.out.1, List.append_nil]
        exact HOV.out
      have hl0 : (pbH E O k ++ pbI (es.take k)).length = (pbH E O k ++ pbI (es.take k) ++ pbB (es.take 0)).length := by rw [HS0.out.1, List.append_nil]
      rw [hl0]
      clear hl0 HOV HSS HSL hk hlt hsl
      go_wp2
      go_loopw [3, 5] (fun v i wr2 => ∃ (j : Nat) (vb : Option Addr) (vd : Nat), j ≤ k ∧ i = .int .i64 j ∧ v = .slice vb (pbH E O k ++ pbI (es.take k) ++ pbB (es.take j)).length vd ∧ OVB wr2 (w.heap.size + 1) (.slice vb (pbH E O k ++ pbI (es.take k) ++ pbB (es.take j)).length vd) (pbH E O k ++ pbI (es.take k) ++ pbB (es.take j)) ∧ Below (w.heap.size + 1) W wr2) (fun _ i _ => k - (intOf i).toNat)
      case atStart => exact ⟨0, _, vc, Nat.zero_le _, rfl, rfl, HOV2.out, HR.out.1⟩
      case round =>
        clear HOV2 p0
        obtain ⟨j, vb, vd, hj, rfl, rfl, hov, hbel⟩ := hrel
        have HR2 : Hid (Below (w.heap.size + 1) W wr ∧ Below w.heap.size w wr ∧ w.heap.size + 1 ≤ wr.heap.size) := ⟨hbel, HW.out.trans (hbel.mono (by omega)), by rw [HZS.out.1]; exact hbel.size⟩
        have p0 := keep hbel (by omega) hzz
        have HOV : Hid (OVB wr (w.heap.size + 1) (.slice vb (pbH E O k ++ pbI (es.take k) ++ pbB (es.take j)).length vd) (pbH E O k ++ pbI (es.take k) ++ pbB (es.take j))) := hov
        obtain ⟨hsl, hsm⟩ := HSM.out j hj
        have hszb : elets es ≤ 256 := by have := HSB.out.2.2; omega
        clear hbel hov
        by_cases hlt : j < k
        · obtain ⟨b, off, rfl, hbw, c00, c01, hby0, hrg0⟩ := HB.out.pen j (by rw [HL.out.1]; exact hlt)
          have c0 := keep HR2.out.2.1 hbw c00
          have c1 := keep HR2.out.2.1 hbw c01
          have hrg := HP.out.r j (by rw [HL.out.1]; exact hlt)
          have HE : Hid (_ ∧ True) := ⟨HST.out j hlt, trivial⟩
          have HBY : Hid (Byt wr (es.getD j de).a (es.getD j de).ls ∧ b < wr.heap.size) := ⟨hby0.below HR2.out.2.1 (Nat.le_refl _), by have := HR2.out.2.2; omega⟩
          clear hby0 hrg0 HST HSM HSB HS0 c00 c01
          generalize es.getD j de = q at *
          obtain ⟨x, sa, sc, sl⟩ := q
          obtain ⟨-, y2⟩ := hrg
          simp only at c0 c1 y2 HE HBY
          generalize pbH E O k ++ pbI (es.take k) ++ pbB (es.take j) = ls at *
          have hsl2 : ls.length ≤ 400 := by omega
          clear hsl
          go_wp2_with (at_builtin; (refine wpList_append_byt rfl (.tmp 57) (.tmp 63) rfl (w.heap.size + 1) (.slice vb ls.length vd) ls (by simp [Act.eval]) (HOV.out) sa sc sl (by simp [Act.eval]) (HBY.out.1) (by omega) (by have := HR2.out.2.2; first | exact this | (simp; omega)) ?_; intro v1 w1 hov1 hg1; have hb1' : Below (w.heap.size + 1) W w1 := appB_below (HR2.out.1) (by have := HR2.out.2.2; first | exact this | (simp; omega)) (show OVB _ _ _ ls from HOV.out) hg1; obtain ⟨va1, vc1, hv1⟩ := hov1.form; rw [HE.out.1] at hov1 hv1; subst hv1; have HN1 : Hid (OVB w1 (w.heap.size + 1) (.slice va1 (pbH E O k ++ pbI (es.take k) ++ pbB (es.take (j + 1))).length vc1) (pbH E O k ++ pbI (es.take k) ++ pbB (es.take (j + 1))) ∧ Below (w.heap.size + 1) W w1) := ⟨hov1, hb1'⟩; clear hov1 hg1 hb1'))
          go_wp2
          go_roundw
          case rel => exact ⟨j + 1, va1, vc1, by omega, by go_num, by first | rfl | simp [Nat.add_assoc], HN1.out.1, HN1.out.2⟩
          case measure => simp [intOf]; omega
        · have hjk : j = k := by omega
          subst hjk
          have hpz := HP.out.z
          have hsub : (256 : Int) - ((pbH E O j ++ pbI (es.take j) ++ pbB (es.take j)).length : Int) = ((256 - szP es : Nat) : Int) := by
            have h1 := HSB.out.2.2
            have h2 : elets (es.take j) = elets es := by rw [← HL.out.1, List.take_length]
            omega
          have HZ : Hid (pkL E O es = (pbH E O j ++ pbI (es.take j) ++ pbB (es.take j)) ++ List.replicate (256 - szP es) 0 ∧ True) := ⟨HSB.out.1, trivial⟩
          clear HSB HST HSM HS0 hsm
          generalize pbH E O j ++ pbI (es.take j) ++ pbB (es.take j) = ls at *
          have hsl2 : ls.length ≤ 400 ∧ 0 < ls.length ∧ ls.length + (256 - szP es) ≤ 1000000 := by omega
          have hsub2 : (256 : Int) - (ls.length : Int) = ((256 - szP es : Nat) : Int) := hsub
          clear hsl hsub hpz
          generalize 256 - szP es = m at *
          go_wp2_with (at_builtin; refine wpList_append_zerB rfl _ _ rfl (w.heap.size + 1) (.slice vb ls.length vd) ls (by simp [Act.eval]) HOV.out m (by first | (simp [Act.eval]; done) | (simp [Act.eval]; exact hsub2)) hsl2.2.1 hsl2.2.2 HR2.out.2.2 ?_; intro v1 w1 hov1 hg1)
          have HF : Hid (OVB w1 w.heap.size v1 (pkL E O es) ∧ Below w.heap.size w w1) := ⟨by rw [HZ.out.1]; exact hov1.weak (by omega), appB_below HR2.out.2.1 (by have := HR2.out.2.2; omega) (HOV.out.weak (by omega)) hg1⟩
          clear hov1 hg1
          go_ret
          exact ⟨⟨_, rfl, HF.out.1⟩, HF.out.2⟩
end Go.Proofs.YtjeippleimlljaaGreatDoor
