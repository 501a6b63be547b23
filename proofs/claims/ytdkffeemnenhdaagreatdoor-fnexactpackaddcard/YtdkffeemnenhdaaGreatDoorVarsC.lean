/-
  Named variables, one behind the other.
-/
import Derived.Test.YtdkffeemnenhdaaGreatDoorNum
import Derived.Test.YtdkffeemnenhdaaGreatDoorItTo
import Derived.Test.YtdkffeemnenhdaaGreatDoorItSz
import Derived.Deep.RegionHeld3
import Derived.Test.YtdkffeemnenhdaaGreatDoorPkS
import Derived.Test.YtdkffeemnenhdaaGreatDoorRows
import Derived.WalkKit
import Derived.ProofKit
import Derived.OpenShut
import Derived.ShutString
import Derived.ChangeOld
import Derived.Below
import Derived.Lib.SmallJoins
import Derived.Test.YtdkffeemnenhdaaGreatDoorPkM
import Derived.Deep.Slices
import Derived.Deep.Strs
import Derived.ChangeSame
import Derived.Test.YtdkffeemnenhdaaGreatDoorCards
import Derived.Test.YtdkffeemnenhdaaGreatDoorTie
import Derived.LaidMore
import Derived.Stop.Joined
import Derived.Stop.LaidErr
import Derived.WalkSmall
import Derived.SevenTiedAt
namespace Go.Proofs.YtdkffeemnenhdaaGreatDoor
open Go.RowKit
set_option linter.unusedVariables false

set_option maxHeartbeats 800000 in
theorem eqByteS_any (a b : Option Addr) (ca cb : Nat) (xs ys : List Int) (w : World) (ha : Byt w a xs) (hb : Byt w b ys) (hx : xs.length ≤ 281474976710656) (hy : ys.length ≤ 281474976710656) :
    Calls Tryz.prog 28 #[.slice a xs.length ca, .slice b ys.length cb] w fun e w' => e = .returned (.bool (decide (xs = ys))) ∧ ∃ n, w' = w.drewN n := by
  by_cases hl : xs.length = ys.length
  · generalize hlx : xs.length = n at *
    have HX : Hid (xs.length = n) := hlx
    have HY : Hid (ys.length = n) := hl.symm
    rw [← hl]
    have hnn : ((n : Int) != (n : Int)) = false := by simp
    clear hlx hl hy
    go_enter Tryz.func28, Tryz.ntmps28
    go_wp2
    go_loopw [5] (fun i wr => ∃ k m : Nat, k ≤ n ∧ i = .int .i64 k ∧ wr = w.drewN m ∧ xs.take k = ys.take k) (fun i _ => n - (intOf i).toNat)
    case atStart => exact ⟨0, 0, Nat.zero_le _, rfl, rfl, by simp⟩
    case round =>
      obtain ⟨k, m, hk, rfl, rfl, htk⟩ := hrel
      have HT : Hid (xs.take k = ys.take k) := htk
      clear htk
      by_cases hlt : k < n
      · obtain ⟨b1, o1, rfl, hb1, hc1⟩ := ha.len_pos k (by rw [HX.out]; exact hlt)
        obtain ⟨b2, o2, rfl, hb2, hc2⟩ := hb.len_pos k (by rw [HY.out]; exact hlt)
        have hs1 := hc1 k (by rw [HX.out]; exact hlt)
        have hs2 := hc2 k (by rw [HY.out]; exact hlt)
        have g1 := getD_rng ha.1 k
        have g2 := getD_rng hb.1 k
        clear hc1 hc2 ha hb
        generalize hx1 : xs.getD k 0 = x1 at *
        generalize hy1 : ys.getD k 0 = y1 at *
        have HX1 : Hid (xs.getD k 0 = x1) := hx1
        have HY1 : Hid (ys.getD k 0 = y1) := hy1
        clear hx1 hy1
        by_cases hxy : x1 = y1
        · subst hxy
          have hq : (x1 != x1) = false := by simp
          have HT' : Hid (xs.take (k + 1) = ys.take (k + 1)) := take_eq_succ HT.out (by rw [HX.out]; exact hlt) (by rw [HY.out]; exact hlt) (by rw [HX1.out, HY1.out])
          go_wp2
          go_quiet (fail)
          go_wp2
          go_roundw
          case rel => exact ⟨k + 1, _, by omega, by go_num, rfl, HT'.out⟩
          case measure => simp [intOf]; omega
        · have hq : (x1 != y1) = true := by rw [bne_iff_ne]; exact hxy
          have HN : Hid (decide (xs = ys) = false) := by
            have : xs ≠ ys := ne_of_getD (k := k) (by rw [HX1.out, HY1.out]; exact hxy)
            simpa [Hid] using this
          clear hxy
          go_wp2
          go_quiet (fail)
          go_wp2
          go_ret
          exact ⟨by rw [HN.out]; rfl, _, World.drewN_drewN ..⟩
      · have HE : Hid (decide (xs = ys) = true) := by
          have h1 := HT.out
          rw [List.take_of_length_le (by rw [HX.out]; omega), List.take_of_length_le (by rw [HY.out]; omega)] at h1
          simpa [Hid] using h1
        go_wp2
        go_ret
        exact ⟨by rw [HE.out]; rfl, _, rfl⟩
  · have hne : decide (xs = ys) = false := by simp; intro h; exact hl (by rw [h])
    have hl' : ((xs.length : Int) != (ys.length : Int)) = true := by rw [bne_iff_ne]; omega
    rw [hne]
    go_enter Tryz.func28, Tryz.ntmps28
    go_wp2
    go_ret
    exact ⟨rfl, 0, rfl⟩

theorem eqByteS_yes (a b : Option Addr) (ca cb : Nat) (xs : List Int) (w : World) (ha : Byt w a xs) (hb : Byt w b xs) (hx : xs.length ≤ 281474976710656) :
    Calls Tryz.prog 28 #[.slice a xs.length ca, .slice b xs.length cb] w fun e w' => e = .returned (.bool true) ∧ ∃ n, w' = w.drewN n := by
  refine (eqByteS_any a b ca cb xs xs w ha hb hx hx).mono ?_
  rintro e w' ⟨rfl, h⟩
  exact ⟨by simp, h⟩

end Go.Proofs.YtdkffeemnenhdaaGreatDoor
namespace Go.Proofs.YtdkffeemnenhdaaGreatDoor
open Go.RowKit
set_option linter.unusedVariables false

theorem below_dI {w W : World} {B : Nat} (h : Below B w W) (n : Nat) : Below B w (W.drewN n) := ⟨h.os, h.tape, h.output, h.size, h.block⟩

set_option maxHeartbeats 800000 in
theorem eqItem_yes (a b : Option Addr) (ca cb : Nat) (xs : List Int) (n : Int) (w : World) (ha : Byt w a xs) (hb : Byt w b xs) (hx : xs.length ≤ 281474976710656) :
    Calls Tryz.prog 20 #[.agg #[.int .i64 n, .slice a xs.length ca], .agg #[.int .i64 n, .slice b xs.length cb]] w fun e w' => e = .returned (.bool true) ∧ Below w.heap.size w w' := by
  have hw : Below w.heap.size w ((w.alloc (Obj.cells #[Value.int IntKind.i64 n, Value.slice a xs.length ca] 40)).alloc (Obj.cells #[Value.int IntKind.i64 n, Value.slice b xs.length cb] 40)) := ((Below.refl _ _).alloc (Nat.le_refl _) _).alloc (by simp) _
  have hnn : (n != n) = false := by simp
  go_enter Tryz.func20, Tryz.ntmps20
  go_wp2_with fail
  refine (eqByteS_yes a b ca cb xs _ (ha.below hw (Nat.le_refl _)) (hb.below hw (Nat.le_refl _)) hx).mono ?_
  rintro e w1 ⟨rfl, nq, rfl⟩
  go_wp2
  go_ret
  exact ⟨rfl, below_dI hw _⟩

set_option maxHeartbeats 1600000 in
theorem eqItemS_yes (a b : Option Addr) (ca cb : Nat) (ss ts : List El) (w : World) (ha : Els true w a ss) (hb : Els true w b ts) (hct : ss.map El.ct = ts.map El.ct) (hx : ss.length ≤ 281474976710656) (hxl : ∀ s ∈ ss, s.ls.length ≤ 281474976710656) :
    Calls Tryz.prog 42 #[.slice a ss.length ca, .slice b ss.length cb] w fun e w' => e = .returned (.bool true) ∧ Below w.heap.size w w' := by
  have htl : ts.length = ss.length := by have := congrArg List.length hct; simpa using this.symm
  have HA : Hid (Els true w a ss) := ha
  have HB : Hid (Els true w b ts) := hb
  have HCT : Hid (ss.map El.ct = ts.map El.ct ∧ ts.length = ss.length) := ⟨hct, htl⟩
  have HXL : Hid (∀ s ∈ ss, s.ls.length ≤ 281474976710656) := hxl
  clear ha hb hct htl hxl
  generalize hlen : ss.length = n at *
  have HL : Hid (ss.length = n ∧ True) := ⟨hlen, trivial⟩
  clear hlen
  have hnn : ((n : Int) != (n : Int)) = false := by simp
  go_enter Tryz.func42, Tryz.ntmps42
  go_wp2
  go_loopw [5] (fun i wr => ∃ k : Nat, k ≤ n ∧ i = .int .i64 k ∧ Below w.heap.size w wr) (fun i _ => n - (intOf i).toNat)
  case atStart => exact ⟨0, Nat.zero_le _, rfl, Below.refl _ _⟩
  case round =>
    obtain ⟨k, hk, rfl, hbel⟩ := hrel
    by_cases hlt : k < n
    · obtain ⟨b1, o1, rfl, hb1, c0, c1, hy1, -⟩ := (HA.out.below hbel (Nat.le_refl _)).pen k (by rw [HL.out.1]; exact hlt)
      obtain ⟨b2, o2, rfl, hb2, d0, d1, hy2, -⟩ := (HB.out.below hbel (Nat.le_refl _)).pen k (by rw [HCT.out.2]; exact hlt)
      have hml := HXL.out _ (getD_memE (k := k) (by rw [HL.out.1]; exact hlt))
      have hce := ctE_get HCT.out.1 k
      generalize ss.getD k de = s at *
      generalize ts.getD k de = t at *
      obtain ⟨sn, sa, sc, sl⟩ := s
      obtain ⟨tn, ta, tc, tl⟩ := t
      simp only [El.ct, Prod.mk.injEq] at hce
      obtain ⟨rfl, rfl⟩ := hce
      simp only at c0 c1 d0 d1 hy1 hy2 hml
      have HY1 : Hid (Byt wr sa sl) := hy1
      have HY2 : Hid (Byt wr ta sl) := hy2
      have HML : Hid (sl.length ≤ 281474976710656) := hml
      have HC : Hid (wr.cell? ⟨b1, o1 + k * 2, none⟩ = some (.int .i64 sn) ∧ wr.cell? ⟨b1, o1 + k * 2 + 1, none⟩ = some (.slice sa sl.length sc) ∧ wr.cell? ⟨b2, o2 + k * 2, none⟩ = some (.int .i64 sn) ∧ wr.cell? ⟨b2, o2 + k * 2 + 1, none⟩ = some (.slice ta sl.length tc)) := ⟨c0, c1, d0, d1⟩
      clear hy1 hy2 hml c0 c1 d0 d1
      go_wp2_with fail
      go_region_held3 (fun W => W.cell? ⟨b1, o1 + k * 2, none⟩ = some (.int .i64 sn) ∧ W.cell? ⟨b1, o1 + k * 2 + 1, none⟩ = some (.slice sa sl.length sc) ∧ W.cell? ⟨b2, o2 + k * 2, none⟩ = some (.int .i64 sn) ∧ W.cell? ⟨b2, o2 + k * 2 + 1, none⟩ = some (.slice ta sl.length tc))
        (first | exact HC.out | exact HC8.out)
        (first
          | (go_at_call 20; refine (eqItem_yes sa ta sc tc sl sn _ (by exact HY1.out) (by exact HY2.out) HML.out).mono ?_; rintro e w8 ⟨rfl, hb8'⟩; have HB8 : Hid (Below w.heap.size w w8) := hbel.trans ((Below.drewS hb8').mono hbel.size); have HC8 : Hid (w8.cell? ⟨b1, o1 + k * 2, none⟩ = some (.int .i64 sn) ∧ w8.cell? ⟨b1, o1 + k * 2 + 1, none⟩ = some (.slice sa sl.length sc) ∧ w8.cell? ⟨b2, o2 + k * 2, none⟩ = some (.int .i64 sn) ∧ w8.cell? ⟨b2, o2 + k * 2 + 1, none⟩ = some (.slice ta sl.length tc)) := ⟨keep (Below.drewS hb8') hb1 HC.out.1, keep (Below.drewS hb8') hb1 HC.out.2.1, keep (Below.drewS hb8') hb2 HC.out.2.2.1, keep (Below.drewS hb8') hb2 HC.out.2.2.2⟩; clear hb8'))
      clear HC HC8
      go_wp2
      go_roundw
      case rel => exact ⟨k + 1, by omega, by go_num, HB8.out⟩
      case measure => simp [intOf]; omega
    · have hkn : k = n := by omega
      subst hkn
      go_wp2
      go_ret
      exact ⟨rfl, hbel⟩

set_option maxHeartbeats 1600000 in
theorem eqPack_yes (E O : Int) (a b : Option Addr) (ca cb : Nat) (ss ts : List El) (w : World) (ha : Els true w a ss) (hb : Els true w b ts) (hct : ss.map El.ct = ts.map El.ct) (hx : FewI ss) :
    Calls Tryz.prog 13 #[.agg #[.int .i64 E, .int .i64 O, .slice a ss.length ca], .agg #[.int .i64 E, .int .i64 O, .slice b ss.length cb]] w fun e w' => e = .returned (.bool true) ∧ Below w.heap.size w w' := by
  have hw : Below w.heap.size w ((w.alloc (Obj.cells #[Value.int IntKind.i64 E, Value.int IntKind.i64 O, Value.slice a ss.length ca] 29)).alloc (Obj.cells #[Value.int IntKind.i64 E, Value.int IntKind.i64 O, Value.slice b ss.length cb] 29)) := ((Below.refl _ _).alloc (Nat.le_refl _) _).alloc (by simp) _
  have HE := eqItemS_yes a b ca cb ss ts _ (ha.below hw (Nat.le_refl _)) (hb.below hw (Nat.le_refl _)) hct (by have := hx.n; omega) (fun s hs => by have := hx.l s hs; omega)
  have hE : (E != E) = false := by simp
  have hO : (O != O) = false := by simp
  clear ha hb hct hx
  go_enter Tryz.func13, Tryz.ntmps13
  go_wp2_with fail
  refine HE.mono ?_
  clear HE
  rintro e w1 ⟨rfl, hb1⟩
  have HB1 : Hid (Below w.heap.size w w1) := hw.trans (hb1.mono (by simp; omega))
  clear hw hb1
  go_wp2
  go_ret
  exact ⟨rfl, HB1.out⟩
end Go.Proofs.YtdkffeemnenhdaaGreatDoor
namespace Go.Proofs.YtdkffeemnenhdaaGreatDoor
open Go.RowKit
set_option linter.unusedVariables false

theorem FewI.j {es : List El} (h : FewI es) : FewJ es := ⟨h.n, h.l, by have := h.sum; omega⟩
/-- Two copies of one pack are equal. -/
theorem eqPack_two (E O : Int) (a b : Option Addr) (es us vs : List El) {B B' : Nat} (w : World) (hu : CopT w B (.slice a es.length es.length) us es) (hv : CopT w B' (.slice b es.length es.length) vs es) (hx : FewI es) :
    Calls Tryz.prog 13 #[.agg #[.int .i64 E, .int .i64 O, .slice a es.length es.length], .agg #[.int .i64 E, .int .i64 O, .slice b es.length es.length]] w fun e w' => e = .returned (.bool true) ∧ Below w.heap.size w w' := by
  have := eqPack_yes E O a b es.length es.length us vs w hu.its.els hv.its.els (hu.ct.trans hv.ct.symm) (hx.ct hu.ct)
  rw [len_ctE hu.ct] at this
  exact this
end Go.Proofs.YtdkffeemnenhdaaGreatDoor
namespace Go.Proofs.YtdkffeemnenhdaaGreatDoor
open Go.ChangeShapes Go.WideShapes Go.ChangeAt Go.RowKit Go.Joins
set_option linter.unusedVariables false

theorem Tryz.own : ownKnob Tryz.prog.godebug = none := by kernel_rfl
theorem Tryz.laidOut : laidOutB Tryz.prog = true := by kernel_rfl

/-- A slice of bytes that came in reads as some bytes. -/
theorem byt_of_trod {H : Type} {enc : TypeId × Value → H} {W : World} {fuel : Nat} {v : Value} {y : DataW H × List MemPlace}
    (h : DataW.trod enc Tryz.prog W 0 (fun _ => true) true fuel 34 [v] = some y) :
    ∃ (a : Option Addr) (zs : List Int) (cap : Nat), v = .slice a zs.length cap ∧ Byt W a zs ∧ zs.length ≤ maxLen := by
  rcases open_ints Tryz.underlying34 Tryz.underlying5 (by kernel_rfl) h with ⟨hcs, _⟩ | ⟨x, l, c, zs, hcs, _, hl, hm, hz, _, hcell, hwz⟩
  · simp at hcs
    subst hcs
    exact ⟨.none, [], 0, rfl, ⟨by simp, by simp⟩, by simp [maxLen]⟩
  · simp at hcs
    subst hcs
    simp only [if_true] at hz
    have hlen : (zs.take l).length = l := by rw [List.length_take]; omega
    refine ⟨some x, zs.take l, c, by rw [hlen], ⟨?_, ?_⟩, by rw [hlen]; omega⟩
    · intro z hz'
      have := hwz z (List.mem_of_mem_take hz')
      simp [Lit.wf] at this
      exact bounds_u8 (hwz z (List.mem_of_mem_take hz'))
    · intro hp
      rw [hlen] at hp
      obtain ⟨b, off, spot⟩ := x
      have hc := hcell 0 (by omega)
      have hspot : spot = .none := by simpa [Addr.add] using World.cell?_spot hc
      subst hspot
      refine ⟨b, off, rfl, ?_, fun i hi => ?_⟩
      · have := World.block_lt_of_cell? _ _ hc
        simpa [Addr.add] using this
      · rw [hlen] at hi
        have := hcell i (by omega)
        have hadd : (⟨b, off, .none⟩ : Addr).add i = ⟨b, off + i, .none⟩ := by unfold Addr.add; split <;> simp_all
        rw [hadd] at this
        rw [show (zs.take l).getD i 0 = zs.getD i 0 from by simp [hi]]
        exact this

end Go.Proofs.YtdkffeemnenhdaaGreatDoor
namespace Go.Proofs.YtdkffeemnenhdaaGreatDoor
open Go.ChangeShapes Go.WideShapes Go.ChangeAt Go.RowKit Go.Joins
set_option linter.unusedVariables false

theorem Tryz.cellsLItem : Tryz.prog.cellsOf 36 = 2 := by kernel_rfl
theorem Tryz.cellsIBs : Tryz.prog.cellsOf 34 = 1 := by kernel_rfl
theorem Tryz.cellsIInt : Tryz.prog.cellsOf 3 = 1 := by kernel_rfl

set_option maxRecDepth 20000 in
theorem item_of_trod {H : Type} {enc : TypeId × Value → H} {W : World} {n : Nat} {cs : List Value} {x : DataW H × List MemPlace} {b off : Nat} (hl : cs.length = 2) (hc : ∀ i, i < 2 → W.cell? ⟨b, off + i, none⟩ = cs[i]?)
    (h : DataW.trod enc Tryz.prog W 0 (fun _ => true) true n 36 cs = some x) : ∃ e : El, LieE true W b off e ∧ rE true e ∧ Byt W e.a e.ls := by
  obtain ⟨y0, y1, k, -, -, g0, g1⟩ := trod_struct2 Tryz.underlying36 h
  match cs, hl with
  | [v0, v1], _ =>
    have g0' : DataW.trod enc Tryz.prog W 0 (fun _ => true) true k 3 [v0] = some y0 := by
      have := g0
      simp only [Tryz.cellsIInt] at this
      exact this
    have g1' : DataW.trod enc Tryz.prog W 0 (fun _ => true) true k 34 [v1] = some y1 := by
      have := g1
      simp only [Tryz.cellsIBs] at this
      exact this
    obtain ⟨N, e1, _, w1⟩ := DataW.trod_int Tryz.underlying3 g0'
    obtain ⟨a, zs, cap, rfl, hb, hm⟩ := byt_of_trod g1'
    simp at e1
    subst e1
    have h0 := hc 0 (by omega)
    have h1 := hc 1 (by omega)
    simp at h0 h1
    have hr := bounds_i64 w1
    exact ⟨⟨N, a, cap, zs⟩, ⟨fun _ => h0, h1⟩, ⟨hr.1, hr.2, hm, by simp⟩, hb⟩
/-- A slice of such that came in reads as some. -/
theorem its_of_trod (p : Bool) {T S : TypeId} (hT : Tryz.prog.underlying S = some (.slice T)) (hcell : Tryz.prog.cellsOf T = eW p) {H : Type} {enc : TypeId × Value → H} {W : World} {fuel : Nat} {v : Value} {y : DataW H × List MemPlace}
    (one : ∀ {n : Nat} {cs : List Value} {x : DataW H × List MemPlace} {b off : Nat}, cs.length = eW p → (∀ i, i < eW p → W.cell? ⟨b, off + i, none⟩ = cs[i]?) → DataW.trod enc Tryz.prog W 0 (fun _ => true) true n T cs = some x → ∃ e : El, LieE p W b off e ∧ rE p e ∧ Byt W e.a e.ls)
    (h : DataW.trod enc Tryz.prog W 0 (fun _ => true) true fuel S [v] = some y) :
    ∃ (a : Option Addr) (ss : List El) (cap : Nat), v = .slice a ss.length cap ∧ Els p W a ss ∧ ss.length ≤ maxLen := by
  rcases Go.Deep.open_slice hT h with ⟨hcs, _⟩ | ⟨x, l, c, m, n, D, Pl, hcs, _, hl, hm, hmm, _, hx⟩
  · simp at hcs
    subst hcs
    exact ⟨none, [], 0, rfl, ⟨by simp, by simp⟩, by simp⟩
  · simp at hcs
    subst hcs
    simp only [if_true] at hmm
    subst hmm
    rw [hcell] at hx
    have hw : 0 < eW p := by cases p <;> simp [eW]
    by_cases hl0 : l = 0
    · subst hl0
      exact ⟨some x, [], m, rfl, ⟨by simp, by simp⟩, by simp⟩
    · obtain ⟨b, off, spot⟩ := x
      obtain ⟨cs0, h0, _⟩ := hx 0 (by omega)
      obtain ⟨_, hlen0, hcell0⟩ := World.cells?_some h0
      have hc0 := hcell0 0 (by omega)
      have hspot : spot = none := by
        rw [List.getElem?_eq_getElem (by omega)] at hc0
        simpa [Addr.add] using World.cell?_spot hc0
      subst hspot
      have hblk : b < W.heap.size := by
        rw [List.getElem?_eq_getElem (by omega)] at hc0
        have := World.block_lt_of_cell? _ _ hc0
        simpa [Addr.add] using this
      have hadd : ∀ o i : Nat, (⟨b, o, none⟩ : Addr).add i = ⟨b, o + i, none⟩ := fun o i => by unfold Addr.add; split <;> simp_all
      have each : ∀ i, i < l → ∃ e : El, LieE p W b (off + i * eW p) e ∧ rE p e ∧ Byt W e.a e.ls := by
        intro i hi
        obtain ⟨cs', h1, h2⟩ := hx i (by omega)
        obtain ⟨_, hlen, hcell⟩ := World.cells?_some h1
        refine one hlen (fun j hj => ?_) h2
        have := hcell j hj
        rw [hadd, hadd] at this
        exact this
      haveI : Inhabited El := ⟨de⟩
      obtain ⟨f, hf⟩ := Go.Deep.choose_lt each
      have hlen : ((List.range l).map f).length = l := by simp
      refine ⟨some ⟨b, off, none⟩, (List.range l).map f, m, by rw [hlen], ⟨?_, fun _ => ⟨b, off, rfl, hblk, fun i hi => ?_⟩⟩, by rw [hlen]; omega⟩
      · intro s hs
        simp only [List.mem_map, List.mem_range] at hs
        obtain ⟨i, hi, rfl⟩ := hs
        exact (hf i hi).2
      · rw [hlen] at hi
        rw [show ((List.range l).map f).getD i de = f i from by simp [List.getD_eq_getElem?_getD, hi]]
        exact (hf i hi).1
theorem items_of_trod {H : Type} {enc : TypeId × Value → H} {W : World} {fuel : Nat} {v : Value} {y : DataW H × List MemPlace} (h : DataW.trod enc Tryz.prog W 0 (fun _ => true) true fuel 22 [v] = some y) :
    ∃ (a : Option Addr) (ss : List El) (cap : Nat), v = .slice a ss.length cap ∧ Els true W a ss ∧ ss.length ≤ maxLen := its_of_trod true Tryz.underlying22 Tryz.cellsLItem (fun a b c => item_of_trod a b c) h
set_option maxRecDepth 20000 in
/-- A pack that came in. -/
theorem open_pack {H : Type} {enc : TypeId × Value → H} {W : World} {r : Reach} {b0 : Nat} {v : Value} {d : DataW H} {p : List MemPlace}
    (hv : Value.okWide Tryz.prog W r b0 24 v) (h : DataW.Trod enc Tryz.prog W 0 (fun _ => true) true 24 v d p) :
    ∃ (E O : Int) (a : Option Addr) (es : List El) (cap : Nat), v = .agg #[.int .i64 E, .int .i64 O, .slice a es.length cap] ∧ Els true W a es ∧ es.length ≤ maxLen ∧ (-9223372036854775808 ≤ E ∧ E ≤ 9223372036854775807) ∧ (-9223372036854775808 ≤ O ∧ O ≤ 9223372036854775807) := by
  obtain ⟨cs, rfl, hsz⟩ := okWide_struct Tryz.underlying24 hv
  have hC : Tryz.prog.cellsOf 24 = 3 := by kernel_rfl
  have hC2 : Tryz.prog.cellsOf 22 = 1 := by kernel_rfl
  have hsz1 := hsz.trans hC
  obtain ⟨v0, v1, v2, rfl⟩ : ∃ v0 v1 v2, cs = #[v0, v1, v2] := by
    obtain ⟨l⟩ := cs
    match l, hsz1 with
    | [v0, v1, v2], _ => exact ⟨v0, v1, v2, rfl⟩
  obtain ⟨fuel, hf⟩ := h
  obtain ⟨y0, y1, y2, n, hx, hl, hy0, hy1, hy2⟩ := Go.Deep.trod_struct3 Tryz.underlying24 hf
  obtain ⟨E, e0, _, w0⟩ := DataW.trod_int Tryz.underlying3 (show DataW.trod enc Tryz.prog W 0 (fun _ => true) true n 3 [v0] = some y0 by simpa [Value.cells, Tryz.cellsIInt] using hy0)
  obtain ⟨O, e1, _, w1⟩ := DataW.trod_int Tryz.underlying3 (show DataW.trod enc Tryz.prog W 0 (fun _ => true) true n 3 [v1] = some y1 by simpa [Value.cells, Tryz.cellsIInt] using hy1)
  obtain ⟨a, es, cap, e, h1, h2⟩ := items_of_trod (v := v2) (by simpa [Value.cells, Tryz.cellsIInt, hC2] using hy2)
  simp at e0 e1
  subst e0 e1 e
  exact ⟨E, O, a, es, cap, rfl, h1, h2, bounds_i64 w0, bounds_i64 w1⟩
end Go.Proofs.YtdkffeemnenhdaaGreatDoor
namespace Go.Proofs.YtdkffeemnenhdaaGreatDoor
open Go.ChangeShapes Go.WideShapes Go.ChangeAt Go.RowKit Go.Joins
set_option linter.unusedVariables false

theorem Tryz.gRange : Tryz.prog.globalNamed "loop.example/g00528/impl.errRange" = some 12 := by kernel_rfl
theorem Tryz.gFull : Tryz.prog.globalNamed "loop.example/g00528/impl.errFull" = some 23 := by kernel_rfl
theorem Tryz.gOver : Tryz.prog.globalNamed "loop.example/g00528/impl.errOver" = some 13 := by kernel_rfl
theorem Tryz.tRange : (Tryz.prog.globals[12]?).map (·.type) = some 70 := by kernel_rfl
theorem Tryz.tFull : (Tryz.prog.globals[23]?).map (·.type) = some 70 := by kernel_rfl
theorem Tryz.tOver : (Tryz.prog.globals[13]?).map (·.type) = some 70 := by kernel_rfl
theorem Tryz.cellsES : Tryz.prog.cellsOf 229 = 1 := by kernel_rfl
theorem Tryz.cellsStr : Tryz.prog.cellsOf 9 = 1 := by kernel_rfl
theorem Tryz.star : "*" ++ "errors.errorString" = "*errors.errorString" := by decide
theorem Tryz.rowES (u : TypeId) (h : Tryz.prog.typeName? 3 u = some "*errors.errorString") : u = 204 :=
  typeName_ptr_named (nm := "errors.errorString") (by rw [Tryz.star]; kernel_rfl) (by kernel_rfl) (by decide) u (by rw [Tryz.star]; exact h)

/-- The head of a list of sentinels. -/
theorem sentinel {n : String} {text : List UInt8} {r : List (String × DataW Unit)} {W : World} {g : Nat} (h : laidMet Tryz.prog ((n, .iface "*errors.errorString" (.ptr (.agg [.lit (.string text)]))) :: r) W)
    (hg : Tryz.prog.globalNamed n = some g) (ht : (Tryz.prog.globals[g]?).map (·.type) = some 70) :
    ∃ a : Addr, W.var? Tryz.prog n = some #[.iface 204 (.pointer (some a))] ∧ W.cell? ⟨g, 0, .none⟩ = some (.iface 204 (.pointer (some a))) := by
  obtain ⟨a0, s0, hv0, hc0, hs0, hz0⟩ := laid_sentinel h hg ht Tryz.underlying70 Tryz.rowES Tryz.underlying204 Tryz.underlying229 rfl rfl Tryz.underlying9 Tryz.cellsES Tryz.cellsStr
  exact ⟨a0, hv0, by simpa using World.var?_cell hg hv0 0⟩

end Go.Proofs.YtdkffeemnenhdaaGreatDoor
namespace Go.Proofs.YtdkffeemnenhdaaGreatDoor
open Go.ChangeShapes Go.WideShapes Go.ChangeAt Go.RowKit Go.Joins

theorem vars_three {H : Type} (enc : TypeId × Value → H) {P : Program} {W : World} {n0 n1 n2 : String} {g0 g1 g2 : Nat} {t0 t1 t2 : TypeId} {ms0 ms1 ms2 : Array (String × TypeId)} {x0 x1 x2 : Value}
    (hg0 : P.globalNamed n0 = some g0) (ht0 : (P.globals[g0]?).map (·.type) = some t0) (hi0 : P.underlying t0 = some (.interface ms0)) (h0 : W.var? P n0 = some #[x0]) (i0 : IsIface x0)
    (hg1 : P.globalNamed n1 = some g1) (ht1 : (P.globals[g1]?).map (·.type) = some t1) (hi1 : P.underlying t1 = some (.interface ms1)) (h1 : W.var? P n1 = some #[x1]) (i1 : IsIface x1)
    (hg2 : P.globalNamed n2 = some g2) (ht2 : (P.globals[g2]?).map (·.type) = some t2) (hi2 : P.underlying t2 = some (.interface ms2)) (h2 : W.var? P n2 = some #[x2]) (i2 : IsIface x2) (sp : Nat → Bool) :
    DataW.TrodVars enc P W sp [n0, n1, n2] [tok enc x0, tok enc x1, tok enc x2] [.cell g0 0, .cell g1 0, .cell g2 0] :=
  ⟨g0, t0, #[x0], 1, [], [.cell g1 0, .cell g2 0], hg0, ht0, h0, trod_held hi0 i0 0, vars_read2 enc hg1 ht1 hi1 h1 i1 hg2 ht2 hi2 h2 i2 sp, rfl⟩
end Go.Proofs.YtdkffeemnenhdaaGreatDoor
namespace Go.Proofs.YtdkffeemnenhdaaGreatDoor
open Go.ChangeShapes Go.WideShapes Go.ChangeAt Go.RowKit Go.Joins
set_option linter.unusedVariables false

theorem vars_nil {H : Type} (enc : TypeId × Value → H) {P : Program} {W : World} (sp : Nat → Bool) : DataW.TrodVars enc P W sp [] [] [] := rfl
theorem vars_consC {H : Type} (enc : TypeId × Value → H) {P : Program} {W : World} {n : String} {g : Nat} {t : TypeId} {ms : Array (String × TypeId)} {x : Value} {ns : List String} {ds : List (DataW H)} {ps : List MemPlace} {sp : Nat → Bool}
    (hg : P.globalNamed n = some g) (ht : (P.globals[g]?).map (·.type) = some t) (hi : P.underlying t = some (.interface ms)) (h : W.var? P n = some #[x]) (ix : IsIface x) (hr : DataW.TrodVars enc P W sp ns ds ps) :
    DataW.TrodVars enc P W sp (n :: ns) (tok enc x :: ds) (.cell g 0 :: ps) := ⟨g, t, #[x], 1, [], ps, hg, ht, h, trod_held hi ix 0, hr, rfl⟩
end Go.Proofs.YtdkffeemnenhdaaGreatDoor
