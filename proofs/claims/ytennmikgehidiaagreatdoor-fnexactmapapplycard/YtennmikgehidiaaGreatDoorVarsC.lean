/-
  Named variables, one behind the other.
-/
import Derived.Test.YtennmikgehidiaaGreatDoorPlP
import Derived.Test.YtennmikgehidiaaGreatDoorElN
import Derived.Test.YtennmikgehidiaaGreatDoorRows
import Derived.WalkKit
import Derived.ProofKit
import Derived.OpenShut
import Derived.ShutString
import Derived.ChangeOld
import Derived.Below
import Derived.Lib.SmallJoins
import Derived.Test.YtennmikgehidiaaGreatDoorCards
import Derived.Test.YtennmikgehidiaaGreatDoorTie
import Derived.LaidMore
import Derived.Stop.Joined
import Derived.Stop.LaidErr
import Derived.WalkSmall
import Derived.SevenTiedAt
import Derived.Test.YtennmikgehidiaaGreatDoorItW
import Derived.Deep.Slices
import Derived.Deep.Strs
import Derived.ChangeSame
namespace Go.Proofs.YtennmikgehidiaaGreatDoor
open Go.RowKit
set_option linter.unusedVariables false

/-- Marks from k on. -/
def mkP (k : Int) : Nat → List (Int × Int)
  | 0 => []
  | n + 1 => mkP k n ++ [(k + (n * 2 : Nat), k + (n * 2 : Nat) + 1)]
theorem mkP_len (k : Int) (n : Nat) : (mkP k n).length = n := by
  induction n with
  | zero => rfl
  | succ n ih => simp [mkP, ih]
theorem mkP_get (k : Int) (n i : Nat) (h : i < n) : (mkP k n).getD i dp = (k + (i * 2 : Nat), k + (i * 2 : Nat) + 1) := by
  induction n with
  | zero => omega
  | succ n ih =>
    simp only [mkP, List.getD_eq_getElem?_getD, List.getElem?_append, mkP_len]
    by_cases hi : i < n
    · rw [if_pos hi, ← List.getD_eq_getElem?_getD]; exact ih hi
    · have : i = n := by omega
      subst this
      simp
theorem mkP_step (k : Int) (ps : List (Int × Int)) (j : Nat) (h : j < ps.length) : (mkP k j ++ ps.drop j).set j (k + (j * 2 : Nat), k + (j * 2 : Nat) + 1) = mkP k (j + 1) ++ ps.drop (j + 1) := by
  rw [List.set_append_right _ _ (by rw [mkP_len]; exact Nat.le_refl _), mkP_len, Nat.sub_self, List.drop_eq_getElem_cons h, List.set_cons_zero]
  simp [mkP]

set_option maxHeartbeats 1600000 in
theorem markPlaceS_own (B g cap : Nat) (ps : List (Int × Int)) (k : Int) (w : World) (h : OwP w B g cap ps) (hn : ps.length ≤ 1048576) (h0 : 0 ≤ k) (h1 : k ≤ 2097152) :
    Calls Tryz.prog 29 #[.slice (some ⟨g, 0, none⟩) ps.length cap, .int .i64 k] w fun e w' => e = .returned (.int .i64 (k + (ps.length * 2 : Nat))) ∧ OwP w' B g cap (mkP k ps.length) ∧ Only (· = g) w w' := by
  generalize hlen : ps.length = n at *
  have HL : Hid (ps.length = n ∧ True) := ⟨hlen, trivial⟩
  clear hlen
  have HO : Hid (OwP w B g cap ps) := h
  clear h
  go_enter Tryz.func29, Tryz.ntmps29
  go_wp2
  go_loopw [1, 5] (fun q i wr => ∃ (j : Nat) (y : Int), j ≤ n ∧ i = .int .i64 j ∧ q = .int .i64 y ∧ y = k + (j * 2 : Nat) ∧ OwP wr B g cap (mkP k j ++ ps.drop j) ∧ Only (· = g) w wr) (fun _ i _ => n - (intOf i).toNat)
  case atStart => exact ⟨0, k, Nat.zero_le _, rfl, rfl, by simp, by simpa [mkP] using HO.out, Only.refl _ _⟩
  case round =>
    obtain ⟨j, y, hj, rfl, rfl, hy, hown, honly⟩ := hrel
    have HY : Hid (y = k + (j * 2 : Nat) ∧ True) := ⟨hy, trivial⟩
    have hyb : 0 ≤ y ∧ y ≤ 6000000 := by omega
    by_cases hlt : j < n
    · have hl : (mkP k j ++ ps.drop j).length = n := by rw [List.length_append, mkP_len, List.length_drop, HL.out.1]; omega
      obtain ⟨c0, c1⟩ := hown.cell j (by omega)
      have f0 := hown.frozen (j * 2)
      have f1 := hown.frozen (j * 2 + 1)
      have R := hown.store j (by omega) (y, y + 1) ⟨by simp only; omega, by simp only; omega⟩
      rw [hy, mkP_step k ps j (by rw [HL.out.1]; exact hlt), ← hy] at R
      have HR : Hid (OwP ((wr.setCell ⟨g, j * 2, none⟩ (.int .i64 y)).setCell ⟨g, j * 2 + 1, none⟩ (.int .i64 (y + 1))) B g cap (mkP k (j + 1) ++ ps.drop (j + 1))) := R
      have HB : Hid (Only (· = g) w ((wr.setCell ⟨g, j * 2, none⟩ (.int .i64 y)).setCell ⟨g, j * 2 + 1, none⟩ (.int .i64 (y + 1)))) := (honly.setCell (.inl rfl) _).setCell (.inl rfl) _
      generalize ((mkP k j ++ ps.drop j).getD j dp).1 = o0 at *
      generalize ((mkP k j ++ ps.drop j).getD j dp).2 = o1 at *
      clear R hown honly hl hy
      go_wp2
      go_roundw
      case rel => exact ⟨j + 1, y + 1 + 1, by omega, by go_num, by go_num, by rw [HY.out.1]; omega, HR.out, HB.out⟩
      case measure => simp [intOf]; omega
    · have hjn : j = n := by omega
      subst hjn
      have hown' := hown
      rw [List.drop_of_length_le (by rw [HL.out.1]; exact Nat.le_refl _), List.append_nil] at hown'
      have HF : Hid (OwP wr B g cap (mkP k j)) := hown'
      clear hown hown' hy
      go_wp2
      go_ret
      exact ⟨by rw [← HY.out.1]; rfl, HF.out, honly⟩

set_option maxHeartbeats 1600000 in
theorem heldPlaceS_any (a : Option Addr) (cap n : Nat) (k : Int) (w : World) (h : Pls w a (mkP k n)) (hn : n ≤ 1048576) (h0 : 0 ≤ k) (h1 : k ≤ 2097152) :
    Calls Tryz.prog 31 #[.slice a n cap, .int .i64 k] w fun e w' => e = .returned (.int .i64 (k + (n * 2 : Nat))) ∧ w' = w := by
  have HB : Hid (Pls w a (mkP k n)) := h
  clear h
  go_enter Tryz.func31, Tryz.ntmps31
  go_wp2
  go_loop [1, 5] (fun q i => ∃ (j : Nat) (y : Int), j ≤ n ∧ i = .int .i64 j ∧ q = .int .i64 y ∧ y = k + (j * 2 : Nat)) (fun _ i => n - (intOf i).toNat)
  case atStart => exact ⟨0, k, Nat.zero_le _, rfl, rfl, by simp⟩
  case round =>
    obtain ⟨j, y, hj, rfl, rfl, hy⟩ := hrel
    have HY : Hid (y = k + (j * 2 : Nat) ∧ True) := ⟨hy, trivial⟩
    have hyb : 0 ≤ y ∧ y ≤ 6000000 := by omega
    by_cases hlt : j < n
    · have hml := mkP_len k n
      obtain ⟨b1, o1, rfl, hb1, hc1⟩ := HB.out.len_pos j (by omega)
      obtain ⟨c0, c1⟩ := hc1 j (by omega)
      rw [mkP_get k _ _ (by omega)] at c0 c1
      simp only at c0 c1
      rw [show k + ((j * 2 : Nat) : Int) = y from by omega] at c0 c1
      have n0 : (y != y) = false := by simp
      have n1 : (y + 1 != y + 1) = false := by simp
      clear hc1 hml hy
      go_wp2
      go_round
      case rel => exact ⟨j + 1, y + 1 + 1, by omega, by go_num, by go_num, by rw [HY.out.1]; omega⟩
      case measure => simp [intOf]; omega
    · have hjn : j = n := by omega
      subst hjn
      clear hy
      go_wp2
      go_ret
      have e : k + (j : Int) * 2 = y := by have := HY.out.1; omega
      rw [e]
      exact ⟨rfl, rfl⟩

theorem markPlaceS_any (a : Option Addr) (B U cap : Nat) (ps : List (Int × Int)) (k : Int) (w : World) (h : MinP w B U a cap ps) (hn : ps.length ≤ 1048576) (h0 : 0 ≤ k) (h1 : k ≤ 2097152) :
    Calls Tryz.prog 29 #[.slice a ps.length cap, .int .i64 k] w fun e w' => e = .returned (.int .i64 (k + (ps.length * 2 : Nat))) ∧ MinP w' B U a cap (mkP k ps.length) ∧ Only (rowOf a) w w' := by
  rcases h with ⟨rfl, rfl, rfl⟩ | ⟨g, rfl, g1, g2, h⟩
  · go_enter Tryz.func29, Tryz.ntmps29
    go_wp2
    refine wp_loop_rounds 1 ?_
    rw [rounds_succ]
    go_wp2
    go_ret
    exact ⟨by simp, .inl ⟨rfl, rfl, rfl⟩, Only.refl _ _⟩
  · refine (markPlaceS_own B g cap ps k w h hn h0 h1).mono ?_
    rintro e w' ⟨rfl, ho, hy⟩
    exact ⟨rfl, .inr ⟨g, rfl, g1, g2, ho⟩, hy.mono (fun k _ hk => ⟨_, rfl, hk.symm⟩)⟩

set_option maxHeartbeats 800000 in
theorem markMap_any (a : Option Addr) (B U cap : Nat) (ps : List (Int × Int)) (k : Int) (w : World) (h : MinP w B U a cap ps) (hU : U ≤ w.heap.size) (hn : ps.length ≤ 1048576) (h0 : 0 ≤ k) (h1 : k ≤ 2097152) :
    Calls Tryz.prog 12 #[.agg #[.slice a ps.length cap], .int .i64 k] w fun e w' => e = .returned (.int .i64 (k + (ps.length * 2 : Nat))) ∧ MinP w' B U a cap (mkP k ps.length) ∧ Only (rowOf a) w w' := by
  have hw : Below w.heap.size w (w.alloc (Obj.cells #[Value.slice a ps.length cap] 32)) := (Below.refl _ _).alloc (Nat.le_refl _) _
  go_enter Tryz.func12, Tryz.ntmps12
  go_wp2_with fail
  refine (markPlaceS_any a B U cap ps k _ (h.below hw) hn h0 h1).mono ?_
  rintro e w1 ⟨rfl, hm, ho⟩
  have HO : Hid (Only (rowOf a) w w1) := (Only.ofBelow hw (Nat.le_refl _)).trans ho
  have HM : Hid (MinP w1 B U a cap (mkP k ps.length)) := hm
  clear hm ho
  go_wp2
  go_ret
  exact ⟨rfl, HM.out, HO.out⟩

set_option maxHeartbeats 800000 in
theorem heldMap_any (a : Option Addr) (cap n : Nat) (k : Int) (w : World) (h : Pls w a (mkP k n)) (hn : n ≤ 1048576) (h0 : 0 ≤ k) (h1 : k ≤ 2097152) :
    Calls Tryz.prog 14 #[.agg #[.slice a n cap], .int .i64 k] w fun e w' => e = .returned (.int .i64 (k + (n * 2 : Nat))) ∧ Below w.heap.size w w' := by
  have hw : Below w.heap.size w (w.alloc (Obj.cells #[Value.slice a n cap] 32)) := (Below.refl _ _).alloc (Nat.le_refl _) _
  go_enter Tryz.func14, Tryz.ntmps14
  go_wp2_with fail
  refine (heldPlaceS_any a cap n k _ (h.below hw (Nat.le_refl _)) hn h0 h1).mono ?_
  rintro e w1 ⟨rfl, rfl⟩
  have hneg : ¬ (k + (n * 2 : Nat) < 0) := by omega
  generalize hq : k + ((n * 2 : Nat) : Int) = q at hneg ⊢
  have HQ : Hid (k + ((n * 2 : Nat) : Int) = q ∧ True) := ⟨hq, trivial⟩
  clear hq
  go_wp2
  go_ret
  exact ⟨by rw [HQ.out.1]; rfl, hw⟩
end Go.Proofs.YtennmikgehidiaaGreatDoor
namespace Go.Proofs.YtennmikgehidiaaGreatDoor
open Go.RowKit
set_option linter.unusedVariables false

theorem Stab.minP {lo hi B U : Nat} {a : Option Addr} {c : Nat} {zs : List (Int × Int)} (h1 : lo ≤ B) (h2 : U ≤ hi) : Stab lo hi (fun W => MinP W B U a c zs) := fun T W W' hp ho ht hl => hp.only ho (fun k hk1 hk2 => ht k (by omega) (by omega))
theorem below_dSn (w : World) (n : Nat) : Below w.heap.size w (w.drewN n) := ⟨rfl, rfl, rfl, Nat.le_refl _, fun _ _ => rfl⟩
end Go.Proofs.YtennmikgehidiaaGreatDoor
namespace Go.Proofs.YtennmikgehidiaaGreatDoor
open Go.ChangeShapes Go.WideShapes Go.ChangeAt Go.RowKit Go.Joins
set_option linter.unusedVariables false

theorem Tryz.own : ownKnob Tryz.prog.godebug = none := by kernel_rfl
theorem Tryz.laidOut : laidOutB Tryz.prog = true := by kernel_rfl

/-- A slice of bytes that came in reads as some bytes. -/
theorem byt_of_trod {H : Type} {enc : TypeId × Value → H} {W : World} {fuel : Nat} {v : Value} {y : DataW H × List MemPlace}
    (h : DataW.trod enc Tryz.prog W 0 (fun _ => true) true fuel 68 [v] = some y) :
    ∃ (a : Option Addr) (zs : List Int) (cap : Nat), v = .slice a zs.length cap ∧ Byt W a zs ∧ zs.length ≤ maxLen := by
  rcases open_ints Tryz.underlying68 Tryz.underlying5 (by kernel_rfl) h with ⟨hcs, _⟩ | ⟨x, l, c, zs, hcs, _, hl, hm, hz, _, hcell, hwz⟩
  · simp at hcs
    subst hcs
    exact ⟨.none, [], 0, rfl, ⟨by simp, by simp⟩, by simp [maxLen]⟩
  · simp at hcs
    subst hcs
    simp only [if_true] at hz
    have hlen : (zs.take l).length = l := by rw [List.length_take]; omega
    refine ⟨some x, zs.take l, c, by rw [hlen], ⟨?_, ?_⟩, by rw [hlen]; omega⟩
    · intro z hz'
      have := hwz z (List.mem_of_mem_take hz')
      simp [Lit.wf] at this
      exact bounds_u8 (hwz z (List.mem_of_mem_take hz'))
    · intro hp
      rw [hlen] at hp
      obtain ⟨b, off, spot⟩ := x
      have hc := hcell 0 (by omega)
      have hspot : spot = .none := by simpa [Addr.add] using World.cell?_spot hc
      subst hspot
      refine ⟨b, off, rfl, ?_, fun i hi => ?_⟩
      · have := World.block_lt_of_cell? _ _ hc
        simpa [Addr.add] using this
      · rw [hlen] at hi
        have := hcell i (by omega)
        have hadd : (⟨b, off, .none⟩ : Addr).add i = ⟨b, off + i, .none⟩ := by unfold Addr.add; split <;> simp_all
        rw [hadd] at this
        rw [show (zs.take l).getD i 0 = zs.getD i 0 from by simp [hi]]
        exact this

end Go.Proofs.YtennmikgehidiaaGreatDoor
namespace Go.Proofs.YtennmikgehidiaaGreatDoor
open Go.ChangeShapes Go.WideShapes Go.ChangeAt Go.RowKit Go.Joins
set_option linter.unusedVariables false

theorem Tryz.gRange : Tryz.prog.globalNamed "loop.example/g00528/impl.errRange" = some 7 := by kernel_rfl
theorem Tryz.gFull : Tryz.prog.globalNamed "loop.example/g00528/impl.errFull" = some 18 := by kernel_rfl
theorem Tryz.gOver : Tryz.prog.globalNamed "loop.example/g00528/impl.errOver" = some 8 := by kernel_rfl
theorem Tryz.tRange : (Tryz.prog.globals[7]?).map (·.type) = some 117 := by kernel_rfl
theorem Tryz.tFull : (Tryz.prog.globals[18]?).map (·.type) = some 117 := by kernel_rfl
theorem Tryz.tOver : (Tryz.prog.globals[8]?).map (·.type) = some 117 := by kernel_rfl
theorem Tryz.cellsES : Tryz.prog.cellsOf 246 = 1 := by kernel_rfl
theorem Tryz.cellsStr : Tryz.prog.cellsOf 9 = 1 := by kernel_rfl
theorem Tryz.star : "*" ++ "errors.errorString" = "*errors.errorString" := by decide
theorem Tryz.rowES (u : TypeId) (h : Tryz.prog.typeName? 3 u = some "*errors.errorString") : u = 221 :=
  typeName_ptr_named (nm := "errors.errorString") (by rw [Tryz.star]; kernel_rfl) (by kernel_rfl) (by decide) u (by rw [Tryz.star]; exact h)

/-- The head of a list of sentinels. -/
theorem sentinel {n : String} {text : List UInt8} {r : List (String × DataW Unit)} {W : World} {g : Nat} (h : laidMet Tryz.prog ((n, .iface "*errors.errorString" (.ptr (.agg [.lit (.string text)]))) :: r) W)
    (hg : Tryz.prog.globalNamed n = some g) (ht : (Tryz.prog.globals[g]?).map (·.type) = some 117) :
    ∃ a : Addr, W.var? Tryz.prog n = some #[.iface 221 (.pointer (some a))] ∧ W.cell? ⟨g, 0, .none⟩ = some (.iface 221 (.pointer (some a))) := by
  obtain ⟨a0, s0, hv0, hc0, hs0, hz0⟩ := laid_sentinel h hg ht Tryz.underlying117 Tryz.rowES Tryz.underlying221 Tryz.underlying246 rfl rfl Tryz.underlying9 Tryz.cellsES Tryz.cellsStr
  exact ⟨a0, hv0, by simpa using World.var?_cell hg hv0 0⟩

end Go.Proofs.YtennmikgehidiaaGreatDoor
namespace Go.Proofs.YtennmikgehidiaaGreatDoor
open Go.ChangeShapes Go.WideShapes Go.ChangeAt Go.RowKit Go.Joins

theorem vars_three {H : Type} (enc : TypeId × Value → H) {P : Program} {W : World} {n0 n1 n2 : String} {g0 g1 g2 : Nat} {t0 t1 t2 : TypeId} {ms0 ms1 ms2 : Array (String × TypeId)} {x0 x1 x2 : Value}
    (hg0 : P.globalNamed n0 = some g0) (ht0 : (P.globals[g0]?).map (·.type) = some t0) (hi0 : P.underlying t0 = some (.interface ms0)) (h0 : W.var? P n0 = some #[x0]) (i0 : IsIface x0)
    (hg1 : P.globalNamed n1 = some g1) (ht1 : (P.globals[g1]?).map (·.type) = some t1) (hi1 : P.underlying t1 = some (.interface ms1)) (h1 : W.var? P n1 = some #[x1]) (i1 : IsIface x1)
    (hg2 : P.globalNamed n2 = some g2) (ht2 : (P.globals[g2]?).map (·.type) = some t2) (hi2 : P.underlying t2 = some (.interface ms2)) (h2 : W.var? P n2 = some #[x2]) (i2 : IsIface x2) (sp : Nat → Bool) :
    DataW.TrodVars enc P W sp [n0, n1, n2] [tok enc x0, tok enc x1, tok enc x2] [.cell g0 0, .cell g1 0, .cell g2 0] :=
  ⟨g0, t0, #[x0], 1, [], [.cell g1 0, .cell g2 0], hg0, ht0, h0, trod_held hi0 i0 0, vars_read2 enc hg1 ht1 hi1 h1 i1 hg2 ht2 hi2 h2 i2 sp, rfl⟩
end Go.Proofs.YtennmikgehidiaaGreatDoor
namespace Go.Proofs.YtennmikgehidiaaGreatDoor
open Go.ChangeShapes Go.WideShapes Go.ChangeAt Go.RowKit Go.Joins
set_option linter.unusedVariables false

theorem Tryz.cellsLItem : Tryz.prog.cellsOf 70 = 2 := by kernel_rfl
theorem Tryz.cellsIBs : Tryz.prog.cellsOf 68 = 1 := by kernel_rfl
theorem Tryz.cellsIInt : Tryz.prog.cellsOf 3 = 1 := by kernel_rfl

set_option maxRecDepth 20000 in
theorem item_of_trod {H : Type} {enc : TypeId × Value → H} {W : World} {n : Nat} {cs : List Value} {x : DataW H × List MemPlace} {b off : Nat} (hl : cs.length = 2) (hc : ∀ i, i < 2 → W.cell? ⟨b, off + i, none⟩ = cs[i]?)
    (h : DataW.trod enc Tryz.prog W 0 (fun _ => true) true n 70 cs = some x) : ∃ e : El, LieE true W b off e ∧ rE true e ∧ Byt W e.a e.ls := by
  obtain ⟨y0, y1, k, -, -, g0, g1⟩ := trod_struct2 Tryz.underlying70 h
  match cs, hl with
  | [v0, v1], _ =>
    have g0' : DataW.trod enc Tryz.prog W 0 (fun _ => true) true k 3 [v0] = some y0 := by
      have := g0
      simp only [Tryz.cellsIInt] at this
      exact this
    have g1' : DataW.trod enc Tryz.prog W 0 (fun _ => true) true k 68 [v1] = some y1 := by
      have := g1
      simp only [Tryz.cellsIBs] at this
      exact this
    obtain ⟨N, e1, _, w1⟩ := DataW.trod_int Tryz.underlying3 g0'
    obtain ⟨a, zs, cap, rfl, hb, hm⟩ := byt_of_trod g1'
    simp at e1
    subst e1
    have h0 := hc 0 (by omega)
    have h1 := hc 1 (by omega)
    simp at h0 h1
    have hr := bounds_i64 w1
    exact ⟨⟨N, a, cap, zs⟩, ⟨fun _ => h0, h1⟩, ⟨hr.1, hr.2, hm, by simp⟩, hb⟩
/-- A slice of such that came in reads as some. -/
theorem its_of_trod (p : Bool) {T S : TypeId} (hT : Tryz.prog.underlying S = some (.slice T)) (hcell : Tryz.prog.cellsOf T = eW p) {H : Type} {enc : TypeId × Value → H} {W : World} {fuel : Nat} {v : Value} {y : DataW H × List MemPlace}
    (one : ∀ {n : Nat} {cs : List Value} {x : DataW H × List MemPlace} {b off : Nat}, cs.length = eW p → (∀ i, i < eW p → W.cell? ⟨b, off + i, none⟩ = cs[i]?) → DataW.trod enc Tryz.prog W 0 (fun _ => true) true n T cs = some x → ∃ e : El, LieE p W b off e ∧ rE p e ∧ Byt W e.a e.ls)
    (h : DataW.trod enc Tryz.prog W 0 (fun _ => true) true fuel S [v] = some y) :
    ∃ (a : Option Addr) (ss : List El) (cap : Nat), v = .slice a ss.length cap ∧ Els p W a ss ∧ ss.length ≤ maxLen := by
  rcases Go.Deep.open_slice hT h with ⟨hcs, _⟩ | ⟨x, l, c, m, n, D, Pl, hcs, _, hl, hm, hmm, _, hx⟩
  · simp at hcs
    subst hcs
    exact ⟨none, [], 0, rfl, ⟨by simp, by simp⟩, by simp⟩
  · simp at hcs
    subst hcs
    simp only [if_true] at hmm
    subst hmm
    rw [hcell] at hx
    have hw : 0 < eW p := by cases p <;> simp [eW]
    by_cases hl0 : l = 0
    · subst hl0
      exact ⟨some x, [], m, rfl, ⟨by simp, by simp⟩, by simp⟩
    · obtain ⟨b, off, spot⟩ := x
      obtain ⟨cs0, h0, _⟩ := hx 0 (by omega)
      obtain ⟨_, hlen0, hcell0⟩ := World.cells?_some h0
      have hc0 := hcell0 0 (by omega)
      have hspot : spot = none := by
        rw [List.getElem?_eq_getElem (by omega)] at hc0
        simpa [Addr.add] using World.cell?_spot hc0
      subst hspot
      have hblk : b < W.heap.size := by
        rw [List.getElem?_eq_getElem (by omega)] at hc0
        have := World.block_lt_of_cell? _ _ hc0
        simpa [Addr.add] using this
      have hadd : ∀ o i : Nat, (⟨b, o, none⟩ : Addr).add i = ⟨b, o + i, none⟩ := fun o i => by unfold Addr.add; split <;> simp_all
      have each : ∀ i, i < l → ∃ e : El, LieE p W b (off + i * eW p) e ∧ rE p e ∧ Byt W e.a e.ls := by
        intro i hi
        obtain ⟨cs', h1, h2⟩ := hx i (by omega)
        obtain ⟨_, hlen, hcell⟩ := World.cells?_some h1
        refine one hlen (fun j hj => ?_) h2
        have := hcell j hj
        rw [hadd, hadd] at this
        exact this
      haveI : Inhabited El := ⟨de⟩
      obtain ⟨f, hf⟩ := Go.Deep.choose_lt each
      have hlen : ((List.range l).map f).length = l := by simp
      refine ⟨some ⟨b, off, none⟩, (List.range l).map f, m, by rw [hlen], ⟨?_, fun _ => ⟨b, off, rfl, hblk, fun i hi => ?_⟩⟩, by rw [hlen]; omega⟩
      · intro s hs
        simp only [List.mem_map, List.mem_range] at hs
        obtain ⟨i, hi, rfl⟩ := hs
        exact (hf i hi).2
      · rw [hlen] at hi
        rw [show ((List.range l).map f).getD i de = f i from by simp [List.getD_eq_getElem?_getD, hi]]
        exact (hf i hi).1
theorem items_of_trod {H : Type} {enc : TypeId × Value → H} {W : World} {fuel : Nat} {v : Value} {y : DataW H × List MemPlace} (h : DataW.trod enc Tryz.prog W 0 (fun _ => true) true fuel 25 [v] = some y) :
    ∃ (a : Option Addr) (ss : List El) (cap : Nat), v = .slice a ss.length cap ∧ Els true W a ss ∧ ss.length ≤ maxLen := its_of_trod true Tryz.underlying25 Tryz.cellsLItem (fun a b c => item_of_trod a b c) h
set_option maxRecDepth 20000 in
/-- A pack that came in. -/
theorem open_pack {H : Type} {enc : TypeId × Value → H} {W : World} {r : Reach} {b0 : Nat} {v : Value} {d : DataW H} {p : List MemPlace}
    (hv : Value.okWide Tryz.prog W r b0 27 v) (h : DataW.Trod enc Tryz.prog W 0 (fun _ => true) true 27 v d p) :
    ∃ (E O : Int) (a : Option Addr) (es : List El) (cap : Nat), v = .agg #[.int .i64 E, .int .i64 O, .slice a es.length cap] ∧ Els true W a es ∧ es.length ≤ maxLen ∧ (-9223372036854775808 ≤ E ∧ E ≤ 9223372036854775807) ∧ (-9223372036854775808 ≤ O ∧ O ≤ 9223372036854775807) := by
  obtain ⟨cs, rfl, hsz⟩ := okWide_struct Tryz.underlying27 hv
  have hC : Tryz.prog.cellsOf 27 = 3 := by kernel_rfl
  have hC2 : Tryz.prog.cellsOf 25 = 1 := by kernel_rfl
  have hsz1 := hsz.trans hC
  obtain ⟨v0, v1, v2, rfl⟩ : ∃ v0 v1 v2, cs = #[v0, v1, v2] := by
    obtain ⟨l⟩ := cs
    match l, hsz1 with
    | [v0, v1, v2], _ => exact ⟨v0, v1, v2, rfl⟩
  obtain ⟨fuel, hf⟩ := h
  obtain ⟨y0, y1, y2, n, hx, hl, hy0, hy1, hy2⟩ := Go.Deep.trod_struct3 Tryz.underlying27 hf
  obtain ⟨E, e0, _, w0⟩ := DataW.trod_int Tryz.underlying3 (show DataW.trod enc Tryz.prog W 0 (fun _ => true) true n 3 [v0] = some y0 by simpa [Value.cells, Tryz.cellsIInt] using hy0)
  obtain ⟨O, e1, _, w1⟩ := DataW.trod_int Tryz.underlying3 (show DataW.trod enc Tryz.prog W 0 (fun _ => true) true n 3 [v1] = some y1 by simpa [Value.cells, Tryz.cellsIInt] using hy1)
  obtain ⟨a, es, cap, e, h1, h2⟩ := items_of_trod (v := v2) (by simpa [Value.cells, Tryz.cellsIInt, hC2] using hy2)
  simp at e0 e1
  subst e0 e1 e
  exact ⟨E, O, a, es, cap, rfl, h1, h2, bounds_i64 w0, bounds_i64 w1⟩
end Go.Proofs.YtennmikgehidiaaGreatDoor
namespace Go.Proofs.YtennmikgehidiaaGreatDoor
open Go.ChangeShapes Go.WideShapes Go.ChangeAt Go.RowKit Go.Joins
set_option linter.unusedVariables false

theorem Tryz.cellsLPl : Tryz.prog.cellsOf 78 = 2 := by kernel_rfl
theorem Tryz.cellsLPI : Tryz.prog.cellsOf 3 = 1 := by kernel_rfl

theorem Tryz.cellsLPS : Tryz.prog.cellsOf 22 = 1 := by kernel_rfl

set_option maxRecDepth 20000 in
theorem plc_of_trod {H : Type} {enc : TypeId × Value → H} {W : World} {n : Nat} {cs : List Value} {x : DataW H × List MemPlace} {b off : Nat} (hl : cs.length = 2) (hc : ∀ i, i < 2 → W.cell? ⟨b, off + i, none⟩ = cs[i]?)
    (h : DataW.trod enc Tryz.prog W 0 (fun _ => true) true n 78 cs = some x) : ∃ p : Int × Int, (W.cell? ⟨b, off, none⟩ = some (.int .i64 p.1) ∧ W.cell? ⟨b, off + 1, none⟩ = some (.int .i64 p.2)) ∧ rP p := by
  obtain ⟨y0, y1, k, -, -, g0, g1⟩ := trod_struct2 Tryz.underlying78 h
  match cs, hl with
  | [v0, v1], _ =>
    have g0' : DataW.trod enc Tryz.prog W 0 (fun _ => true) true k 3 [v0] = some y0 := by
      have := g0
      simp only [Tryz.cellsLPI] at this
      exact this
    have g1' : DataW.trod enc Tryz.prog W 0 (fun _ => true) true k 3 [v1] = some y1 := by
      have := g1
      simp only [Tryz.cellsLPI] at this
      exact this
    obtain ⟨N, e1, _, w1⟩ := DataW.trod_int Tryz.underlying3 g0'
    obtain ⟨D, e2, _, w2⟩ := DataW.trod_int Tryz.underlying3 g1'
    simp at e1 e2
    subst e1 e2
    have h0 := hc 0 (by omega)
    have h1 := hc 1 (by omega)
    simp at h0 h1
    exact ⟨(N, D), ⟨h0, h1⟩, bounds_i64 w1, bounds_i64 w2⟩

/-- A slice of places that came in reads as some. -/
theorem pls_of_trod {H : Type} {enc : TypeId × Value → H} {W : World} {fuel : Nat} {v : Value} {y : DataW H × List MemPlace}
    (h : DataW.trod enc Tryz.prog W 0 (fun _ => true) true fuel 22 [v] = some y) :
    ∃ (a : Option Addr) (ps : List (Int × Int)) (cap : Nat), v = .slice a ps.length cap ∧ Pls W a ps ∧ ps.length ≤ maxLen := by
  rcases Go.Deep.open_slice Tryz.underlying22 h with ⟨hcs, _⟩ | ⟨x, l, c, m, n, D, Pl, hcs, _, hl, hm, hmm, _, hx⟩
  · simp at hcs
    subst hcs
    exact ⟨none, [], 0, rfl, ⟨by simp, by simp⟩, by simp⟩
  · simp at hcs
    subst hcs
    simp only [if_true] at hmm
    subst hmm
    rw [Tryz.cellsLPl] at hx
    by_cases hl0 : l = 0
    · subst hl0
      exact ⟨some x, [], m, rfl, ⟨by simp, by simp⟩, by simp⟩
    · obtain ⟨b, off, spot⟩ := x
      obtain ⟨cs0, h0, _⟩ := hx 0 (by omega)
      obtain ⟨_, hlen0, hcell0⟩ := World.cells?_some h0
      have hc0 := hcell0 0 (by omega)
      have hspot : spot = none := by
        rw [List.getElem?_eq_getElem (by omega)] at hc0
        simpa [Addr.add] using World.cell?_spot hc0
      subst hspot
      have hblk : b < W.heap.size := by
        rw [List.getElem?_eq_getElem (by omega)] at hc0
        have := World.block_lt_of_cell? _ _ hc0
        simpa [Addr.add] using this
      have hadd : ∀ o i : Nat, (⟨b, o, none⟩ : Addr).add i = ⟨b, o + i, none⟩ := fun o i => by unfold Addr.add; split <;> simp_all
      have each : ∀ i, i < l → ∃ p : Int × Int, (W.cell? ⟨b, off + i * 2, none⟩ = some (.int .i64 p.1) ∧ W.cell? ⟨b, off + i * 2 + 1, none⟩ = some (.int .i64 p.2)) ∧ rP p := by
        intro i hi
        obtain ⟨cs', h1, h2⟩ := hx i (by omega)
        obtain ⟨_, hlen, hcell⟩ := World.cells?_some h1
        refine plc_of_trod hlen (fun j hj => ?_) h2
        have := hcell j hj
        rw [hadd, hadd] at this
        exact this
      haveI : Inhabited (Int × Int) := ⟨dp⟩
      obtain ⟨f, hf⟩ := Go.Deep.choose_lt each
      have hlen : ((List.range l).map f).length = l := by simp
      refine ⟨some ⟨b, off, none⟩, (List.range l).map f, m, by rw [hlen], ⟨?_, fun _ => ⟨b, off, rfl, hblk, fun i hi => ?_⟩⟩, by rw [hlen]; omega⟩
      · intro s hs
        simp only [List.mem_map, List.mem_range] at hs
        obtain ⟨i, hi, rfl⟩ := hs
        exact (hf i hi).2
      · rw [hlen] at hi
        rw [show ((List.range l).map f).getD i dp = f i from by simp [List.getD_eq_getElem?_getD, hi]]
        exact (hf i hi).1
set_option maxRecDepth 20000 in
/-- A map that came in. -/
theorem open_map1 {H : Type} {enc : TypeId × Value → H} {W : World} {r : Reach} {b0 : Nat} {v : Value} {d : DataW H} {p : List MemPlace}
    (hv : Value.okWide Tryz.prog W r b0 24 v) (h : DataW.Trod enc Tryz.prog W 0 (fun _ => true) true 24 v d p) :
    ∃ (a : Option Addr) (ps : List (Int × Int)) (cap : Nat), v = .agg #[.slice a ps.length cap] ∧ Pls W a ps ∧ ps.length ≤ maxLen := by
  obtain ⟨cs, rfl, hsz⟩ := okWide_struct Tryz.underlying24 hv
  have hC : Tryz.prog.cellsOf 24 = 1 := by kernel_rfl
  have hsz1 := hsz.trans hC
  obtain ⟨v0, rfl⟩ : ∃ v0, cs = #[v0] := by
    obtain ⟨l⟩ := cs
    match l, hsz1 with
    | [v0], _ => exact ⟨v0, rfl⟩
  obtain ⟨fuel, hf⟩ := h
  obtain ⟨y0, n, hx, hl, hy⟩ := trod_struct1 Tryz.underlying24 hf
  obtain ⟨a, ps, cap, e, h1, h2⟩ := pls_of_trod (v := v0) (by simpa [Value.cells, Tryz.cellsLPS] using hy)
  exact ⟨a, ps, cap, by rw [e], h1, h2⟩
end Go.Proofs.YtennmikgehidiaaGreatDoor
namespace Go.Proofs.YtennmikgehidiaaGreatDoor
open Go.ChangeShapes Go.WideShapes Go.ChangeAt Go.RowKit Go.Joins
set_option linter.unusedVariables false

theorem vars_nil {H : Type} (enc : TypeId × Value → H) {P : Program} {W : World} (sp : Nat → Bool) : DataW.TrodVars enc P W sp [] [] [] := rfl
theorem vars_consC {H : Type} (enc : TypeId × Value → H) {P : Program} {W : World} {n : String} {g : Nat} {t : TypeId} {ms : Array (String × TypeId)} {x : Value} {ns : List String} {ds : List (DataW H)} {ps : List MemPlace} {sp : Nat → Bool}
    (hg : P.globalNamed n = some g) (ht : (P.globals[g]?).map (·.type) = some t) (hi : P.underlying t = some (.interface ms)) (h : W.var? P n = some #[x]) (ix : IsIface x) (hr : DataW.TrodVars enc P W sp ns ds ps) :
    DataW.TrodVars enc P W sp (n :: ns) (tok enc x :: ds) (.cell g 0 :: ps) := ⟨g, t, #[x], 1, [], ps, hg, ht, h, trod_held hi ix 0, hr, rfl⟩
end Go.Proofs.YtennmikgehidiaaGreatDoor
