/-
  HuffPut of the program.
-/
import Derived.Test.YtaiikncdghjmjaaDoorHPut1
import Derived.Test.YtaiikncdghjmjaaDoorHPut2
import Derived.Test.YtaiikncdghjmjaaDoorCodes2
import Derived.Test.YtaiikncdghjmjaaDoorWCells
import Derived.Test.YtaiikncdghjmjaaDoorILens3
import Derived.Test.YtaiikncdghjmjaaDoorITxtI
import Derived.Deep.RegionWith
namespace Go.Proofs.YtaiikncdghjmjaaDoor
open Go.RowKit
set_option linter.unusedVariables false

theorem lensB_okH {zs : List Int} (h : lensB zs = true) : 1 ≤ zs.length ∧ zs.length ≤ 80 ∧ ∀ z ∈ zs, 0 ≤ z ∧ z ≤ 12 := by
  simp only [lensB, decide_eq_true_eq] at h
  exact ⟨h.1, h.2.1, h.2.2.1⟩
/-- Each symbol of the text has a code. -/
def coded (ls ts : List Int) : Prop := ∀ k, k < ts.length → ls.getD (ts.getD k 0).toNat 0 ≠ 0
abbrev csOf (ls : List Int) : List Int := (crun ls (sbL ls 12)).2.2

set_option maxHeartbeats 8000000 in
theorem implHuffPut_ok (a : Option Addr) (ca : Nat) (ls : List Int) (b : Option Addr) (cb : Nat) (ts : List Int) (w : World) (ha : Ins w a ls) (hb : Ins w b ts) (hlb : lensB ls = true) (htb : txtB ts ls.length = true) (h4 : Four w) (hE : ErrT w) :
    Calls Tryd.prog 21 #[.slice a ls.length ca, .slice b ts.length cb] w fun e w' => Below w.heap.size w w' ∧
      (coded ls ts → ∃ a' cp, e = .returned (.tuple #[.agg #[.slice a' (enc (hN ls ts ts.length) (hV ls (csOf ls) ts ts.length)).length cp, .int .i64 (hN ls ts ts.length : Nat)], .bool true]) ∧ Mine w' w.heap.size w'.heap.size a' cp (enc (hN ls ts ts.length) (hV ls (csOf ls) ts ts.length))) ∧
      (¬ coded ls ts → e = .returned (.tuple #[.agg #[.slice none 0 0, .int .i64 0], .bool false])) := by
  have hw : Below w.heap.size w (w.alloc (Obj.cells #[Value.slice none 0 0, Value.int IntKind.i64 0] 33)) := (Below.refl _ _).alloc (Nat.le_refl _) _
  obtain ⟨hn1, hn2, hok⟩ := lensB_okH hlb
  obtain ⟨-, -, ht3⟩ := txtB_bnd htb
  have HTT : Hid (∀ k, k < ts.length → 0 ≤ ts.getD k 0 ∧ ts.getD k 0 < ls.length) := fun k hk => txtB_get htb k hk
  have HOK : Hid (∀ k, k < ls.length → 0 ≤ ls.getD k 0 ∧ ls.getD k 0 ≤ 12) := fun k hk => hok _ (getD_mem hk)
  have HNL : Hid _ := hN_le (ts := ts) hok
  have HCL : Hid _ := crun_len ls (sbL ls 12)
  have HCR : Hid (∀ z ∈ (crun ls (sbL ls 12)).2.2, 0 ≤ z ∧ z ≤ 8192000) := crun_rng2 ls hn2
  have HT := implLens_any a ca ls _ (ha.below hw (Nat.le_refl _)) (by omega) (h4.below hw) (hE.below hw)
  rw [hlb] at HT
  have r0 : (w.alloc (Obj.cells #[Value.slice none 0 0, Value.int IntKind.i64 0] 33)).cell? ⟨w.heap.size, 0, none⟩ = some (.slice none 0 0) := by simp
  have r1 : (w.alloc (Obj.cells #[Value.slice none 0 0, Value.int IntKind.i64 0] 33)).cell? ⟨w.heap.size, 1, none⟩ = some (.int .i64 0) := by simp
  have t0 : (w.alloc (Obj.cells #[Value.slice none 0 0, Value.int IntKind.i64 0] 33)).frozen? ⟨w.heap.size, 0, none⟩ = false := by simp
  have t1 : (w.alloc (Obj.cells #[Value.slice none 0 0, Value.int IntKind.i64 0] 33)).frozen? ⟨w.heap.size, 1, none⟩ = false := by simp
  have HSZ : Hid (w.heap.size < (w.alloc (Obj.cells #[Value.slice none 0 0, Value.int IntKind.i64 0] 33)).heap.size) := by simp [Hid]
  have HR : Hid _ := (⟨r0, r1, t0, t1, hw⟩ : _ ∧ _ ∧ _ ∧ _ ∧ _)
  clear r0 r1 t0 t1 hw
  go_enter Tryd.func21, Tryd.ntmps21
  go_wp2_with fail
  generalize w.alloc (Obj.cells #[Value.slice none 0 0, Value.int IntKind.i64 0] 33) = W at *
  refine HT.mono ?_
  rintro e w1 ⟨rfl, hb1⟩
  clear HT
  have hbw1 : Below w.heap.size w w1 := HR.out.2.2.2.2.trans (hb1.mono (Nat.le_of_lt HSZ.out))
  have HXT := implTxt_any b cb ts (ls.length : Int) w1 (hb.below hbw1 (Nat.le_refl _)) (by omega)
  rw [htb] at HXT
  go_wp2_with fail
  refine HXT.mono ?_
  rintro e w2 ⟨rfl, rfl⟩
  clear HXT
  go_wp2_with fail
  refine (codesOf_any a ca ls w2 (ha.below hbw1 (Nat.le_refl _)) hn2 hok).mono ?_
  rintro e w3 ⟨rfl, hoc, hb3⟩
  have hbw3 : Below w.heap.size w w3 := hbw1.trans (hb3.mono hbw1.size)
  have hbW3 : Below W.heap.size W w3 := hb1.trans (hb3.mono hb1.size)
  have HIA : Hid (Ins w3 a ls) := ha.below hbw3 (Nat.le_refl _)
  have HIB : Hid (Ins w3 b ts) := hb.below hbw3 (Nat.le_refl _)
  have HOC : Hid (OwI w3 w2.heap.size w2.heap.size ls.length (crun ls (sbL ls 12)).2.2) := hoc
  have p0 := keep hbW3 HSZ.out HR.out.1
  have p1 := keep hbW3 HSZ.out HR.out.2.1
  have q0 : w3.frozen? ⟨w.heap.size, 0, none⟩ = false := (hbW3.frozen (p := ⟨w.heap.size, 0, none⟩) HSZ.out).trans HR.out.2.2.1
  have q1 : w3.frozen? ⟨w.heap.size, 1, none⟩ = false := (hbW3.frozen (p := ⟨w.heap.size, 1, none⟩) HSZ.out).trans HR.out.2.2.2.1
  have HP : Hid _ := (⟨p0, p1, q0, q1⟩ : _ ∧ _ ∧ _ ∧ _)
  have HBW : Hid (Below w.heap.size w w3) := hbw3
  have HZ3 : Hid (w.heap.size < w3.heap.size) := by have h1 := HSZ.out; have h2 := hbW3.size; unfold Hid; omega
  clear hoc hb1 hb3 hbw1 hbw3 hbW3 p0 p1 q0 q1 HR HSZ ha hb hlb htb hok h4 hE
  generalize w2.heap.size = gc at *
  go_wp2_with fail
  refine (newWriter_any none 0 [] 0 4096 w3 ⟨by simp, by simp⟩ (by simp)).mono ?_
  rintro e w4 ⟨R, g, rfl, hR, hown, hRge, hb4⟩
  have HWI : Hid (WI w4 w3.heap.size R 0 0) := WI.new hR hown hRge hb4.size
  have HB4 : Hid (Below w3.heap.size w3 w4) := hb4
  clear hR hown hb4 hRge
  generalize hcs0 : (crun ls (sbL ls 12)).2.2 = cs at *
  have HCSE : Hid (csOf ls = cs) := hcs0
  clear hcs0
  generalize hT : ts.length = T at *
  have HTL : Hid (ts.length = T) := hT
  clear hT
  generalize hn0 : ls.length = n at *
  have HLL : Hid (ls.length = n) := hn0
  clear hn0
  generalize hB3 : w3.heap.size = B at *
  have HB3 : Hid (w3.heap.size = B) := hB3
  clear hB3
  go_wp2
  go_loopw [28] (fun i wr => ∃ k : Nat, k ≤ T ∧ i = .int .i64 k ∧ WI wr B R (hN ls ts k) (hV ls cs ts k) ∧ Below B w3 wr ∧ ∀ j, j < k → ls.getD (ts.getD j 0).toNat 0 ≠ 0) (fun i _ => T - (intOf i).toNat)
  case atStart => exact ⟨0, Nat.zero_le _, rfl, HWI.out, HB4.out, fun j hj => by omega⟩
  case round =>
    clear HWI HB4
    obtain ⟨k, hk, rfl, hwi, hbel, hnz⟩ := hrel
    have HWI : Hid (WI wr B R (hN ls ts k) (hV ls cs ts k)) := hwi
    have HBL : Hid (Below B w3 wr) := hbel
    have HNZ : Hid (∀ j, j < k → ls.getD (ts.getD j 0).toNat 0 ≠ 0) := hnz
    have u0 := keep hbel HZ3.out HP.out.1
    have u1 := keep hbel HZ3.out HP.out.2.1
    have v0 : wr.frozen? ⟨w.heap.size, 0, none⟩ = false := (hbel.frozen (p := ⟨w.heap.size, 0, none⟩) HZ3.out).trans HP.out.2.2.1
    have v1 : wr.frozen? ⟨w.heap.size, 1, none⟩ = false := (hbel.frozen (p := ⟨w.heap.size, 1, none⟩) HZ3.out).trans HP.out.2.2.2
    have HBE : Hid (Below w.heap.size w wr) := HBW.out.trans (hbel.mono (Nat.le_of_lt HZ3.out))
    clear hwi hbel hnz
    by_cases hlt : k < T
    · obtain ⟨b1, o1, rfl, hb1, hc1⟩ := (HIB.out.below HBL.out (by rw [HB3.out]; exact Nat.le_refl _)).len_pos k (by rw [HTL.out]; exact hlt)
      have hs0 := hc1 k (by rw [HTL.out]; exact hlt)
      have hsr := HTT.out k hlt
      have hnl := HNL.out k
      have HN1 : Hid (hN ls ts (k + 1) = hN ls ts k + zN ls (ts.getD k 0)) := rfl
      have HV1 : Hid (hV ls cs ts (k + 1) = hV ls cs ts k + rvp (cs.getD (ts.getD k 0).toNat 0).toNat (zN ls (ts.getD k 0)) (zN ls (ts.getD k 0)) * 2 ^ hN ls ts k) := rfl
      generalize hsy : ts.getD k 0 = sy at *
      obtain ⟨sn, rfl⟩ : ∃ j : Nat, sy = j := ⟨sy.toNat, by omega⟩
      obtain ⟨b2, o2, rfl, hb2, hc2⟩ := (HIA.out.below HBL.out (by rw [HB3.out]; exact Nat.le_refl _)).len_pos sn (by rw [HLL.out]; omega)
      have hl0 := hc2 sn (by rw [HLL.out]; omega)
      have hLr := HOK.out sn (by omega)
      simp only [zN, Int.toNat_natCast] at HN1 HV1
      generalize hLe : ls.getD sn 0 = Lz at *
      obtain ⟨L, rfl⟩ : ∃ j : Nat, Lz = j := ⟨Lz.toNat, by omega⟩
      simp only [Int.toNat_natCast] at HN1 HV1
      have HLE : Hid (ls.getD (ts.getD k 0).toNat 0 = (L : Int)) := by unfold Hid; rw [hsy, Int.toNat_natCast, hLe]
      clear hc1 hc2 hLe hsy
      by_cases hL0 : L = 0
      · have HNC : Hid (¬ coded ls ts) := fun h => h k (by rw [HTL.out]; exact hlt) (by rw [HLE.out, hL0]; rfl)
        subst hL0
        clear HWI HN1 HV1 HLE
        go_wp2
        exact bodyPost_ret (v := .tuple #[.agg #[.slice none 0 0, .int .i64 0], .bool false]) (by simp [results, Tryd.results21, go_sem, u0, u1]) rfl ⟨by repeat (first | exact HBE.out | refine Below.setCell ?_ (by simp) _), fun h => absurd h HNC.out, fun _ => rfl⟩
      · have hsn : sn < n := by omega
        have hcr := HCR.out _ (getD_mem (zs := cs) (k := sn) (by rw [HCL.out]; exact hsn))
        have hcc : wr.cell? ⟨gc, sn, none⟩ = some (.int .i64 (cs.getD sn 0)) := (HOC.out.below HBL.out (by rw [HB3.out]; exact Nat.le_refl _)).cell sn (by rw [HCL.out]; exact hsn)
        generalize cs.getD sn 0 = cz at *
        obtain ⟨c, rfl⟩ : ∃ j : Nat, cz = j := ⟨cz.toNat, by omega⟩
        simp only [Int.toNat_natCast] at HV1
        have HNZ2 : Hid (∀ j, j < k + 1 → ls.getD (ts.getD j 0).toNat 0 ≠ 0) := fun j hj => by
          by_cases hjk : j = k
          · subst hjk; rw [HLE.out]; omega
          · exact HNZ.out j (by omega)
        clear HNZ HLE
        generalize hN ls ts k = N at *
        generalize hV ls cs ts k = V at *
        have hne0 : ((L : Int) == 0) = false := by simp; omega
        go_wp2
        go_region_with (go_at_call 44; refine (putCode_yes _ B R N V c L (by exact HWI.out) (by omega) (by omega) (by omega) (by omega)).mono ?_; rintro e w6 ⟨rfl, hw6, hb6⟩; have HW6 : Hid (WI w6 B R (hN ls ts (k + 1)) (hV ls cs ts (k + 1))) := (by rw [HN1.out, HV1.out]; exact hw6); have HB6 : Hid (Below B w3 w6) := HBL.out.trans (Below.drewS hb6); clear hw6 hb6)
        all_goals
          go_wp2
          go_roundw
          case rel => exact ⟨k + 1, by omega, by go_num, HW6.out, HB6.out, HNZ2.out⟩
          case measure => simp [intOf]; omega
    · have hkn : k = T := by omega
      subst hkn
      have HCD : Hid (coded ls ts) := fun j hj => HNZ.out j (by rw [HTL.out] at hj; exact hj)
      obtain ⟨a', cp, d0, d1, hmine⟩ := HWI.out.cells
      generalize hMM : hN ls ts k = M at *
      generalize hYS : enc M (hV ls cs ts k) = ys at *
      have HMM : Hid (hN ls ts k = M) := hMM
      have HYS : Hid (enc M (hV ls cs ts k) = ys) := hYS
      have HM : Hid (Mine wr B wr.heap.size a' cp ys) := hmine
      clear hMM hYS hmine HWI
      go_wp2
      refine bodyPost_ret (v := .tuple #[.agg #[.slice a' ys.length cp, .int .i64 (M : Nat)], .bool true]) (by simp [results, Tryd.results21, go_sem, u0, u1]) rfl ⟨((HBE.out.setCell (by simp) _).setCell (by simp) _), fun _ => ⟨a', cp, by rw [HCSE.out, HTL.out, HMM.out, HYS.out], ?_⟩, fun h => absurd HCD.out h⟩
      rw [HCSE.out, HTL.out, HMM.out, HYS.out]
      exact mine_out _ _ HM.out HZ3.out (Nat.le_refl _)
end Go.Proofs.YtaiikncdghjmjaaDoor
