/-
  HuffPut of the model; the model and the program put texts alike.
-/
import Derived.Test.YtaiikncdghjmjaaDoorHPut3
import Derived.Test.YtaiikncdghjmjaaDoorHPut4
namespace Go.Proofs.YtaiikncdghjmjaaDoor
open Go.RowKit
set_option linter.unusedVariables false

set_option maxHeartbeats 8000000 in
theorem specHuffPut_ok (a : Option Addr) (ca : Nat) (ls : List Int) (b : Option Addr) (cb : Nat) (ts : List Int) (w : World) (ha : Ins w a ls) (hb : Ins w b ts) (hlb : lensB ls = true) (htb : txtB ts ls.length = true) :
    Calls Tryd.prog 20 #[.slice a ls.length ca, .slice b ts.length cb] w fun e w' => Below w.heap.size w w' ∧
      (coded ls ts → ∃ a' cp, e = .returned (.tuple #[.agg #[.slice a' (enc (hN ls ts ts.length) (hV ls (csOf ls) ts ts.length)).length cp, .int .i64 (hN ls ts ts.length : Nat)], .bool true]) ∧ Mine w' w.heap.size w'.heap.size a' cp (enc (hN ls ts ts.length) (hV ls (csOf ls) ts ts.length))) ∧
      (¬ coded ls ts → e = .returned (.tuple #[.agg #[.slice none 0 0, .int .i64 0], .bool false])) := by
  have hw : Below w.heap.size w (w.alloc (Obj.cells #[Value.slice none 0 0, Value.int IntKind.i64 0] 33)) := (Below.refl _ _).alloc (Nat.le_refl _) _
  obtain ⟨hn1, hn2, hok⟩ := lensB_okH hlb
  obtain ⟨-, -, ht3⟩ := txtB_bnd htb
  have HTT : Hid (∀ k, k < ts.length → 0 ≤ ts.getD k 0 ∧ ts.getD k 0 < ls.length) := fun k hk => txtB_get htb k hk
  have HOK : Hid (∀ k, k < ls.length → 0 ≤ ls.getD k 0 ∧ ls.getD k 0 ≤ 12) := fun k hk => hok _ (getD_mem hk)
  have hTM : ∀ z ∈ ts, 0 ≤ z ∧ z < ls.length := by
    simp only [txtB, decide_eq_true_eq] at htb
    exact htb.2.2.2
  have HNL := hN_le (ts := ts) hok ts.length
  have HT := specLens_any a ca ls _ (ha.below hw (Nat.le_refl _)) (by omega)
  have HXT := specTxt_any b cb ts (ls.length : Int) _ (hb.below hw (Nat.le_refl _)) (by omega)
  rw [hlb] at HT
  rw [htb] at HXT
  have r0 : (w.alloc (Obj.cells #[Value.slice none 0 0, Value.int IntKind.i64 0] 33)).cell? ⟨w.heap.size, 0, none⟩ = some (.slice none 0 0) := by simp
  have r1 : (w.alloc (Obj.cells #[Value.slice none 0 0, Value.int IntKind.i64 0] 33)).cell? ⟨w.heap.size, 1, none⟩ = some (.int .i64 0) := by simp
  have t0 : (w.alloc (Obj.cells #[Value.slice none 0 0, Value.int IntKind.i64 0] 33)).frozen? ⟨w.heap.size, 0, none⟩ = false := by simp
  have t1 : (w.alloc (Obj.cells #[Value.slice none 0 0, Value.int IntKind.i64 0] 33)).frozen? ⟨w.heap.size, 1, none⟩ = false := by simp
  have HSZ : Hid (w.heap.size < (w.alloc (Obj.cells #[Value.slice none 0 0, Value.int IntKind.i64 0] 33)).heap.size) := by simp [Hid]
  have HIA : Hid (Ins (w.alloc (Obj.cells #[Value.slice none 0 0, Value.int IntKind.i64 0] 33)) a ls) := ha.below hw (Nat.le_refl _)
  have HIB : Hid (Ins (w.alloc (Obj.cells #[Value.slice none 0 0, Value.int IntKind.i64 0] 33)) b ts) := hb.below hw (Nat.le_refl _)
  have HR : Hid _ := (⟨r0, r1, t0, t1, hw⟩ : _ ∧ _ ∧ _ ∧ _ ∧ _)
  clear r0 r1 t0 t1 hw ha hb hlb htb
  go_enter Tryd.func20, Tryd.ntmps20
  go_wp2_with fail
  generalize w.alloc (Obj.cells #[Value.slice none 0 0, Value.int IntKind.i64 0] 33) = W at *
  refine HT.mono ?_
  rintro e w1 ⟨rfl, rfl⟩
  clear HT
  go_wp2_with fail
  refine HXT.mono ?_
  rintro e w2 ⟨rfl, rfl⟩
  clear HXT
  have HMM : Hid (∀ k, k < ts.length → ls.getD (ts.getD k 0).toNat 0 = 0 → ¬ coded ls ts) := fun k hk h hc => hc k hk h
  have HPUT : Hid (∀ (X : Nat) (w' : World), Ins w' a ls → Ins w' b ts → w'.heap[X]? = some (.cells #[.slice none 0 0, .int .i64 0] 33 (0, 0)) → (∀ k o, a = some ⟨k, o, none⟩ → k ≠ X) → (0 < ts.length → ∀ k o, b = some ⟨k, o, none⟩ → k ≠ X) → Calls Tryd.prog 41 #[.pointer (some ⟨X, 0, none⟩), .slice a ls.length ca, .slice b ts.length cb] w' fun e w'' => e = .returned (.tuple #[]) ∧ (∃ U, w'.heap.size ≤ U ∧ SJ w'' X U (hN ls ts ts.length) (hV ls (crun ls (sbL ls 12)).2.2 ts ts.length)) ∧ Only (fun k => k = X) w' w'') := fun X w' h1 h2 h3 h4 h5 => l2put_any a ca ls b cb ts X w' h1 h2 h3 h4 h5 hn2 hok ht3 hTM
  have HALL : Hid (∀ (w' : World), (w'.alloc (.cells #[.slice none 0 0, .int .i64 0] 33)).heap[w'.heap.size]? = some (.cells #[.slice none 0 0, .int .i64 0] 33 (0, 0))) := fun w' => by simpa using heap_alloc_new w' (.cells #[.slice none 0 0, .int .i64 0] 33)
  have HNE1 : Hid (∀ k o, a = some ⟨k, o, none⟩ → k ≠ w2.heap.size) := by
    intro k o he
    obtain ⟨b2, o2, e2, hb2, -⟩ := HIA.out.len_pos 0 (by omega)
    rw [e2] at he
    simp at he
    omega
  have HNE2 : Hid (0 < ts.length → ∀ k o, b = some ⟨k, o, none⟩ → k ≠ w2.heap.size) := by
    intro h0 k o he
    obtain ⟨b2, o2, e2, hb2, -⟩ := HIB.out.len_pos 0 h0
    rw [e2] at he
    simp at he
    omega
  have HHN : Hid (hN ls ts ts.length ≤ 4096) := by unfold Hid; omega
  clear HNL hTM hok
  generalize hcs0 : (crun ls (sbL ls 12)).2.2 = cs at *
  have HCSE : Hid (csOf ls = cs) := hcs0
  clear hcs0
  generalize hT : ts.length = T at *
  have HTL : Hid (ts.length = T) := hT
  clear hT
  generalize hn0 : ls.length = n at *
  have HLL : Hid (ls.length = n) := hn0
  clear hn0
  go_wp2
  go_loopw [6] (fun i wr => ∃ k : Nat, k ≤ T ∧ i = .int .i64 k ∧ wr = w2 ∧ ∀ j, j < k → ls.getD (ts.getD j 0).toNat 0 ≠ 0) (fun i _ => T - (intOf i).toNat)
  case atStart => exact ⟨0, Nat.zero_le _, rfl, rfl, fun j hj => by omega⟩
  case round =>
    obtain ⟨k, hk, rfl, hwr, hnz⟩ := hrel
    subst hwr
    have HNZ : Hid (∀ j, j < k → ls.getD (ts.getD j 0).toNat 0 ≠ 0) := hnz
    clear hnz
    by_cases hlt : k < T
    · clear HPUT HALL HNE1 HNE2 HHN
      obtain ⟨b1, o1, rfl, hb1, hc1⟩ := HIB.out.len_pos k (by rw [HTL.out]; exact hlt)
      have hs0 := hc1 k (by rw [HTL.out]; exact hlt)
      have hsr := HTT.out k hlt
      generalize hsy : ts.getD k 0 = sy at *
      obtain ⟨sn, rfl⟩ : ∃ j : Nat, sy = j := ⟨sy.toNat, by omega⟩
      obtain ⟨b2, o2, rfl, hb2, hc2⟩ := HIA.out.len_pos sn (by rw [HLL.out]; omega)
      have hl0 := hc2 sn (by rw [HLL.out]; omega)
      have hLr := HOK.out sn (by omega)
      have HLE : Hid (ls.getD (ts.getD k 0).toNat 0 = ls.getD sn 0) := by unfold Hid; rw [hsy, Int.toNat_natCast]
      generalize hLe : ls.getD sn 0 = Lz at *
      clear hc1 hc2 hLe hsy
      by_cases hL0 : Lz = 0
      · have HNC : Hid (¬ coded ls ts) := HMM.out k hlt (by rw [HLE.out, hL0])
        subst hL0
        obtain ⟨r0, r1, t0, t1, hw⟩ := HR.out
        have HBB : Hid _ := hw
        clear hw HLE HMM HNZ HR
        go_wp2
        exact bodyPost_ret (v := .tuple #[.agg #[.slice none 0 0, .int .i64 0], .bool false]) (by simp [results, Tryd.results20, go_sem, r0, r1]) rfl ⟨by repeat (first | exact HBB.out | refine Below.setCell ?_ (by simp) _), fun h => absurd h HNC.out, fun _ => rfl⟩
      · have HNZ2 : Hid (∀ j, j < k + 1 → ls.getD (ts.getD j 0).toNat 0 ≠ 0) := fun j hj => by
          by_cases hjk : j = k
          · subst hjk; rw [HLE.out]; exact hL0
          · exact HNZ.out j (by omega)
        have hne0 : (Lz == 0) = false := by simpa using hL0
        clear HLE HNZ HMM HR
        go_wp2
        go_roundw
        case rel => exact ⟨k + 1, by omega, by go_num, trivial, HNZ2.out⟩
        case measure => simp [intOf]; omega
    · have hkn : k = T := by omega
      subst hkn
      have HCD : Hid (coded ls ts) := fun j hj => HNZ.out j (by rw [HTL.out] at hj; exact hj)
      clear HNZ HMM
      obtain ⟨r0, r1, t0, t1, hw⟩ := HR.out
      have HBW : Hid _ := hw
      clear hw HR
      go_wp2_with fail
      refine (HPUT.out _ _ (HIA.out.below ((Below.refl _ _).alloc (Nat.le_refl _) _) (Nat.le_refl _)) (HIB.out.below ((Below.refl _ _).alloc (Nat.le_refl _) _) (Nat.le_refl _)) (HALL.out _) HNE1.out HNE2.out).mono ?_
      rintro e w3 ⟨rfl, ⟨U, hU, v, hR3, hv3, hV3, hU3⟩, ho3⟩
      clear HPUT HALL HNE1 HNE2
      obtain ⟨a', cp, rfl, hm⟩ := hv3.mine
      have d0 := cellR (j := 0) hR3 rfl
      have d1 := cellR (j := 1) hR3 rfl
      have hb3 := ((Below.refl _ _).alloc (Nat.le_refl _) _).trans (ho3.below (Nat.le_of_lt (by simp)) (fun k hk => by subst hk; exact Nat.le_refl _))
      have u0 := keep hb3 HSZ.out r0
      have u1 := keep hb3 HSZ.out r1
      have v0 : w3.frozen? ⟨w.heap.size, 0, none⟩ = false := (hb3.frozen (p := ⟨w.heap.size, 0, none⟩) HSZ.out).trans t0
      have v1 : w3.frozen? ⟨w.heap.size, 1, none⟩ = false := (hb3.frozen (p := ⟨w.heap.size, 1, none⟩) HSZ.out).trans t1
      have HBB : Hid (Below w.heap.size w w3) := HBW.out.trans (hb3.mono (Nat.le_of_lt HSZ.out))
      have HGU : Hid (w.heap.size < U) := by have h1 := HSZ.out; simp at hU; unfold Hid; omega
      clear hb3 r0 r1 t0 t1 HBW HSZ hv3 hV3 hU3 ho3 hU hR3 HIA HIB
      generalize hYS : enc (hN ls ts k) (hV ls cs ts k) = ys at *
      have HYS : Hid (enc (hN ls ts k) (hV ls cs ts k) = ys) := hYS
      have hM4 : ((hN ls ts k : Nat) : Int) ≤ 4096 := by have := HHN.out; omega
      have hM0 : (0 : Int) ≤ ((hN ls ts k : Nat) : Int) := by omega
      generalize hMM : ((hN ls ts k : Nat) : Int) = M at *
      have HMM : Hid (((hN ls ts k : Nat) : Int) = M) := hMM
      have HM : Hid (Mine w3 U w3.heap.size a' cp ys) := hm
      clear hMM hYS hm HHN
      go_wp2
      refine bodyPost_ret (v := .tuple #[.agg #[.slice a' ys.length cp, .int .i64 M], .bool true]) (by simp [results, Tryd.results20, go_sem, u0, u1]) rfl ⟨((HBB.out.setCell (by simp) _).setCell (by simp) _), fun _ => ⟨a', cp, by rw [HCSE.out, HTL.out, HYS.out, HMM.out], ?_⟩, fun h => absurd HCD.out h⟩
      rw [HCSE.out, HTL.out, HYS.out]
      exact mine_out _ _ HM.out HGU.out (Nat.le_refl _)

/-- The model and the program put texts alike. -/
theorem huffPut_both (ls ts : List Int) (hl1 : ls.length ≤ 1048576) (hl2 : ts.length ≤ 1048576) : ∃ (ys : List Int) (M : Int) (ok : Bool), ys.length ≤ 1048576 ∧
    (∀ (a : Option Addr) (ca : Nat) (b : Option Addr) (cb : Nat) (w : World), Ins w a ls → Ins w b ts → Calls Tryd.prog 20 #[.slice a ls.length ca, .slice b ts.length cb] w fun e w' =>
      ∃ a' cp, e = .returned (.tuple #[.agg #[.slice a' ys.length cp, .int .i64 M], .bool ok]) ∧ Mine w' w.heap.size w'.heap.size a' cp ys ∧ Below w.heap.size w w') ∧
    (∀ (a : Option Addr) (ca : Nat) (b : Option Addr) (cb : Nat) (w : World), Ins w a ls → Ins w b ts → Four w → ErrT w → Calls Tryd.prog 21 #[.slice a ls.length ca, .slice b ts.length cb] w fun e w' =>
      ∃ a' cp, e = .returned (.tuple #[.agg #[.slice a' ys.length cp, .int .i64 M], .bool ok]) ∧ Mine w' w.heap.size w'.heap.size a' cp ys ∧ Below w.heap.size w w') := by
  by_cases h : lensB ls = true ∧ txtB ts ls.length = true
  · obtain ⟨h1, h2⟩ := h
    obtain ⟨hn1, hn2, hok⟩ := lensB_okH h1
    obtain ⟨-, -, ht3⟩ := txtB_bnd h2
    by_cases hc : coded ls ts
    · refine ⟨enc (hN ls ts ts.length) (hV ls (csOf ls) ts ts.length), (hN ls ts ts.length : Nat), true, ?_, fun a ca b cb w ha hb => ?_, fun a ca b cb w ha hb h4 hE => ?_⟩
      · have h3 := hN_le (ts := ts) hok ts.length
        rw [enc_len]
        omega
      · refine (specHuffPut_ok a ca ls b cb ts w ha hb h1 h2).mono ?_
        rintro e w' ⟨hb', hy, -⟩
        obtain ⟨a', cp, he, hm⟩ := hy hc
        exact ⟨a', cp, he, hm, hb'⟩
      · refine (implHuffPut_ok a ca ls b cb ts w ha hb h1 h2 h4 hE).mono ?_
        rintro e w' ⟨hb', hy, -⟩
        obtain ⟨a', cp, he, hm⟩ := hy hc
        exact ⟨a', cp, he, hm, hb'⟩
    · refine ⟨[], 0, false, by simp, fun a ca b cb w ha hb => ?_, fun a ca b cb w ha hb h4 hE => ?_⟩
      · refine (specHuffPut_ok a ca ls b cb ts w ha hb h1 h2).mono ?_
        rintro e w' ⟨hb', -, hy⟩
        exact ⟨none, 0, hy hc, .inl ⟨rfl, rfl, rfl⟩, hb'⟩
      · refine (implHuffPut_ok a ca ls b cb ts w ha hb h1 h2 h4 hE).mono ?_
        rintro e w' ⟨hb', -, hy⟩
        exact ⟨none, 0, hy hc, .inl ⟨rfl, rfl, rfl⟩, hb'⟩
  · refine ⟨[], 0, false, by simp, fun a ca b cb w ha hb => ?_, fun a ca b cb w ha hb h4 hE => ?_⟩
    · refine (specHuffPut_no a ca ls b cb ts w ha hb (by omega) (by omega) h).mono ?_
      rintro e w' ⟨rfl, hb'⟩
      exact ⟨none, 0, rfl, .inl ⟨rfl, rfl, rfl⟩, hb'⟩
    · refine (implHuffPut_no a ca ls b cb ts w ha hb (by omega) (by omega) h h4 hE).mono ?_
      rintro e w' ⟨rfl, hb'⟩
      exact ⟨none, 0, rfl, .inl ⟨rfl, rfl, rfl⟩, hb'⟩
end Go.Proofs.YtaiikncdghjmjaaDoor
