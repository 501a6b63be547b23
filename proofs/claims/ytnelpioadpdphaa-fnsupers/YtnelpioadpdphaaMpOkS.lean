/-
  The model's MapOk.
-/
import Derived.Test.YtnelpioadpdphaaMpM
namespace Go.Proofs.Ytnelpioadpdphaa
open Go.RowKit
set_option linter.unusedVariables false

set_option maxRecDepth 20000 in
set_option maxHeartbeats 8000000 in
theorem specMapOk_any (a : Option Addr) (cap : Nat) (ps : List (Int × Int)) (w : World) (hb : Pls w a ps) (hn : ps.length ≤ 1048576) :
    Calls Try.prog 6 #[.agg #[.slice a ps.length cap]] w fun e w' => e = .returned (.bool (mapB ps)) ∧ Below w.heap.size w w' := by
  have hw : Below w.heap.size w (w.alloc (Obj.cells #[Value.slice a ps.length cap] 25)) := (Below.refl _ _).alloc (Nat.le_refl _) _
  have HB : Hid (Pls (w.alloc (Obj.cells #[Value.slice a ps.length cap] 25)) a ps) := hb.alloc _
  by_cases hl : 1 ≤ ps.length ∧ ps.length ≤ 16
  · have HY : Hid (okT ps ps.length = true → mapB ps = true) := mapB_yes ps hl
    have HN : Hid (∀ k, stpP ps k = false → k < ps.length → mapB ps = false) := mapB_no ps
    clear hb
    generalize mapB ps = R at *
    generalize hlen : ps.length = n at *
    have HL : Hid (ps.length = n ∧ True) := ⟨hlen, trivial⟩
    clear hlen hn
    obtain ⟨hl1, hl2⟩ := hl
    have hzz : (w.alloc (Obj.cells #[Value.slice a n cap] 25)).cell? ⟨w.heap.size, 0, none⟩ = some (.slice a n cap) := by simp
    have hzs : w.heap.size < (w.alloc (Obj.cells #[Value.slice a n cap] 25)).heap.size := by simp
    go_enter Try.func6, Try.ntmps6
    go_wp2
    generalize w.alloc (Obj.cells #[Value.slice a n cap] 25) = W at *
    go_loopw [3] (fun i wr => ∃ k : Nat, k ≤ n ∧ i = .int .i64 k ∧ okT ps k = true ∧ Below W.heap.size W wr) (fun i _ => n - (intOf i).toNat)
    case atStart => exact ⟨0, Nat.zero_le _, rfl, rfl, Below.refl _ _⟩
    case round =>
      obtain ⟨k, hk, rfl, hok, hbel⟩ := hrel
      have HOK : Hid (okT ps k = true ∧ True) := ⟨hok, trivial⟩
      clear hok
      have p0 := keep hbel hzs hzz
      have hWs := hbel.size
      by_cases hlt : k < n
      · obtain ⟨b, off, rfl, hb1, hc1⟩ := (HB.out.below hbel (Nat.le_refl _)).len_pos k (by rw [HL.out.1]; exact hlt)
        obtain ⟨c0, c1⟩ := hc1 k (by rw [HL.out.1]; exact hlt)
        have HC : Hid (∀ i, i < n → wr.cell? ⟨b, off + i * 2, none⟩ = some (.int .i64 (ps.getD i dp).1) ∧ wr.cell? ⟨b, off + i * 2 + 1, none⟩ = some (.int .i64 (ps.getD i dp).2)) := fun i hi => hc1 i (by rw [HL.out.1]; exact hi)
        have HG : Hid (ps.getD k dp = ps.getD k dp ∧ (∀ q, q = ps.getD k dp → stpP ps k = (nwh q || (rgt q && !tkn ps q k)))) := ⟨rfl, fun q hq => by rw [hq]; rfl⟩
        clear hc1
        generalize hp : ps.getD k dp = p at *
        have HP : Hid (ps.getD k dp = p ∧ True) := ⟨hp, trivial⟩
        clear hp
        obtain ⟨x, y⟩ := p
        simp only at c0 c1
        have hST := HG.out.2 (x, y) rfl
        clear HG
        by_cases h0 : x = 0 ∧ y = 0
        · obtain ⟨rfl, rfl⟩ := h0
          have HOK2 : Hid (okT ps (k + 1) = true ∧ True) := ⟨by simp only [okT, HOK.out.1, hST]; rfl, trivial⟩
          clear hST HP
          go_wp2
          go_roundw
          case rel => exact ⟨k + 1, by omega, by go_num, HOK2.out.1, hbel.alloc (by omega) _⟩
          case measure => simp [intOf]; omega
        · have hnw : nwh (x, y) = false := by
            unfold nwh
            simp only [Bool.and_eq_false_iff, beq_eq_false_iff_ne]
            omega
          rw [hnw, Bool.false_or] at hST
          have HST : Hid (stpP ps k = (rgt (x, y) && !tkn ps (x, y) k) ∧ True) := ⟨hST, trivial⟩
          clear hST hnw
          by_cases hr : 2 ≤ x ∧ x ≤ 23 ∧ 0 ≤ y ∧ y ≤ 15
          · obtain ⟨r1, r2, r3, r4⟩ := hr
            have hrg : rgt (x, y) = true := decide_eq_true ⟨r1, r2, r3, r4⟩
            have HST2 : Hid (stpP ps k = (!tkn ps (x, y) k) ∧ True) := ⟨by rw [HST.out.1, hrg]; rfl, trivial⟩
            clear hrg HST
            have x0 : ¬ x = 0 := by omega
            clear h0
            go_wp2
            have hba : Below wr.heap.size wr (wr.alloc (Obj.cells #[Value.int IntKind.i64 x, Value.int IntKind.i64 y] 49)) := (Below.refl _ _).alloc (Nat.le_refl _) _
            have q0 := keep hba (by omega) p0
            have e0 : (wr.alloc (Obj.cells #[Value.int IntKind.i64 x, Value.int IntKind.i64 y] 49)).cell? ⟨wr.heap.size, 0, none⟩ = some (.int .i64 x) := by simp
            have e1 : (wr.alloc (Obj.cells #[Value.int IntKind.i64 x, Value.int IntKind.i64 y] 49)).cell? ⟨wr.heap.size, 1, none⟩ = some (.int .i64 y) := by simp
            have HBV : Hid (Below W.heap.size W (wr.alloc (Obj.cells #[Value.int IntKind.i64 x, Value.int IntKind.i64 y] 49))) := hbel.alloc (by omega) _
            have HC2 : Hid (∀ i, i < n → (wr.alloc (Obj.cells #[Value.int IntKind.i64 x, Value.int IntKind.i64 y] 49)).cell? ⟨b, off + i * 2, none⟩ = some (.int .i64 (ps.getD i dp).1) ∧ (wr.alloc (Obj.cells #[Value.int IntKind.i64 x, Value.int IntKind.i64 y] 49)).cell? ⟨b, off + i * 2 + 1, none⟩ = some (.int .i64 (ps.getD i dp).2)) := fun i hi => ⟨keep hba hb1 (HC.out i hi).1, keep hba hb1 (HC.out i hi).2⟩
            have HBV0 : Hid (Below w.heap.size w (wr.alloc (Obj.cells #[Value.int IntKind.i64 x, Value.int IntKind.i64 y] 49))) := hw.trans (HBV.out.mono (by omega))
            clear hba HC p0 c0 c1 hbel hb1
            generalize wr.heap.size = Q at *
            generalize wr.alloc (Obj.cells #[Value.int IntKind.i64 x, Value.int IntKind.i64 y] 49) = V at *
            go_loopw [5] (fun i wv => ∃ (j m : Nat), j ≤ k ∧ i = .int .i64 j ∧ wv = V.drewN m ∧ tkn ps (x, y) j = false) (fun i _ => k - (intOf i).toNat)
            case atStart => exact ⟨0, 0, Nat.zero_le _, rfl, rfl, rfl⟩
            case round =>
              obtain ⟨j, m, hj, rfl, rfl, htk⟩ := hrel
              have HTK : Hid (tkn ps (x, y) j = false ∧ True) := ⟨htk, trivial⟩
              clear htk
              by_cases hjk : j < k
              · obtain ⟨d0, d1⟩ := HC2.out j (by omega)
                have HTS : Hid (∀ q, q = ps.getD j dp → tkn ps (x, y) (j + 1) = (q == (x, y))) := fun q hq => by simp only [tkn, HTK.out.1, Bool.false_or, hq]
                have hTS := HTS.out (ps.getD j dp) rfl
                clear HTS HC2
                generalize ps.getD j dp = q at *
                obtain ⟨x2, y2⟩ := q
                simp only at d0 d1
                by_cases he : x2 = x ∧ y2 = y
                · obtain ⟨rfl, rfl⟩ := he
                  have HF : Hid (R = false ∧ True) := ⟨HN.out k (by rw [HST2.out.1, tkn_mono ps (x2, y2) (k := j + 1) (by rw [hTS]; simp) (by omega)]; rfl) hlt, trivial⟩
                  clear hTS
                  go_wp2
                  go_quiet (fail)
                  go_wp2
                  go_ret
                  exact ⟨by rw [HF.out.1]; rfl, below_dP (below_dP HBV0.out _) _⟩
                · have HT2 : Hid (tkn ps (x, y) (j + 1) = false ∧ True) := ⟨by rw [hTS]; simp only [beq_eq_false_iff_ne, ne_eq, Prod.mk.injEq]; exact he, trivial⟩
                  clear hTS
                  have hc : x2 ≠ x ∨ (x2 = x ∧ y2 ≠ y) := by omega
                  clear he
                  rcases hc with hc | ⟨rfl, hc⟩
                  all_goals
                    go_wp2
                    go_quiet (fail)
                    go_wp2
                    go_roundw
                    case rel => exact ⟨j + 1, _, by omega, by go_num, rfl, HT2.out.1⟩
                    case measure => simp [intOf]; omega
              · have hjk2 : j = k := by omega
                subst hjk2
                have HOK2 : Hid (okT ps (j + 1) = true ∧ True) := ⟨by simp only [okT, HOK.out.1, HST2.out.1, HTK.out.1]; rfl, trivial⟩
                clear HC2
                go_wp2
                go_roundw
                case rel => exact ⟨j + 1, by omega, by go_num, HOK2.out.1, below_dP HBV.out _⟩
                case measure => simp [intOf]; omega
          · have hrg : rgt (x, y) = false := decide_eq_false hr
            have HF : Hid (R = false ∧ True) := ⟨HN.out k (by rw [HST.out.1, hrg]; rfl) hlt, trivial⟩
            clear HST hrg
            have hbv := hbel.alloc (o := Obj.cells #[Value.int IntKind.i64 x, Value.int IntKind.i64 y] 49) (by omega)
            have hcs : x < 2 ∨ (2 ≤ x ∧ 24 ≤ x) ∨ (2 ≤ x ∧ x < 24 ∧ y < 0) ∨ (2 ≤ x ∧ x < 24 ∧ 0 ≤ y ∧ 16 ≤ y) := by omega
            have hcz : ¬ x = 0 ∨ (x = 0 ∧ ¬ y = 0) := by omega
            clear hr h0
            rcases hcs with h1 | ⟨h1, h2⟩ | ⟨h1, h2, h3⟩ | ⟨h1, h2, h3, h4⟩
            all_goals
              rcases hcz with hz | ⟨rfl, hz⟩
              all_goals first
                | omega
                | (go_wp2
                   go_ret
                   exact ⟨by rw [HF.out.1]; rfl, hw.trans (hbv.mono (by omega))⟩)
      · have hkn : k = n := by omega
        subst hkn
        have HF : Hid (R = true ∧ True) := ⟨HY.out HOK.out.1, trivial⟩
        go_wp2
        go_ret
        exact ⟨by rw [HF.out.1]; rfl, hw.trans (hbel.mono (by omega))⟩
  · rw [mapB_short ps hl]
    have key : (ps.length : Int) < 1 ∨ (1 ≤ (ps.length : Int) ∧ 16 < (ps.length : Int)) := by omega
    clear hl HB hb
    rcases key with h | ⟨h, h2⟩
    all_goals
      go_enter Try.func6, Try.ntmps6
      go_wp2
      go_ret
      exact ⟨rfl, hw⟩
end Go.Proofs.Ytnelpioadpdphaa
