/-
  The program's atlasOf and MapOk.
-/
import Derived.Test.YtnelpioadpdphaaMpSt2
namespace Go.Proofs.Ytnelpioadpdphaa
open Go.RowKit Go.Maps
set_option linter.unusedVariables false
set_option linter.unusedSimpArgs false

set_option maxRecDepth 20000 in
set_option maxHeartbeats 4000000 in
theorem atlasOf_any (a : Option Addr) (c : Nat) (ps : List (Int × Int)) (w : World) (hb : Pls w a ps) (hn : ps.length ≤ 1048576) :
    Calls Try.prog 24 #[.agg #[.slice a ps.length c]] w fun e w' =>
      ((mapB ps = true ∧ ∃ R M, e = .returned (.tuple #[.pointer (some ⟨R, 0, none⟩), .bool true]) ∧ Atl w' R M a ps.length c ∧ Liv w' M ps.length (liv ps ps.length) ∧ w.heap.size ≤ M) ∨ (mapB ps = false ∧ e = .returned (.tuple #[.pointer none, .bool false]))) ∧ Below w.heap.size w w' := by
  have hw : Below w.heap.size w (w.alloc (Obj.cells #[Value.slice a ps.length c] 25)) := (Below.refl _ _).alloc (Nat.le_refl _) _
  by_cases hl : 1 ≤ ps.length ∧ ps.length ≤ 16
  · have HY : Hid (okT ps ps.length = true → mapB ps = true) := mapB_yes ps hl
    have HN : Hid (∀ k, stpP ps k = false → k < ps.length → mapB ps = false) := mapB_no ps
    have HSTL : Hid (∀ (k m : Nat) (R M : Nat) (w : World), Atl w R M a ps.length c → Pls w a ps → Liv w M m (liv ps k) → M ≠ R → k < ps.length → m ≤ 1000 → Calls Try.prog 27 #[.pointer (some ⟨R, 0, none⟩), .int .i64 k] w fun e w' =>
      e = .returned (.bool (stpP ps k)) ∧ (stpP ps k = true → Liv w' M (m + 1) (liv ps (k + 1)) ∧ Atl w' R M a ps.length c) ∧ Below M w w') := fun k m R M w h1 h2 h3 h4 h5 h6 => settle_any R M a c ps k m w h1 h2 h3 h4 h5 hl.2 h6
    have HB : Hid (Pls w a ps) := hb
    have HZ : Hid (liv ps 0 = (fun _ => []) ∧ okT ps 0 = true ∧ ∀ k, okT ps k = true → stpP ps k = true → okT ps (k + 1) = true) := ⟨by funext s; rfl, rfl, fun k h1 h2 => by simp only [okT, h1, h2]; rfl⟩
    clear hb
    generalize mapB ps = RR at *
    generalize hlen : ps.length = n at *
    clear hlen hn
    obtain ⟨hl1, hl2⟩ := hl
    have hmm := @run_makeMap Try.prog
    go_enter Try.func24, Try.ntmps24
    go_wp2
    have e1 : (w.alloc (Obj.cells #[Value.slice a n c] 25)).heap.size = w.heap.size + 1 := by simp
    have e2 : ((w.alloc (Obj.cells #[Value.slice a n c] 25)).alloc (.map #[] 0)).heap.size = w.heap.size + 1 + 1 := by simp
    have HW : Hid (Below w.heap.size w (((w.alloc (Obj.cells #[Value.slice a n c] 25)).alloc (.map #[] 0)).alloc (Obj.cells #[Value.slice a n c, .map (some (w.heap.size + 1))] 64))) :=
      (((Below.refl _ _).alloc (Nat.le_refl _) _).alloc (by simp) _).alloc (by simp; omega) _
    have HL0 : Hid (Liv (((w.alloc (Obj.cells #[Value.slice a n c] 25)).alloc (.map #[] 0)).alloc (Obj.cells #[Value.slice a n c, .map (some (w.heap.size + 1))] 64)) (w.heap.size + 1) 0 (liv ps 0)) := by
      have h1 := (Liv.made (w.alloc (Obj.cells #[Value.slice a n c] 25))).below ((Below.refl _ _).alloc (Nat.le_refl _) (Obj.cells #[Value.slice a n c, .map (some (w.heap.size + 1))] 64))
      rw [e1] at h1
      rw [HZ.out.1]
      exact h1
    have HA0 : Hid (Atl (((w.alloc (Obj.cells #[Value.slice a n c] 25)).alloc (.map #[] 0)).alloc (Obj.cells #[Value.slice a n c, .map (some (w.heap.size + 1))] 64)) (w.heap.size + 1 + 1) (w.heap.size + 1) a n c) := ⟨by
      rw [← e2]; exact heap_alloc_new _ _⟩
    clear e1 e2 hmm
    generalize ((w.alloc (Obj.cells #[Value.slice a n c] 25)).alloc (.map #[] 0)).alloc (Obj.cells #[Value.slice a n c, .map (some (w.heap.size + 1))] 64) = W at *
    go_loopw [24] (fun i wr => ∃ k : Nat, k ≤ n ∧ i = .int .i64 k ∧ okT ps k = true ∧ Atl wr (w.heap.size + 1 + 1) (w.heap.size + 1) a n c ∧ Liv wr (w.heap.size + 1) k (liv ps k) ∧ Below w.heap.size w wr) (fun i _ => n - (intOf i).toNat)
    case atStart => exact ⟨0, Nat.zero_le _, rfl, HZ.out.2.1, HA0.out, HL0.out, HW.out⟩
    case round =>
      obtain ⟨k, hk, rfl, hok, hA, hL, hbel⟩ := hrel
      have HR : Hid (okT ps k = true ∧ Atl wr (w.heap.size + 1 + 1) (w.heap.size + 1) a n c ∧ Liv wr (w.heap.size + 1) k (liv ps k) ∧ Below w.heap.size w wr) := ⟨hok, hA, hL, hbel⟩
      clear hok hA hL hbel
      by_cases hlt : k < n
      · have HS := HSTL.out k k (w.heap.size + 1 + 1) (w.heap.size + 1) wr HR.out.2.1 (HB.out.below HR.out.2.2.2 (Nat.le_refl _)) HR.out.2.2.1 (by omega) hlt (by omega)
        go_wp2_with fail
        refine HS.mono ?_
        clear HS
        rintro e w1 ⟨rfl, hT, hb1⟩
        have HB1 : Hid (Below w.heap.size w w1) := HR.out.2.2.2.trans (hb1.mono (by omega))
        clear hb1
        cases hst : stpP ps k with
        | true =>
          have HT : Hid (okT ps (k + 1) = true ∧ Liv w1 (w.heap.size + 1) (k + 1) (liv ps (k + 1)) ∧ Atl w1 (w.heap.size + 1 + 1) (w.heap.size + 1) a n c) := ⟨HZ.out.2.2 k HR.out.1 hst, hT hst⟩
          clear hT hst
          go_wp2
          go_roundw
          case rel => exact ⟨k + 1, by omega, by go_num, HT.out.1, HT.out.2.2, HT.out.2.1, HB1.out⟩
          case measure => simp [intOf]; omega
        | false =>
          have HF : Hid (RR = false ∧ True) := ⟨HN.out k hst hlt, trivial⟩
          clear hT hst
          go_wp2
          exact bodyPost_ret (v := .tuple #[.pointer none, .bool false]) (by simp [results, Try.results24, go_sem]) rfl ⟨.inr ⟨HF.out.1, rfl⟩, HB1.out⟩
      · have hkn : k = n := by omega
        subst hkn
        have HF : Hid (RR = true ∧ True) := ⟨HY.out HR.out.1, trivial⟩
        go_wp2
        exact bodyPost_ret (v := .tuple #[.pointer (some ⟨w.heap.size + 1 + 1, 0, none⟩), .bool true]) (by simp [results, Try.results24, go_sem]) rfl ⟨.inl ⟨HF.out.1, _, _, rfl, HR.out.2.1, HR.out.2.2.1, by omega⟩, HR.out.2.2.2⟩
  · have HS : Hid (mapB ps = false ∧ True) := ⟨mapB_short ps hl, trivial⟩
    have key : (ps.length : Int) < 1 ∨ (1 ≤ (ps.length : Int) ∧ 16 < (ps.length : Int)) := by omega
    clear hl hb
    rcases key with h | ⟨h, h2⟩
    all_goals
      go_enter Try.func24, Try.ntmps24
      go_wp2
      exact bodyPost_ret (v := .tuple #[.pointer none, .bool false]) (by simp [results, Try.results24, go_sem]) rfl ⟨.inr ⟨HS.out.1, rfl⟩, hw⟩

set_option maxHeartbeats 800000 in
theorem implMapOk_any (a : Option Addr) (cap : Nat) (ps : List (Int × Int)) (w : World) (hb : Pls w a ps) (hn : ps.length ≤ 1048576) :
    Calls Try.prog 17 #[.agg #[.slice a ps.length cap]] w fun e w' => e = .returned (.bool (mapB ps)) ∧ Below w.heap.size w w' := by
  have hw : Below w.heap.size w (w.alloc (Obj.cells #[Value.slice a ps.length cap] 25)) := (Below.refl _ _).alloc (Nat.le_refl _) _
  go_enter Try.func17, Try.ntmps17
  go_wp2_with fail
  refine (atlasOf_any a cap ps _ (hb.below hw (Nat.le_refl _)) hn).mono ?_
  rintro e w1 ⟨hr, hb1⟩
  have HB1 : Hid (Below w.heap.size w w1) := hw.trans (hb1.mono hw.size)
  clear hb1 hb
  rcases hr with ⟨hm, R, M, rfl, -, -⟩ | ⟨hm, rfl⟩
  all_goals
    have HM : Hid (_ ∧ True) := ⟨hm, trivial⟩
    clear hm
    go_wp2
    go_ret
    exact ⟨by rw [HM.out.1]; rfl, HB1.out⟩
end Go.Proofs.Ytnelpioadpdphaa
