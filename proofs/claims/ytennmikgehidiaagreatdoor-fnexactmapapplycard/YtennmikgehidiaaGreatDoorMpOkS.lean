/-
  The model's MapOk.
-/
import Derived.Test.YtennmikgehidiaaGreatDoorMpSt2
import Derived.Test.YtennmikgehidiaaGreatDoorIApp
import Derived.Test.YtennmikgehidiaaGreatDoorMpA
namespace Go.Proofs.YtennmikgehidiaaGreatDoor
open Go.RowKit Go.Maps
set_option linter.unusedVariables false
set_option linter.unusedSimpArgs false

set_option maxRecDepth 20000 in
set_option maxHeartbeats 4000000 in
theorem atlasOf_any (a : Option Addr) (c : Nat) (ps : List (Int × Int)) (w : World) (hb : Pls w a ps) (hn : ps.length ≤ 1048576) :
    Calls Tryz.prog 23 #[.agg #[.slice a ps.length c]] w fun e w' =>
      ((mapB ps = true ∧ ∃ R M, e = .returned (.tuple #[.pointer (some ⟨R, 0, none⟩), .bool true]) ∧ Atl w' R M a ps.length c ∧ Liv w' M ps.length (liv ps ps.length) ∧ w.heap.size ≤ M) ∨ (mapB ps = false ∧ e = .returned (.tuple #[.pointer none, .bool false]))) ∧ Below w.heap.size w w' := by
  have hw : Below w.heap.size w (w.alloc (Obj.cells #[Value.slice a ps.length c] 32)) := (Below.refl _ _).alloc (Nat.le_refl _) _
  by_cases hl : 1 ≤ ps.length ∧ ps.length ≤ 16
  · have HY : Hid (okT ps ps.length = true → mapB ps = true) := mapB_yes ps hl
    have HN : Hid (∀ k, stpP ps k = false → k < ps.length → mapB ps = false) := mapB_no ps
    have HSTL : Hid (∀ (k m : Nat) (R M : Nat) (w : World), Atl w R M a ps.length c → Pls w a ps → Liv w M m (liv ps k) → M ≠ R → k < ps.length → m ≤ 1000 → Calls Tryz.prog 39 #[.pointer (some ⟨R, 0, none⟩), .int .i64 k] w fun e w' =>
      e = .returned (.bool (stpP ps k)) ∧ (stpP ps k = true → Liv w' M (m + 1) (liv ps (k + 1)) ∧ Atl w' R M a ps.length c) ∧ Below M w w') := fun k m R M w h1 h2 h3 h4 h5 h6 => settle_any R M a c ps k m w h1 h2 h3 h4 h5 hl.2 h6
    have HB : Hid (Pls w a ps) := hb
    have HZ : Hid (liv ps 0 = (fun _ => []) ∧ okT ps 0 = true ∧ ∀ k, okT ps k = true → stpP ps k = true → okT ps (k + 1) = true) := ⟨by funext s; rfl, rfl, fun k h1 h2 => by simp only [okT, h1, h2]; rfl⟩
    clear hb
    generalize mapB ps = RR at *
    generalize hlen : ps.length = n at *
    clear hlen hn
    obtain ⟨hl1, hl2⟩ := hl
    have hmm := @run_makeMap Tryz.prog
    go_enter Tryz.func23, Tryz.ntmps23
    go_wp2
    have e1 : (w.alloc (Obj.cells #[Value.slice a n c] 32)).heap.size = w.heap.size + 1 := by simp
    have e2 : ((w.alloc (Obj.cells #[Value.slice a n c] 32)).alloc (.map #[] 0)).heap.size = w.heap.size + 1 + 1 := by simp
    have HW : Hid (Below w.heap.size w (((w.alloc (Obj.cells #[Value.slice a n c] 32)).alloc (.map #[] 0)).alloc (Obj.cells #[Value.slice a n c, .map (some (w.heap.size + 1))] 61))) :=
      (((Below.refl _ _).alloc (Nat.le_refl _) _).alloc (by simp) _).alloc (by simp; omega) _
    have HL0 : Hid (Liv (((w.alloc (Obj.cells #[Value.slice a n c] 32)).alloc (.map #[] 0)).alloc (Obj.cells #[Value.slice a n c, .map (some (w.heap.size + 1))] 61)) (w.heap.size + 1) 0 (liv ps 0)) := by
      have h1 := (Liv.made (w.alloc (Obj.cells #[Value.slice a n c] 32))).below ((Below.refl _ _).alloc (Nat.le_refl _) (Obj.cells #[Value.slice a n c, .map (some (w.heap.size + 1))] 61))
      rw [e1] at h1
      rw [HZ.out.1]
      exact h1
    have HA0 : Hid (Atl (((w.alloc (Obj.cells #[Value.slice a n c] 32)).alloc (.map #[] 0)).alloc (Obj.cells #[Value.slice a n c, .map (some (w.heap.size + 1))] 61)) (w.heap.size + 1 + 1) (w.heap.size + 1) a n c) := ⟨by
      rw [← e2]; exact heap_alloc_new _ _⟩
    clear e1 e2 hmm
    generalize ((w.alloc (Obj.cells #[Value.slice a n c] 32)).alloc (.map #[] 0)).alloc (Obj.cells #[Value.slice a n c, .map (some (w.heap.size + 1))] 61) = W at *
    go_loopw [24] (fun i wr => ∃ k : Nat, k ≤ n ∧ i = .int .i64 k ∧ okT ps k = true ∧ Atl wr (w.heap.size + 1 + 1) (w.heap.size + 1) a n c ∧ Liv wr (w.heap.size + 1) k (liv ps k) ∧ Below w.heap.size w wr) (fun i _ => n - (intOf i).toNat)
    case atStart => exact ⟨0, Nat.zero_le _, rfl, HZ.out.2.1, HA0.out, HL0.out, HW.out⟩
    case round =>
      obtain ⟨k, hk, rfl, hok, hA, hL, hbel⟩ := hrel
      have HR : Hid (okT ps k = true ∧ Atl wr (w.heap.size + 1 + 1) (w.heap.size + 1) a n c ∧ Liv wr (w.heap.size + 1) k (liv ps k) ∧ Below w.heap.size w wr) := ⟨hok, hA, hL, hbel⟩
      clear hok hA hL hbel
      by_cases hlt : k < n
      · have HS := HSTL.out k k (w.heap.size + 1 + 1) (w.heap.size + 1) wr HR.out.2.1 (HB.out.below HR.out.2.2.2 (Nat.le_refl _)) HR.out.2.2.1 (by omega) hlt (by omega)
        go_wp2_with fail
        refine HS.mono ?_
        clear HS
        rintro e w1 ⟨rfl, hT, hb1⟩
        have HB1 : Hid (Below w.heap.size w w1) := HR.out.2.2.2.trans (hb1.mono (by omega))
        clear hb1
        cases hst : stpP ps k with
        | true =>
          have HT : Hid (okT ps (k + 1) = true ∧ Liv w1 (w.heap.size + 1) (k + 1) (liv ps (k + 1)) ∧ Atl w1 (w.heap.size + 1 + 1) (w.heap.size + 1) a n c) := ⟨HZ.out.2.2 k HR.out.1 hst, hT hst⟩
          clear hT hst
          go_wp2
          go_roundw
          case rel => exact ⟨k + 1, by omega, by go_num, HT.out.1, HT.out.2.2, HT.out.2.1, HB1.out⟩
          case measure => simp [intOf]; omega
        | false =>
          have HF : Hid (RR = false ∧ True) := ⟨HN.out k hst hlt, trivial⟩
          clear hT hst
          go_wp2
          exact bodyPost_ret (v := .tuple #[.pointer none, .bool false]) (by simp [results, Tryz.results23, go_sem]) rfl ⟨.inr ⟨HF.out.1, rfl⟩, HB1.out⟩
      · have hkn : k = n := by omega
        subst hkn
        have HF : Hid (RR = true ∧ True) := ⟨HY.out HR.out.1, trivial⟩
        go_wp2
        exact bodyPost_ret (v := .tuple #[.pointer (some ⟨w.heap.size + 1 + 1, 0, none⟩), .bool true]) (by simp [results, Tryz.results23, go_sem]) rfl ⟨.inl ⟨HF.out.1, _, _, rfl, HR.out.2.1, HR.out.2.2.1, by omega⟩, HR.out.2.2.2⟩
  · have HS : Hid (mapB ps = false ∧ True) := ⟨mapB_short ps hl, trivial⟩
    have key : (ps.length : Int) < 1 ∨ (1 ≤ (ps.length : Int) ∧ 16 < (ps.length : Int)) := by omega
    clear hl hb
    rcases key with h | ⟨h, h2⟩
    all_goals
      go_enter Tryz.func23, Tryz.ntmps23
      go_wp2
      exact bodyPost_ret (v := .tuple #[.pointer none, .bool false]) (by simp [results, Tryz.results23, go_sem]) rfl ⟨.inr ⟨HS.out.1, rfl⟩, hw⟩
end Go.Proofs.YtennmikgehidiaaGreatDoor
namespace Go.Proofs.YtennmikgehidiaaGreatDoor
open Go.RowKit
set_option linter.unusedVariables false
set_option linter.unusedSimpArgs false

/-- What MapLive answers. -/
def lvL (ps : List (Int × Int)) (s : Int) : List Int := if mapB ps then liv ps ps.length s else []

theorem liv_spec (ps : List (Int × Int)) (k : Nat) (h : mapB ps = true) (hk : k < ps.length) (s : Int) : liv ps (k + 1) s = if (ps.getD k dp).1 = s ∧ 0 < s then liv ps k s ++ [(k : Int)] else liv ps k s := by
  have h1 := gt_pos ps k h hk
  simp only [liv]
  rw [h1]
  by_cases hs : (ps.getD k dp).1 = s ∧ 0 < s
  · rw [if_pos hs, if_pos]
    rw [hs.1]
    simp [hs.2]
  · rw [if_neg hs, if_neg]
    simp only [Bool.and_eq_true, decide_eq_true_eq, beq_iff_eq]
    rintro ⟨h2, h3⟩
    exact hs ⟨h3, by omega⟩

set_option maxRecDepth 20000 in
set_option maxHeartbeats 4000000 in
theorem l8live_any (a : Option Addr) (cap : Nat) (ps : List (Int × Int)) (s : Int) (w : World) (hb : Pls w a ps) (hm : mapB ps = true) (hs : -9223372036854775808 ≤ s ∧ s ≤ 9223372036854775807) :
    Calls Tryz.prog 19 #[.agg #[.slice a ps.length cap], .int .i64 s] w fun e w' => (∃ a c, e = .returned (.slice a (liv ps ps.length s).length c) ∧ MinI w' w.heap.size w'.heap.size a c (liv ps ps.length s)) ∧ Below w.heap.size w w' := by
  obtain ⟨i0, hi, hz0, hz1, hz2⟩ := info_parts Tryz.infoI64
  have hln := mapB_len ps hm
  have HLS : Hid (∀ k, k < ps.length → liv ps (k + 1) s = if (ps.getD k dp).1 = s ∧ 0 < s then liv ps k s ++ [(k : Int)] else liv ps k s) := fun k hk => liv_spec ps k hm hk s
  have HLN : Hid (∀ k, (liv ps k s).length ≤ k) := fun k => liv_len ps k s
  have HL0 : Hid (liv ps 0 s = [] ∧ True) := ⟨rfl, trivial⟩
  have HB : Hid (Pls w a ps) := hb
  have hzz : (w.alloc (Obj.cells #[Value.slice a ps.length cap] 32)).cell? ⟨w.heap.size, 0, none⟩ = some (.slice a ps.length cap) := by simp
  have hzs : w.heap.size + 1 = (w.alloc (Obj.cells #[Value.slice a ps.length cap] 32)).heap.size := by simp
  have HW : Hid (Below w.heap.size w (w.alloc (Obj.cells #[Value.slice a ps.length cap] 32))) := (Below.refl _ _).alloc (Nat.le_refl _) _
  have HZS : Hid (w.heap.size + 1 = (w.alloc (Obj.cells #[Value.slice a ps.length cap] 32)).heap.size ∧ True) := ⟨hzs, trivial⟩
  clear hb hm hzs
  generalize hlen : ps.length = n at *
  have HL : Hid (ps.length = n ∧ True) := ⟨hlen, trivial⟩
  clear hlen
  go_enter Tryz.func19, Tryz.ntmps19
  go_wp2
  generalize w.alloc (Obj.cells #[Value.slice a n cap] 32) = W at *
  go_loopw [5, 6] (fun v i wr => ∃ (k : Nat) (va : Option Addr) (vc : Nat), k ≤ n ∧ i = .int .i64 k ∧ v = .slice va (liv ps k s).length vc ∧ OVI wr (w.heap.size + 1) (.slice va (liv ps k s).length vc) (liv ps k s) ∧ Below (w.heap.size + 1) W wr) (fun _ i _ => n - (intOf i).toNat)
  case atStart => exact ⟨0, none, 0, Nat.zero_le _, rfl, by rw [HL0.out.1]; rfl, by rw [HL0.out.1]; exact OVI.nil _ _, Below.refl _ _⟩
  case round =>
    obtain ⟨k, va, vc, hk, rfl, rfl, hov, hbel⟩ := hrel
    have HR : Hid (Below (w.heap.size + 1) W wr ∧ Below w.heap.size w wr ∧ w.heap.size + 1 ≤ wr.heap.size) := ⟨hbel, HW.out.trans (hbel.mono (by omega)), by rw [HZS.out.1]; exact hbel.size⟩
    have p0 := keep hbel (by omega) hzz
    have HOV : Hid (OVI wr (w.heap.size + 1) (.slice va (liv ps k s).length vc) (liv ps k s)) := hov
    have hll := HLN.out k
    clear hbel hov
    by_cases hlt : k < n
    · obtain ⟨b, off, rfl, hb1, hc1⟩ := HB.out.len_pos k (by rw [HL.out.1]; exact hlt)
      have c0 := keep HR.out.2.1 hb1 (hc1 k (by rw [HL.out.1]; exact hlt)).1
      have hls := HLS.out k hlt
      clear hc1
      generalize (ps.getD k dp).1 = x at *
      by_cases hx : x = s ∧ 0 < s
      · rw [if_pos hx] at hls
        obtain ⟨rfl, hx2⟩ := hx
        have HE : Hid (liv ps (k + 1) x = liv ps k x ++ [(k : Int)] ∧ True) := ⟨hls, trivial⟩
        clear hls
        generalize liv ps k x = ls at *
        go_wp2_with (at_builtin; refine wpList_append_own_at _ rfl _ _ 49 rfl (w.heap.size + 1) 3 i0 (.int .i64 0) 1 8 Tryz.underlying49 hi hz0 hz1 hz2 rfl (by decide) _ ls.length (ls.map (Value.int .i64)) rfl (HOV.out.1.alloc _) ⟨wr.heap.size, 0, none⟩ 1 1 [.int .i64 k] rfl rfl (cell_one_new _ _ _) (ints_oneCell .i64 [(k : Int)]) (by unfold maxLen; omega) (by omega) (by have := HR.out.2.2; simp; omega) ?_; intro v1 w1 hown1 hgrow1 hnil1 hloc1)
        have hov1 : OVI w1 (w.heap.size + 1) v1 (ls ++ [(k : Int)]) := ⟨by rw [List.length_append, List.map_append]; exact hown1, fun z hz => by
          rcases List.mem_append.1 hz with hz | hz
          · exact HOV.out.2 z hz
          · simp at hz; omega⟩
        have hb1' : Below (w.heap.size + 1) W w1 := app_below HR.out.1 HR.out.2.2 HOV.out hgrow1
        obtain ⟨va1, vc1, hv1⟩ := hov1.form
        rw [← HE.out.1] at hov1 hv1
        subst hv1
        have HN1 : Hid (OVI w1 (w.heap.size + 1) (.slice va1 (liv ps (k + 1) x).length vc1) (liv ps (k + 1) x) ∧ Below (w.heap.size + 1) W w1) := ⟨hov1, hb1'⟩
        clear hown1 hgrow1 hnil1 hloc1 hov1 hb1' HOV
        go_roundw
        case rel => exact ⟨k + 1, va1, vc1, by omega, by go_num, rfl, HN1.out.1, HN1.out.2⟩
        case measure => simp [intOf]; omega
      · rw [if_neg hx] at hls
        have HE : Hid (Value.slice va (liv ps k s).length vc = .slice va (liv ps (k + 1) s).length vc ∧ OVI wr (w.heap.size + 1) (.slice va (liv ps (k + 1) s).length vc) (liv ps (k + 1) s)) := by rw [hls]; exact ⟨rfl, HOV.out⟩
        clear hls
        have key : ¬ x = s ∨ (x = s ∧ ¬ 0 < s) := by omega
        clear hx
        rcases key with h | ⟨rfl, h⟩
        all_goals
          go_wp2
          go_roundw
          case rel => exact ⟨k + 1, va, vc, by omega, by go_num, HE.out.1, HE.out.2, HR.out.1⟩
          case measure => simp [intOf]; omega
    · have hkn : k = n := by omega
      subst hkn
      obtain ⟨a2, c2, e2, hm2⟩ := HOV.out.mine
      obtain ⟨rfl, -, rfl⟩ : va = a2 ∧ (liv ps k s).length = (liv ps k s).length ∧ vc = c2 := by simpa using e2
      have HF : Hid (MinI wr w.heap.size wr.heap.size va vc (liv ps k s)) := hm2.mono (by omega) (Nat.le_refl _)
      clear hm2 e2
      go_wp2
      go_ret
      exact ⟨⟨_, _, rfl, HF.out⟩, HR.out.2.1⟩
end Go.Proofs.YtennmikgehidiaaGreatDoor
namespace Go.Proofs.YtennmikgehidiaaGreatDoor
open Go.RowKit
set_option linter.unusedVariables false

set_option maxRecDepth 20000 in
set_option maxHeartbeats 8000000 in
theorem specMapOk_any (a : Option Addr) (cap : Nat) (ps : List (Int × Int)) (w : World) (hb : Pls w a ps) (hn : ps.length ≤ 1048576) :
    Calls Tryz.prog 17 #[.agg #[.slice a ps.length cap]] w fun e w' => e = .returned (.bool (mapB ps)) ∧ Below w.heap.size w w' := by
  have hw : Below w.heap.size w (w.alloc (Obj.cells #[Value.slice a ps.length cap] 32)) := (Below.refl _ _).alloc (Nat.le_refl _) _
  have HB : Hid (Pls (w.alloc (Obj.cells #[Value.slice a ps.length cap] 32)) a ps) := hb.alloc _
  by_cases hl : 1 ≤ ps.length ∧ ps.length ≤ 16
  · have HY : Hid (okT ps ps.length = true → mapB ps = true) := mapB_yes ps hl
    have HN : Hid (∀ k, stpP ps k = false → k < ps.length → mapB ps = false) := mapB_no ps
    clear hb
    generalize mapB ps = R at *
    generalize hlen : ps.length = n at *
    have HL : Hid (ps.length = n ∧ True) := ⟨hlen, trivial⟩
    clear hlen hn
    obtain ⟨hl1, hl2⟩ := hl
    have hzz : (w.alloc (Obj.cells #[Value.slice a n cap] 32)).cell? ⟨w.heap.size, 0, none⟩ = some (.slice a n cap) := by simp
    have hzs : w.heap.size < (w.alloc (Obj.cells #[Value.slice a n cap] 32)).heap.size := by simp
    go_enter Tryz.func17, Tryz.ntmps17
    go_wp2
    generalize w.alloc (Obj.cells #[Value.slice a n cap] 32) = W at *
    go_loopw [3] (fun i wr => ∃ k : Nat, k ≤ n ∧ i = .int .i64 k ∧ okT ps k = true ∧ Below W.heap.size W wr) (fun i _ => n - (intOf i).toNat)
    case atStart => exact ⟨0, Nat.zero_le _, rfl, rfl, Below.refl _ _⟩
    case round =>
      obtain ⟨k, hk, rfl, hok, hbel⟩ := hrel
      have HOK : Hid (okT ps k = true ∧ True) := ⟨hok, trivial⟩
      clear hok
      have p0 := keep hbel hzs hzz
      have hWs := hbel.size
      by_cases hlt : k < n
      · obtain ⟨b, off, rfl, hb1, hc1⟩ := (HB.out.below hbel (Nat.le_refl _)).len_pos k (by rw [HL.out.1]; exact hlt)
        obtain ⟨c0, c1⟩ := hc1 k (by rw [HL.out.1]; exact hlt)
        have HC : Hid (∀ i, i < n → wr.cell? ⟨b, off + i * 2, none⟩ = some (.int .i64 (ps.getD i dp).1) ∧ wr.cell? ⟨b, off + i * 2 + 1, none⟩ = some (.int .i64 (ps.getD i dp).2)) := fun i hi => hc1 i (by rw [HL.out.1]; exact hi)
        have HG : Hid (ps.getD k dp = ps.getD k dp ∧ (∀ q, q = ps.getD k dp → stpP ps k = (nwh q || (rgt q && !tkn ps q k)))) := ⟨rfl, fun q hq => by rw [hq]; rfl⟩
        clear hc1
        generalize hp : ps.getD k dp = p at *
        have HP : Hid (ps.getD k dp = p ∧ True) := ⟨hp, trivial⟩
        clear hp
        obtain ⟨x, y⟩ := p
        simp only at c0 c1
        have hST := HG.out.2 (x, y) rfl
        clear HG
        by_cases h0 : x = 0 ∧ y = 0
        · obtain ⟨rfl, rfl⟩ := h0
          have HOK2 : Hid (okT ps (k + 1) = true ∧ True) := ⟨by simp only [okT, HOK.out.1, hST]; rfl, trivial⟩
          clear hST HP
          go_wp2
          go_roundw
          case rel => exact ⟨k + 1, by omega, by go_num, HOK2.out.1, hbel.alloc (by omega) _⟩
          case measure => simp [intOf]; omega
        · have hnw : nwh (x, y) = false := by
            unfold nwh
            simp only [Bool.and_eq_false_iff, beq_eq_false_iff_ne]
            omega
          rw [hnw, Bool.false_or] at hST
          have HST : Hid (stpP ps k = (rgt (x, y) && !tkn ps (x, y) k) ∧ True) := ⟨hST, trivial⟩
          clear hST hnw
          by_cases hr : 2 ≤ x ∧ x ≤ 23 ∧ 0 ≤ y ∧ y ≤ 15
          · obtain ⟨r1, r2, r3, r4⟩ := hr
            have hrg : rgt (x, y) = true := decide_eq_true ⟨r1, r2, r3, r4⟩
            have HST2 : Hid (stpP ps k = (!tkn ps (x, y) k) ∧ True) := ⟨by rw [HST.out.1, hrg]; rfl, trivial⟩
            clear hrg HST
            have x0 : ¬ x = 0 := by omega
            clear h0
            go_wp2
            have hba : Below wr.heap.size wr (wr.alloc (Obj.cells #[Value.int IntKind.i64 x, Value.int IntKind.i64 y] 72)) := (Below.refl _ _).alloc (Nat.le_refl _) _
            have q0 := keep hba (by omega) p0
            have e0 : (wr.alloc (Obj.cells #[Value.int IntKind.i64 x, Value.int IntKind.i64 y] 72)).cell? ⟨wr.heap.size, 0, none⟩ = some (.int .i64 x) := by simp
            have e1 : (wr.alloc (Obj.cells #[Value.int IntKind.i64 x, Value.int IntKind.i64 y] 72)).cell? ⟨wr.heap.size, 1, none⟩ = some (.int .i64 y) := by simp
            have HBV : Hid (Below W.heap.size W (wr.alloc (Obj.cells #[Value.int IntKind.i64 x, Value.int IntKind.i64 y] 72))) := hbel.alloc (by omega) _
            have HC2 : Hid (∀ i, i < n → (wr.alloc (Obj.cells #[Value.int IntKind.i64 x, Value.int IntKind.i64 y] 72)).cell? ⟨b, off + i * 2, none⟩ = some (.int .i64 (ps.getD i dp).1) ∧ (wr.alloc (Obj.cells #[Value.int IntKind.i64 x, Value.int IntKind.i64 y] 72)).cell? ⟨b, off + i * 2 + 1, none⟩ = some (.int .i64 (ps.getD i dp).2)) := fun i hi => ⟨keep hba hb1 (HC.out i hi).1, keep hba hb1 (HC.out i hi).2⟩
            have HBV0 : Hid (Below w.heap.size w (wr.alloc (Obj.cells #[Value.int IntKind.i64 x, Value.int IntKind.i64 y] 72))) := hw.trans (HBV.out.mono (by omega))
            clear hba HC p0 c0 c1 hbel hb1
            generalize wr.heap.size = Q at *
            generalize wr.alloc (Obj.cells #[Value.int IntKind.i64 x, Value.int IntKind.i64 y] 72) = V at *
            go_loopw [5] (fun i wv => ∃ (j m : Nat), j ≤ k ∧ i = .int .i64 j ∧ wv = V.drewN m ∧ tkn ps (x, y) j = false) (fun i _ => k - (intOf i).toNat)
            case atStart => exact ⟨0, 0, Nat.zero_le _, rfl, rfl, rfl⟩
            case round =>
              obtain ⟨j, m, hj, rfl, rfl, htk⟩ := hrel
              have HTK : Hid (tkn ps (x, y) j = false ∧ True) := ⟨htk, trivial⟩
              clear htk
              by_cases hjk : j < k
              · obtain ⟨d0, d1⟩ := HC2.out j (by omega)
                have HTS : Hid (∀ q, q = ps.getD j dp → tkn ps (x, y) (j + 1) = (q == (x, y))) := fun q hq => by simp only [tkn, HTK.out.1, Bool.false_or, hq]
                have hTS := HTS.out (ps.getD j dp) rfl
                clear HTS HC2
                generalize ps.getD j dp = q at *
                obtain ⟨x2, y2⟩ := q
                simp only at d0 d1
                by_cases he : x2 = x ∧ y2 = y
                · obtain ⟨rfl, rfl⟩ := he
                  have HF : Hid (R = false ∧ True) := ⟨HN.out k (by rw [HST2.out.1, tkn_mono ps (x2, y2) (k := j + 1) (by rw [hTS]; simp) (by omega)]; rfl) hlt, trivial⟩
                  clear hTS
                  go_wp2
                  go_quiet (fail)
                  go_wp2
                  go_ret
                  exact ⟨by rw [HF.out.1]; rfl, below_dP (below_dP HBV0.out _) _⟩
                · have HT2 : Hid (tkn ps (x, y) (j + 1) = false ∧ True) := ⟨by rw [hTS]; simp only [beq_eq_false_iff_ne, ne_eq, Prod.mk.injEq]; exact he, trivial⟩
                  clear hTS
                  have hc : x2 ≠ x ∨ (x2 = x ∧ y2 ≠ y) := by omega
                  clear he
                  rcases hc with hc | ⟨rfl, hc⟩
                  all_goals
                    go_wp2
                    go_quiet (fail)
                    go_wp2
                    go_roundw
                    case rel => exact ⟨j + 1, _, by omega, by go_num, rfl, HT2.out.1⟩
                    case measure => simp [intOf]; omega
              · have hjk2 : j = k := by omega
                subst hjk2
                have HOK2 : Hid (okT ps (j + 1) = true ∧ True) := ⟨by simp only [okT, HOK.out.1, HST2.out.1, HTK.out.1]; rfl, trivial⟩
                clear HC2
                go_wp2
                go_roundw
                case rel => exact ⟨j + 1, by omega, by go_num, HOK2.out.1, below_dP HBV.out _⟩
                case measure => simp [intOf]; omega
          · have hrg : rgt (x, y) = false := decide_eq_false hr
            have HF : Hid (R = false ∧ True) := ⟨HN.out k (by rw [HST.out.1, hrg]; rfl) hlt, trivial⟩
            clear HST hrg
            have hbv := hbel.alloc (o := Obj.cells #[Value.int IntKind.i64 x, Value.int IntKind.i64 y] 72) (by omega)
            have hcs : x < 2 ∨ (2 ≤ x ∧ 24 ≤ x) ∨ (2 ≤ x ∧ x < 24 ∧ y < 0) ∨ (2 ≤ x ∧ x < 24 ∧ 0 ≤ y ∧ 16 ≤ y) := by omega
            have hcz : ¬ x = 0 ∨ (x = 0 ∧ ¬ y = 0) := by omega
            clear hr h0
            rcases hcs with h1 | ⟨h1, h2⟩ | ⟨h1, h2, h3⟩ | ⟨h1, h2, h3, h4⟩
            all_goals
              rcases hcz with hz | ⟨rfl, hz⟩
              all_goals first
                | omega
                | (go_wp2
                   go_ret
                   exact ⟨by rw [HF.out.1]; rfl, hw.trans (hbv.mono (by omega))⟩)
      · have hkn : k = n := by omega
        subst hkn
        have HF : Hid (R = true ∧ True) := ⟨HY.out HOK.out.1, trivial⟩
        go_wp2
        go_ret
        exact ⟨by rw [HF.out.1]; rfl, hw.trans (hbel.mono (by omega))⟩
  · rw [mapB_short ps hl]
    have key : (ps.length : Int) < 1 ∨ (1 ≤ (ps.length : Int) ∧ 16 < (ps.length : Int)) := by omega
    clear hl HB hb
    rcases key with h | ⟨h, h2⟩
    all_goals
      go_enter Tryz.func17, Tryz.ntmps17
      go_wp2
      go_ret
      exact ⟨rfl, hw⟩
end Go.Proofs.YtennmikgehidiaaGreatDoor
