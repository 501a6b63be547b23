/-
  MapLive, both.
-/
import Derived.Test.YthihdnmdmfdhdaaMpAt
import Derived.Test.YthihdnmdmfdhdaaMpOkS
import Derived.Test.YthihdnmdmfdhdaaMpGet
namespace Go.Proofs.Ythihdnmdmfdhdaa
open Go.RowKit
set_option linter.unusedVariables false
set_option linter.unusedSimpArgs false

/-- What MapLive answers. -/
def lvL (ps : List (Int × Int)) (s : Int) : List Int := if mapB ps then liv ps ps.length s else []

set_option maxHeartbeats 2000000 in
theorem implMapLive_any (a : Option Addr) (cap : Nat) (ps : List (Int × Int)) (s : Int) (w : World) (hb : Pls w a ps) (hn : ps.length ≤ 1048576) (hs : -9223372036854775808 ≤ s ∧ s ≤ 9223372036854775807) :
    Calls Try.prog 23 #[.agg #[.slice a ps.length cap], .int .i64 s] w fun e w' => (∃ a c, e = .returned (.slice a (lvL ps s).length c) ∧ MinI w' w.heap.size w'.heap.size a c (lvL ps s)) ∧ Below w.heap.size w w' := by
  have hw : Below w.heap.size w (w.alloc (Obj.cells #[Value.slice a ps.length cap] 29)) := (Below.refl _ _).alloc (Nat.le_refl _) _
  have HAT := atlasOf_any a cap ps _ (hb.below hw (Nat.le_refl _)) hn
  clear hb
  go_enter Try.func23, Try.ntmps23
  go_wp2_with fail
  refine HAT.mono ?_
  clear HAT
  rintro e w1 ⟨hr, hb1⟩
  have HB1 : Hid (Below w.heap.size w w1) := hw.trans (hb1.mono hw.size)
  clear hb1
  rcases hr with ⟨hm, R, M, rfl, hA, hL, hM⟩ | ⟨hm, rfl⟩
  · have a1 := hA.c1
    have hln := (mapB_len ps hm).2
    obtain ⟨v, hlk, hov, hlen⟩ := hL.look (by omega) s (WalkArith.wf_i64 hs)
    obtain ⟨va, vc, rfl, hmi⟩ := hov.mine
    have HG : Hid (lvL ps s = liv ps ps.length s ∧ MinI w1 w.heap.size w1.heap.size va vc (liv ps ps.length s)) := ⟨by unfold lvL; rw [hm]; rfl, hmi.mono (by simp at hM; omega) (Nat.le_refl _)⟩
    have hlk2 : Sem.run Try.prog (Instr.lookup 67 (.map (some M)) (.int .i64 s) false) w1 = .ok (.slice va (liv ps ps.length s).length vc) w1 := hlk
    clear hm hA hL hlk hov hmi hM hlen
    generalize hll : liv ps ps.length s = ls at *
    go_wp2
    go_ret
    exact ⟨⟨va, vc, by rw [HG.out.1]; rfl, by rw [HG.out.1]; exact HG.out.2⟩, HB1.out⟩
  · have HG : Hid (lvL ps s = [] ∧ True) := ⟨by unfold lvL; rw [hm]; rfl, trivial⟩
    clear hm
    go_wp2
    go_ret
    exact ⟨⟨none, 0, by rw [HG.out.1]; rfl, .inl ⟨rfl, HG.out.1, rfl⟩⟩, HB1.out⟩

theorem liv_spec (ps : List (Int × Int)) (k : Nat) (h : mapB ps = true) (hk : k < ps.length) (s : Int) : liv ps (k + 1) s = if (ps.getD k dp).1 = s ∧ 0 < s then liv ps k s ++ [(k : Int)] else liv ps k s := by
  have h1 := gt_pos ps k h hk
  simp only [liv]
  rw [h1]
  by_cases hs : (ps.getD k dp).1 = s ∧ 0 < s
  · rw [if_pos hs, if_pos]
    rw [hs.1]
    simp [hs.2]
  · rw [if_neg hs, if_neg]
    simp only [Bool.and_eq_true, decide_eq_true_eq, beq_iff_eq]
    rintro ⟨h2, h3⟩
    exact hs ⟨h3, by omega⟩

set_option maxRecDepth 20000 in
set_option maxHeartbeats 4000000 in
theorem l8live_any (a : Option Addr) (cap : Nat) (ps : List (Int × Int)) (s : Int) (w : World) (hb : Pls w a ps) (hm : mapB ps = true) (hs : -9223372036854775808 ≤ s ∧ s ≤ 9223372036854775807) :
    Calls Try.prog 45 #[.agg #[.slice a ps.length cap], .int .i64 s] w fun e w' => (∃ a c, e = .returned (.slice a (liv ps ps.length s).length c) ∧ MinI w' w.heap.size w'.heap.size a c (liv ps ps.length s)) ∧ Below w.heap.size w w' := by
  obtain ⟨i0, hi, hz0, hz1, hz2⟩ := info_parts Try.infoI64
  have hln := mapB_len ps hm
  have HLS : Hid (∀ k, k < ps.length → liv ps (k + 1) s = if (ps.getD k dp).1 = s ∧ 0 < s then liv ps k s ++ [(k : Int)] else liv ps k s) := fun k hk => liv_spec ps k hm hk s
  have HLN : Hid (∀ k, (liv ps k s).length ≤ k) := fun k => liv_len ps k s
  have HL0 : Hid (liv ps 0 s = [] ∧ True) := ⟨rfl, trivial⟩
  have HB : Hid (Pls w a ps) := hb
  have hzz : (w.alloc (Obj.cells #[Value.slice a ps.length cap] 29)).cell? ⟨w.heap.size, 0, none⟩ = some (.slice a ps.length cap) := by simp
  have hzs : w.heap.size + 1 = (w.alloc (Obj.cells #[Value.slice a ps.length cap] 29)).heap.size := by simp
  have HW : Hid (Below w.heap.size w (w.alloc (Obj.cells #[Value.slice a ps.length cap] 29))) := (Below.refl _ _).alloc (Nat.le_refl _) _
  have HZS : Hid (w.heap.size + 1 = (w.alloc (Obj.cells #[Value.slice a ps.length cap] 29)).heap.size ∧ True) := ⟨hzs, trivial⟩
  clear hb hm hzs
  generalize hlen : ps.length = n at *
  have HL : Hid (ps.length = n ∧ True) := ⟨hlen, trivial⟩
  clear hlen
  go_enter Try.func45, Try.ntmps45
  go_wp2
  generalize w.alloc (Obj.cells #[Value.slice a n cap] 29) = W at *
  go_loopw [5, 6] (fun v i wr => ∃ (k : Nat) (va : Option Addr) (vc : Nat), k ≤ n ∧ i = .int .i64 k ∧ v = .slice va (liv ps k s).length vc ∧ OVI wr (w.heap.size + 1) (.slice va (liv ps k s).length vc) (liv ps k s) ∧ Below (w.heap.size + 1) W wr) (fun _ i _ => n - (intOf i).toNat)
  case atStart => exact ⟨0, none, 0, Nat.zero_le _, rfl, by rw [HL0.out.1]; rfl, by rw [HL0.out.1]; exact OVI.nil _ _, Below.refl _ _⟩
  case round =>
    obtain ⟨k, va, vc, hk, rfl, rfl, hov, hbel⟩ := hrel
    have HR : Hid (Below (w.heap.size + 1) W wr ∧ Below w.heap.size w wr ∧ w.heap.size + 1 ≤ wr.heap.size) := ⟨hbel, HW.out.trans (hbel.mono (by omega)), by rw [HZS.out.1]; exact hbel.size⟩
    have p0 := keep hbel (by omega) hzz
    have HOV : Hid (OVI wr (w.heap.size + 1) (.slice va (liv ps k s).length vc) (liv ps k s)) := hov
    have hll := HLN.out k
    clear hbel hov
    by_cases hlt : k < n
    · obtain ⟨b, off, rfl, hb1, hc1⟩ := HB.out.len_pos k (by rw [HL.out.1]; exact hlt)
      have c0 := keep HR.out.2.1 hb1 (hc1 k (by rw [HL.out.1]; exact hlt)).1
      have hls := HLS.out k hlt
      clear hc1
      generalize (ps.getD k dp).1 = x at *
      by_cases hx : x = s ∧ 0 < s
      · rw [if_pos hx] at hls
        obtain ⟨rfl, hx2⟩ := hx
        have HE : Hid (liv ps (k + 1) x = liv ps k x ++ [(k : Int)] ∧ True) := ⟨hls, trivial⟩
        clear hls
        generalize liv ps k x = ls at *
        go_wp2_with (at_builtin; refine wpList_append_own_at _ rfl _ _ 43 rfl (w.heap.size + 1) 3 i0 (.int .i64 0) 1 8 Try.underlying43 hi hz0 hz1 hz2 rfl (by decide) _ ls.length (ls.map (Value.int .i64)) rfl (HOV.out.1.alloc _) ⟨wr.heap.size, 0, none⟩ 1 1 [.int .i64 k] rfl rfl (cell_one_new _ _ _) (ints_oneCell .i64 [(k : Int)]) (by unfold maxLen; omega) (by omega) (by have := HR.out.2.2; simp; omega) ?_; intro v1 w1 hown1 hgrow1 hnil1 hloc1)
        have hov1 : OVI w1 (w.heap.size + 1) v1 (ls ++ [(k : Int)]) := ⟨by rw [List.length_append, List.map_append]; exact hown1, fun z hz => by
          rcases List.mem_append.1 hz with hz | hz
          · exact HOV.out.2 z hz
          · simp at hz; omega⟩
        have hb1' : Below (w.heap.size + 1) W w1 := app_below HR.out.1 HR.out.2.2 HOV.out hgrow1
        obtain ⟨va1, vc1, hv1⟩ := hov1.form
        rw [← HE.out.1] at hov1 hv1
        subst hv1
        have HN1 : Hid (OVI w1 (w.heap.size + 1) (.slice va1 (liv ps (k + 1) x).length vc1) (liv ps (k + 1) x) ∧ Below (w.heap.size + 1) W w1) := ⟨hov1, hb1'⟩
        clear hown1 hgrow1 hnil1 hloc1 hov1 hb1' HOV
        go_roundw
        case rel => exact ⟨k + 1, va1, vc1, by omega, by go_num, rfl, HN1.out.1, HN1.out.2⟩
        case measure => simp [intOf]; omega
      · rw [if_neg hx] at hls
        have HE : Hid (Value.slice va (liv ps k s).length vc = .slice va (liv ps (k + 1) s).length vc ∧ OVI wr (w.heap.size + 1) (.slice va (liv ps (k + 1) s).length vc) (liv ps (k + 1) s)) := by rw [hls]; exact ⟨rfl, HOV.out⟩
        clear hls
        have key : ¬ x = s ∨ (x = s ∧ ¬ 0 < s) := by omega
        clear hx
        rcases key with h | ⟨rfl, h⟩
        all_goals
          go_wp2
          go_roundw
          case rel => exact ⟨k + 1, va, vc, by omega, by go_num, HE.out.1, HE.out.2, HR.out.1⟩
          case measure => simp [intOf]; omega
    · have hkn : k = n := by omega
      subst hkn
      obtain ⟨a2, c2, e2, hm2⟩ := HOV.out.mine
      obtain ⟨rfl, -, rfl⟩ : va = a2 ∧ (liv ps k s).length = (liv ps k s).length ∧ vc = c2 := by simpa using e2
      have HF : Hid (MinI wr w.heap.size wr.heap.size va vc (liv ps k s)) := hm2.mono (by omega) (Nat.le_refl _)
      clear hm2 e2
      go_wp2
      go_ret
      exact ⟨⟨_, _, rfl, HF.out⟩, HR.out.2.1⟩

set_option maxHeartbeats 2000000 in
theorem specMapLive_any (a : Option Addr) (cap : Nat) (ps : List (Int × Int)) (s : Int) (w : World) (hb : Pls w a ps) (hn : ps.length ≤ 1048576) (hs : -9223372036854775808 ≤ s ∧ s ≤ 9223372036854775807) :
    Calls Try.prog 22 #[.agg #[.slice a ps.length cap], .int .i64 s] w fun e w' => (∃ a c, e = .returned (.slice a (lvL ps s).length c) ∧ MinI w' w.heap.size w'.heap.size a c (lvL ps s)) ∧ Below w.heap.size w w' := by
  have hw : Below w.heap.size w (w.alloc (Obj.cells #[Value.slice a ps.length cap] 29)) := (Below.refl _ _).alloc (Nat.le_refl _) _
  have hzz : (w.alloc (Obj.cells #[Value.slice a ps.length cap] 29)).cell? ⟨w.heap.size, 0, none⟩ = some (.slice a ps.length cap) := by simp
  have HAT := specMapOk_any a cap ps _ (hb.below hw (Nat.le_refl _)) hn
  have HB : Hid (Pls w a ps) := hb
  clear hb
  go_enter Try.func22, Try.ntmps22
  go_wp2_with fail
  refine HAT.mono ?_
  clear HAT
  rintro e w1 ⟨rfl, hb1⟩
  have HB1 : Hid (Below w.heap.size w w1) := hw.trans (hb1.mono hw.size)
  have p0 := keep hb1 (by simp) hzz
  clear hb1
  cases hm : mapB ps with
  | true =>
    have HG : Hid (lvL ps s = liv ps ps.length s ∧ True) := ⟨by unfold lvL; rw [hm]; rfl, trivial⟩
    have HL := l8live_any a cap ps s w1 (HB.out.below HB1.out (Nat.le_refl _)) hm hs
    clear hm
    go_wp2_with fail
    refine HL.mono ?_
    clear HL
    rintro e w2 ⟨⟨va, vc, rfl, hmi⟩, hb2⟩
    have HF : Hid (MinI w2 w.heap.size w2.heap.size va vc (lvL ps s) ∧ Below w.heap.size w w2) := ⟨by rw [HG.out.1]; exact hmi.mono HB1.out.size (Nat.le_refl _), HB1.out.trans (hb2.mono HB1.out.size)⟩
    clear hmi hb2
    go_wp2
    go_ret
    exact ⟨⟨va, vc, by rw [HG.out.1]; rfl, HF.out.1⟩, HF.out.2⟩
  | false =>
    have HG : Hid (lvL ps s = [] ∧ True) := ⟨by unfold lvL; rw [hm]; rfl, trivial⟩
    clear hm
    go_wp2
    go_ret
    exact ⟨⟨none, 0, by rw [HG.out.1]; rfl, .inl ⟨rfl, HG.out.1, rfl⟩⟩, HB1.out⟩
end Go.Proofs.Ythihdnmdmfdhdaa
