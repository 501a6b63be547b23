/-
  SuperBytes of the program.
-/
import Derived.Test.YtnelpioadpdphaaMpSb
import Derived.Test.YtnelpioadpdphaaMpAt
namespace Go.Proofs.Ytnelpioadpdphaa
open Go.RowKit
set_option linter.unusedVariables false
set_option linter.unusedSimpArgs false

/-- What SuperBytes answers. -/
def sbB (e : Int) (ps : List (Int × Int)) : Bool := decide (0 ≤ e ∧ e ≤ 60000) && mapB ps
def sbA (e : Int) (ps : List (Int × Int)) : List Int := if sbB e ps then sbL e ps else []
theorem sb_yes (e : Int) (ps : List (Int × Int)) (h : 0 ≤ e ∧ e ≤ 60000) (hm : mapB ps = true) : sbB e ps = true ∧ sbA e ps = sbL e ps := by
  have : sbB e ps = true := by unfold sbB; rw [decide_eq_true h, hm]; rfl
  exact ⟨this, by unfold sbA; rw [this]; rfl⟩
theorem sb_no (e : Int) (ps : List (Int × Int)) (h : ¬ (0 ≤ e ∧ e ≤ 60000) ∨ mapB ps = false) : sbB e ps = false ∧ sbA e ps = [] := by
  have : sbB e ps = false := by
    unfold sbB
    rcases h with h | h
    · rw [decide_eq_false h]; rfl
    · rw [h, Bool.and_false]
  exact ⟨this, by unfold sbA; rw [this]; rfl⟩

theorem epochOk_any (x : Int) (w : World) :
    Calls Try.prog 16 #[.int .i64 x] w fun e w' => e = .returned (.bool (decide (0 ≤ x ∧ x ≤ 60000))) ∧ w' = w := by
  have key : (0 ≤ x ∧ x ≤ 60000) ∨ ¬ 0 ≤ x ∨ (0 ≤ x ∧ ¬ x ≤ 60000) := by omega
  rcases key with ⟨h1, h2⟩ | h1 | ⟨h1, h2⟩
  · rw [decide_eq_true ⟨h1, h2⟩]
    go_enter Try.func16, Try.ntmps16
    go_wp2
    go_ret
    exact ⟨by simp [h1, h2], rfl⟩
  · rw [decide_eq_false (fun hh => h1 hh.1)]
    go_enter Try.func16, Try.ntmps16
    go_wp2
    go_ret
    exact ⟨by simp [h1], rfl⟩
  · rw [decide_eq_false (fun hh => h2 hh.2)]
    go_enter Try.func16, Try.ntmps16
    go_wp2
    go_ret
    exact ⟨by simp [h1, h2], rfl⟩

set_option maxRecDepth 20000 in
set_option maxHeartbeats 8000000 in
theorem implSuperBytes_any (a : Option Addr) (cap : Nat) (ps : List (Int × Int)) (e : Int) (w : World) (hb : Pls w a ps) (hn : ps.length ≤ 1048576) :
    Calls Try.prog 5 #[.int .i64 e, .agg #[.slice a ps.length cap]] w fun r w' => (∃ v, r = .returned (.tuple #[v, .bool (sbB e ps)]) ∧ OVB w' w.heap.size v (sbA e ps)) ∧ Below w.heap.size w w' := by
  have hw : Below w.heap.size w (w.alloc (Obj.cells #[Value.slice a ps.length cap] 25)) := (Below.refl _ _).alloc (Nat.le_refl _) _
  have hzz : (w.alloc (Obj.cells #[Value.slice a ps.length cap] 25)).cell? ⟨w.heap.size, 0, none⟩ = some (.slice a ps.length cap) := by simp
  have HZS : Hid (w.heap.size + 1 = (w.alloc (Obj.cells #[Value.slice a ps.length cap] 25)).heap.size ∧ True) := ⟨by simp, trivial⟩
  by_cases he : 0 ≤ e ∧ e ≤ 60000
  · have HMO := implMapOk_any a cap ps _ (hb.below hw (Nat.le_refl _)) hn
    have HB : Hid (Pls w a ps) := hb
    have HY : Hid (mapB ps = true → sbB e ps = true ∧ sbA e ps = sbL e ps) := sb_yes e ps he
    have HN : Hid (mapB ps = false → sbB e ps = false ∧ sbA e ps = []) := fun h => sb_no e ps (.inr h)
    clear hb
    go_enter Try.func5, Try.ntmps5
    go_wp2_with fail
    refine (epochOk_any e _).mono ?_
    rintro r w0 ⟨rfl, rfl⟩
    rw [decide_eq_true he]
    go_wp2_with fail
    refine HMO.mono ?_
    clear HMO
    rintro r w1 ⟨rfl, hb1⟩
    have HB1 : Hid (Below w.heap.size w w1) := hw.trans (hb1.mono hw.size)
    have z1 : w.heap.size < w1.heap.size := by have := hb1.size; have := HZS.out.1; omega
    have p0 := keep hb1 (by rw [← HZS.out.1]; omega) hzz
    clear hb1
    cases hm : mapB ps with
    | false =>
      have HG : Hid (sbB e ps = false ∧ sbA e ps = []) := HN.out hm
      clear hm HY HN
      go_wp2
      exact bodyPost_ret (v := .tuple #[.slice none 0 0, .bool false]) (by simp [results, Try.results5, go_sem]) rfl ⟨⟨_, by rw [HG.out.1], by rw [HG.out.2]; exact OVB.nil _ _⟩, HB1.out⟩
    | true =>
      have HG : Hid (sbB e ps = true ∧ sbA e ps = sbL e ps) := HY.out hm
      have HRG : Hid (∀ p ∈ ps, bP p) := mapB_rng ps hm
      have hl := mapB_len ps hm
      clear hm HY HN hw hzz HZS
      have HSB : Hid (sbL e ps = (sbH e ps.length ++ bts (ps.take ps.length)) ++ List.replicate (252 - ps.length * 2) 0 ∧ sbH e ps.length ++ bts (ps.take 0) = [83, e / 256, e % 256, (ps.length : Int)]) := ⟨by rw [List.take_length]; rfl, rfl⟩
      have HSL : Hid (∀ k, k ≤ ps.length → (sbH e ps.length ++ bts (ps.take k)).length = 4 + k * 2) := fun k hk => by rw [List.length_append, bts_len, sbH_len, List.length_take, Nat.min_eq_left hk]
      have HSS : Hid (∀ k, k < ps.length → (sbH e ps.length ++ bts (ps.take k)) ++ [(ps.getD k dp).1, (ps.getD k dp).2] = sbH e ps.length ++ bts (ps.take (k + 1))) := fun k hk => by rw [bts_take_succ ps k hk, List.append_assoc]
      generalize hlen : ps.length = n at *
      have HL : Hid (ps.length = n ∧ True) := ⟨hlen, trivial⟩
      clear hlen hn
      have he1 : 0 ≤ e / 256 ∧ e / 256 ≤ 255 := by omega
      have he2 : 0 ≤ e % 256 ∧ e % 256 ≤ 255 := by omega
      have HOV0 : Hid (OVB (w1.alloc (.cells #[.int .u8 83, .int .u8 (e / 256), .int .u8 (e % 256), .int .u8 n] 5)) w1.heap.size (.slice (some ⟨w1.heap.size, 0, none⟩) (sbH e n ++ bts (ps.take 0)).length 4) (sbH e n ++ bts (ps.take 0))) := by
        have h1 := build4 w1 83 (e / 256) (e % 256) n (by omega) he1 he2 (by omega) w1.heap.size (Nat.le_refl _)
        rw [HSB.out.2]
        exact h1
      have q0 := keepA (Obj.cells #[.int .u8 83, .int .u8 (e / 256), .int .u8 (e % 256), .int .u8 n] 5) z1 p0
      go_wp2
      have HB0 : Hid (Below w1.heap.size w1 (w1.alloc (.cells #[.int .u8 83, .int .u8 (e / 256), .int .u8 (e % 256), .int .u8 n] 5))) := (Below.refl _ _).alloc (Nat.le_refl _) _
      clear he1 he2 p0 q0
      generalize w1.alloc (.cells #[.int .u8 83, .int .u8 (e / 256), .int .u8 (e % 256), .int .u8 n] 5) = W0 at *
      go_loopw [6, 30] (fun v i wr => ∃ (k : Nat) (va : Option Addr) (vc : Nat), k ≤ n ∧ i = .int .i64 k ∧ v = .slice va (sbH e n ++ bts (ps.take k)).length vc ∧ OVB wr w1.heap.size (.slice va (sbH e n ++ bts (ps.take k)).length vc) (sbH e n ++ bts (ps.take k)) ∧ Below w1.heap.size w1 wr) (fun _ i _ => n - (intOf i).toNat)
      case atStart => exact ⟨0, _, 4, Nat.zero_le _, rfl, by rw [HSL.out 0 (Nat.zero_le _)], HOV0.out, HB0.out⟩
      case round =>
        obtain ⟨k, va, vc, hk, rfl, rfl, hov, hbel⟩ := hrel
        have HR : Hid (Below w1.heap.size w1 wr ∧ Below w.heap.size w wr ∧ w1.heap.size ≤ wr.heap.size) := ⟨hbel, HB1.out.trans (hbel.mono HB1.out.size), hbel.size⟩
        have HOV : Hid (OVB wr w1.heap.size (.slice va (sbH e n ++ bts (ps.take k)).length vc) (sbH e n ++ bts (ps.take k))) := hov
        have hsl := HSL.out k hk
        clear hbel hov HOV0 HB0
        by_cases hlt : k < n
        · obtain ⟨b, off, rfl, hbw, hc1⟩ := HB.out.len_pos k (by rw [HL.out.1]; exact hlt)
          have c0 := keep HR.out.2.1 hbw (hc1 k (by rw [HL.out.1]; exact hlt)).1
          have c1 := keep HR.out.2.1 hbw (hc1 k (by rw [HL.out.1]; exact hlt)).2
          have hrg := HRG.out _ (getD_memP (k := k) (by rw [HL.out.1]; exact hlt))
          have HE : Hid (_ ∧ True) := ⟨HSS.out k hlt, trivial⟩
          clear hc1 HSS HSL
          generalize ps.getD k dp = q at *
          obtain ⟨x, y⟩ := q
          obtain ⟨⟨x1, x2⟩, y1, y2⟩ := hrg
          simp only at c0 c1 x1 x2 y1 y2 HE
          generalize sbH e n ++ bts (ps.take k) = ls at *
          have hsl2 : ls.length ≤ 300 := by omega
          clear hsl
          have hba : Below wr.heap.size wr (wr.alloc (Obj.cells #[.int .i64 x, .int .i64 y] 49)) := (Below.refl _ _).alloc (Nat.le_refl _) _
          have HO2 : Hid (OVB ((wr.alloc (Obj.cells #[.int .i64 x, .int .i64 y] 49)).alloc (.cells #[.int .u8 x, .int .u8 y] 5)) w1.heap.size (.slice va ls.length vc) ls ∧ Byt ((wr.alloc (Obj.cells #[.int .i64 x, .int .i64 y] 49)).alloc (.cells #[.int .u8 x, .int .u8 y] 5)) (some ⟨(wr.alloc (Obj.cells #[.int .i64 x, .int .i64 y] 49)).heap.size, 0, none⟩) [x, y] ∧ Below w1.heap.size w1 ((wr.alloc (Obj.cells #[.int .i64 x, .int .i64 y] 49)).alloc (.cells #[.int .u8 x, .int .u8 y] 5)) ∧ w1.heap.size ≤ ((wr.alloc (Obj.cells #[.int .i64 x, .int .i64 y] 49)).alloc (.cells #[.int .u8 x, .int .u8 y] 5)).heap.size) :=
            ⟨(HOV.out.alloc _).alloc _, byt_two _ x y ⟨x1, x2⟩ ⟨y1, y2⟩, (HR.out.1.alloc HR.out.2.2 _).alloc (by have := HR.out.2.2; simp; omega) _, by have := HR.out.2.2; simp; omega⟩
          go_wp2_with (at_builtin; refine wpList_append_byt rfl _ _ rfl w1.heap.size (.slice va ls.length vc) ls (by simp [Act.eval]) (by exact HO2.out.1) (some ⟨wr.heap.size + 1, 0, none⟩) 2 [x, y] (by simp [Act.eval]) (by have h9 := HO2.out.2.1; simp at h9; exact h9) (by simp; omega) (by exact HO2.out.2.2.2) ?_; intro v1 w2 hov1 hg1)
          have hb1' : Below w1.heap.size w1 w2 := appB_below HO2.out.2.2.1 HO2.out.2.2.2 HO2.out.1 hg1
          obtain ⟨va1, vc1, hv1⟩ := hov1.form
          rw [HE.out.1] at hov1 hv1
          subst hv1
          have HN1 : Hid (OVB w2 w1.heap.size (.slice va1 (sbH e n ++ bts (ps.take (k + 1))).length vc1) (sbH e n ++ bts (ps.take (k + 1))) ∧ Below w1.heap.size w1 w2) := ⟨hov1, hb1'⟩
          clear hov1 hg1 hb1' HO2 hba
          go_roundw
          case rel => exact ⟨k + 1, va1, vc1, by omega, by go_num, rfl, HN1.out.1, HN1.out.2⟩
          case measure => simp [intOf]; omega
        · have hkn : k = n := by omega
          subst hkn
          have hsub : (256 : Int) - ((sbH e k ++ bts (ps.take k)).length : Int) = ((252 - k * 2 : Nat) : Int) := by omega
          have HZ : Hid (sbL e ps = (sbH e k ++ bts (ps.take k)) ++ List.replicate (252 - k * 2) 0 ∧ True) := ⟨HSB.out.1, trivial⟩
          clear HSB HSS HSL
          generalize sbH e k ++ bts (ps.take k) = ls at *
          have hsl2 : ls.length ≤ 300 ∧ 0 < ls.length ∧ ls.length + (252 - k * 2) ≤ 1000000 := by omega
          have hsub2 : (256 : Int) - (ls.length : Int) = ((252 - k * 2 : Nat) : Int) := hsub
          clear hsl hsub
          generalize 252 - k * 2 = m at *
          go_wp2_with (at_builtin; refine wpList_append_zerB rfl _ _ rfl w1.heap.size (.slice va ls.length vc) ls (by simp [Act.eval]) HOV.out m (by first | (simp [Act.eval]; done) | (simp [Act.eval]; exact hsub2)) hsl2.2.1 hsl2.2.2 HR.out.2.2 ?_; intro v1 w2 hov1 hg1; obtain ⟨va1, vc1, rfl⟩ := hov1.form)
          have HF : Hid (OVB w2 w.heap.size (.slice va1 (ls ++ List.replicate m 0).length vc1) (sbA e ps) ∧ Below w.heap.size w w2) := ⟨by rw [HG.out.2, HZ.out.1]; exact hov1.weak (Nat.le_of_lt z1), appB_below HR.out.2.1 (by have := HR.out.2.2; omega) (HOV.out.weak (Nat.le_of_lt z1)) hg1⟩
          clear hov1 hg1
          exact bodyPost_ret (v := .tuple #[.slice va1 (ls ++ List.replicate m 0).length vc1, .bool true]) (by simp [results, Try.results5, go_sem]) rfl ⟨⟨_, by rw [HG.out.1], HF.out.1⟩, HF.out.2⟩
  · have HG : Hid (sbB e ps = false ∧ sbA e ps = []) := sb_no e ps (.inl he)
    clear hb
    go_enter Try.func5, Try.ntmps5
    go_wp2_with fail
    refine (epochOk_any e _).mono ?_
    rintro r w0 ⟨rfl, rfl⟩
    rw [decide_eq_false he]
    go_wp2
    exact bodyPost_ret (v := .tuple #[.slice none 0 0, .bool false]) (by simp [results, Try.results5, go_sem]) rfl ⟨⟨_, by rw [HG.out.1], by rw [HG.out.2]; exact OVB.nil _ _⟩, hw⟩
end Go.Proofs.Ytnelpioadpdphaa
