/-
  What FnSupers draws: DrawNewest, DrawSuperBytes; samePlaces, same.
-/
import Derived.Test.YtnelpioadpdphaaDrSup
namespace Go.Proofs.Ytnelpioadpdphaa
open Go.RowKit
set_option linter.unusedVariables false
set_option linter.unusedSimpArgs false

set_option maxHeartbeats 2000000 in
theorem drawNewest_any (a : Option Addr) (bs : List Int) (cap : Nat) (w : World) (hb : Byt w a bs) (hl : bs.length ≤ maxLen) :
    Calls Try.prog 9 #[.slice a bs.length cap] w fun e w' => ∃ (pa : Option Addr) (pc : Nat) (zs : List Int) (qa : Option Addr) (qc : Nat) (ys : List Int), e = .returned (.tuple #[.slice pa zs.length pc, .slice qa ys.length qc]) ∧ DrY w w' pa pc zs ∧ DrY w w' qa qc ys ∧ Below w.heap.size w w' := by
  have HN := l1New_any a bs cap w hb hl
  go_enter Try.func9, Try.ntmps9
  go_wp2_with fail
  refine HN.mono ?_
  clear HN
  rintro e w1 ⟨rfl, hd1⟩
  have H1 : Hid (Dr w w1 w.heap.size w.heap.size a bs cap) := hd1
  clear hd1
  go_wp2_with fail
  refine H1.out.super.mono ?_
  rintro e w2 ⟨pa, pc, zs, rfl, hy2, hd2, ho2⟩
  have hs1 := H1.out.bel.size
  have hR1 := H1.out.cur.lt
  have H2 : Hid (DrY w w2 pa pc zs ∧ Dr w w2 w.heap.size w.heap.size a bs cap ∧ (∀ k, rowOf pa k → w1.heap.size ≤ k)) := ⟨hy2.weak hs1, hd2, fun k hk => (hy2.blk k hk).1⟩
  have HY2 : Hid (DrY w1 w2 pa pc zs) := hy2
  clear hy2 hd2 ho2
  go_wp2_with fail
  refine H2.out.2.1.super.mono ?_
  rintro e w3 ⟨qa, qc, ys, rfl, hy3, hd3, ho3⟩
  have HF : Hid (DrY w w3 pa pc zs ∧ DrY w w3 qa qc ys ∧ Below w.heap.size w w3) := ⟨(HY2.out.only ho3 (fun k hk e => by omega)).weak hs1, hy3.weak H2.out.2.1.bel.size, hd3.bel⟩
  clear hy3 hd3 ho3 H2 HY2 H1
  go_wp2
  exact bodyPost_ret (v := .tuple #[.slice pa zs.length pc, .slice qa ys.length qc]) (by simp [results, Try.results9, go_sem]) rfl ⟨pa, pc, zs, qa, qc, ys, rfl, HF.out.1, HF.out.2.1, HF.out.2.2⟩

set_option maxHeartbeats 2000000 in
theorem drawSuperBytes_any (a : Option Addr) (bs : List Int) (cap : Nat) (w : World) (hb : Byt w a bs) (hl : bs.length ≤ maxLen) :
    Calls Try.prog 4 #[.slice a bs.length cap] w fun r w' => ∃ (e : Int) (va : Option Addr) (vc : Nat) (ps : List (Int × Int)), r = .returned (.tuple #[.int .i64 e, .agg #[.slice va ps.length vc]]) ∧ ps.length ≤ 20 ∧ Pls w' va ps ∧ Below w.heap.size w w' := by
  have hw : Below w.heap.size w (w.alloc (Obj.cells #[.slice none 0 0] 25)) := (Below.refl _ _).alloc (Nat.le_refl _) _
  have t0 : (w.alloc (Obj.cells #[.slice none 0 0] 25)).cell? ⟨w.heap.size, 0, none⟩ = some (.slice none 0 0) := by simp
  have f0 : (w.alloc (Obj.cells #[.slice none 0 0] 25)).frozen? ⟨w.heap.size, 0, none⟩ = false := by simp
  have HTL : Hid ((w.alloc (Obj.cells #[.slice none 0 0] 25)).heap.size = w.heap.size + 1 ∧ True) := ⟨by simp, trivial⟩
  have HN := l1New_any a bs cap _ (hb.below hw (Nat.le_refl _)) hl
  clear hb
  go_enter Try.func4, Try.ntmps4
  go_wp2_with fail
  refine HN.mono ?_
  clear HN
  generalize w.alloc (Obj.cells #[.slice none 0 0] 25) = W at *
  rintro e w1 ⟨rfl, hd1⟩
  have hlW : w.heap.size < W.heap.size := by have := HTL.out.1; omega
  have H1 : Hid (Dr W w1 W.heap.size W.heap.size a bs cap) := hd1
  have hR1 := hd1.cur.lt
  clear hd1
  go_wp2_with fail
  have hoa : Only (fun _ => False) w1 (w1.alloc (Obj.cells #[.int .i64 0, .int .i64 1, .int .i64 257, .int .i64 60000, .int .i64 60001, .int .i64 (-1)] 3)) := (Only.refl _ w1).alloc _
  refine ((H1.out.other hoa (by simp) (by simp)).pick w1.heap.size 6 [0, 1, 257, 60000, 60001, -1] (ins6b _ _) (by omega) (by simp) (by simp)).mono ?_
  rintro e w2 ⟨⟨x, xm, rfl⟩, hd2, ho2⟩
  have H2 : Hid (Dr W w2 W.heap.size W.heap.size a bs cap) := hd2
  have hs2 : W.heap.size ≤ w2.heap.size := hd2.bel.size
  clear hd2 ho2 hoa H1
  go_wp2_with fail
  refine H2.out.bentM.mono ?_
  rintro e w3 ⟨va, vc, ps, rfl, hl3, hm3, hd3, ho3⟩
  have t3 := keep hd3.bel (by omega) t0
  have f3 := (hd3.bel.frozen (p := ⟨w.heap.size, 0, none⟩) (by simp; omega)).trans f0
  have HF : Hid (Pls (w3.setCell ⟨w.heap.size, 0, none⟩ (.slice va ps.length vc)) va ps ∧ Below w.heap.size w (w3.setCell ⟨w.heap.size, 0, none⟩ (.slice va ps.length vc))) := by
    refine ⟨?_, (hw.trans (hd3.bel.mono (by omega))).setCell (p := ⟨w.heap.size, 0, none⟩) (Nat.le_refl _) _⟩
    exact (hm3.only ((Only.refl (fun k => k = w.heap.size) w3).setCell (p := ⟨w.heap.size, 0, none⟩) (.inl rfl) _) (fun k h1 h2 h3 => by omega)).pls
  clear hm3 hd3 ho3 H2 t0 f0
  go_wp2
  exact bodyPost_ret (v := .tuple #[.int .i64 x, .agg #[.slice va ps.length vc]]) (by simp [results, Try.results4, go_sem, t3]) rfl ⟨x, va, vc, ps, rfl, hl3, HF.out.1, HF.out.2⟩

set_option maxHeartbeats 2000000 in
theorem samePlaces_yes (a b : Option Addr) (ca cb : Nat) (ps : List (Int × Int)) (w : World) (ha : Pls w a ps) (hb : Pls w b ps) (hx : ps.length ≤ 1048576) :
    Calls Try.prog 8 #[.agg #[.slice a ps.length ca], .agg #[.slice b ps.length cb]] w fun e w' => e = .returned (.bool true) ∧ Below w.heap.size w w' := by
  have hw : Below w.heap.size w ((w.alloc (Obj.cells #[Value.slice a ps.length ca] 25)).alloc (Obj.cells #[Value.slice b ps.length cb] 25)) := ((Below.refl _ _).alloc (Nat.le_refl _) _).alloc (by simp) _
  have e1 : (w.alloc (Obj.cells #[Value.slice a ps.length ca] 25)).heap.size = w.heap.size + 1 := by simp
  have HC : Hid (((w.alloc (Obj.cells #[Value.slice a ps.length ca] 25)).alloc (Obj.cells #[Value.slice b ps.length cb] 25)).cell? ⟨w.heap.size, 0, none⟩ = some (.slice a ps.length ca) ∧ ((w.alloc (Obj.cells #[Value.slice a ps.length ca] 25)).alloc (Obj.cells #[Value.slice b ps.length cb] 25)).cell? ⟨w.heap.size + 1, 0, none⟩ = some (.slice b ps.length cb)) := ⟨keepA _ (by simp) (by simp), by rw [← e1]; simp⟩
  have HA : Hid (Pls ((w.alloc (Obj.cells #[Value.slice a ps.length ca] 25)).alloc (Obj.cells #[Value.slice b ps.length cb] 25)) a ps ∧ Pls ((w.alloc (Obj.cells #[Value.slice a ps.length ca] 25)).alloc (Obj.cells #[Value.slice b ps.length cb] 25)) b ps) := ⟨ha.below hw (Nat.le_refl _), hb.below hw (Nat.le_refl _)⟩
  clear ha hb e1
  generalize hlen : ps.length = n at *
  have HL : Hid (ps.length = n ∧ True) := ⟨hlen, trivial⟩
  clear hlen
  have hnn : ((n : Int) != (n : Int)) = false := by simp
  go_enter Try.func8, Try.ntmps8
  go_wp2
  generalize (w.alloc (Obj.cells #[Value.slice a n ca] 25)).alloc (Obj.cells #[Value.slice b n cb] 25) = W at *
  go_loopw [5] (fun i wr => ∃ k m : Nat, k ≤ n ∧ i = .int .i64 k ∧ wr = W.drewN m) (fun i _ => n - (intOf i).toNat)
  case atStart => exact ⟨0, 0, Nat.zero_le _, rfl, rfl⟩
  case round =>
    obtain ⟨k, m, hk, rfl, rfl⟩ := hrel
    have p0 := HC.out.1
    have p1 := HC.out.2
    by_cases hlt : k < n
    · obtain ⟨b1, o1, rfl, hb1, hc1⟩ := HA.out.1.len_pos k (by rw [HL.out.1]; exact hlt)
      obtain ⟨b2, o2, rfl, hb2, hc2⟩ := HA.out.2.len_pos k (by rw [HL.out.1]; exact hlt)
      obtain ⟨c0, c1⟩ := hc1 k (by rw [HL.out.1]; exact hlt)
      obtain ⟨d0, d1⟩ := hc2 k (by rw [HL.out.1]; exact hlt)
      clear hc1 hc2
      generalize ps.getD k dp = q at *
      obtain ⟨x, y⟩ := q
      simp only at c0 c1 d0 d1
      go_wp2
      go_quiet (fail)
      go_wp2
      go_roundw
      case rel => exact ⟨k + 1, _, by omega, by go_num, rfl⟩
      case measure => simp [intOf]; omega
    · go_wp2
      go_ret
      exact ⟨rfl, below_dP hw _⟩

set_option maxHeartbeats 800000 in
theorem same8 (a b : Option Addr) (ca cb : Nat) (zs ys : List Int) (w : World) (ha : Byt w a zs) (hb : Byt w b ys) :
    Calls Try.prog 12 #[.slice a zs.length ca, .slice b ys.length cb] w fun e w' => e = .returned (.bool (sm8 zs ys)) ∧ w' = w := by
  have h1 := conv_bytes8 w a ca zs ha
  have h2 := conv_bytes8 w b cb ys hb
  unfold sm8
  generalize strOfNums zs = S at *
  generalize strOfNums ys = T at *
  go_enter Try.func12, Try.ntmps12
  go_wp2
  go_ret
  exact ⟨rfl, rfl⟩
end Go.Proofs.Ytnelpioadpdphaa
