/-
  What DrawHuffPut draws. (Typed by wip/mkdrhp.py.)
-/
import Derived.Test.YtkjebacpmmfflaaDoorDrBlB
import Derived.Test.YtkjebacpmmfflaaDoorDraw3
namespace Go.Proofs.YtkjebacpmmfflaaDoor
open Go.RowKit
set_option linter.unusedVariables false

set_option maxHeartbeats 3200000 in
theorem drawHuffPut_any (a : Option Addr) (bs : List Int) (cap : Nat) (w : World) (hb : Byt w a bs) (hl : bs.length ≤ maxLen) :
    Calls Tryd.prog 14 #[.slice a bs.length cap] w fun e w' => ∃ (n g c : Nat) (ls : List Int) (a2 : Option Addr) (c2 : Nat) (ts : List Int), e = .returned (.tuple #[.slice (some ⟨g, 0, none⟩) n c, .slice a2 ts.length c2]) ∧ ls.length = n ∧ BentR ls ∧ OwI w' w.heap.size g c ls ∧ MinI w' w.heap.size w'.heap.size a2 c2 ts ∧ ts.length ≤ 30 ∧ (∀ z ∈ ts, 0 ≤ z ∧ z < n) ∧ Below w.heap.size w w' := by
  obtain ⟨i0, hi, hz0, hz1, hz2⟩ := info_parts Tryd.infoI64
  go_enter Tryd.func14, Tryd.ntmps14
  go_wp2_with fail
  refine (l1New_any a bs cap w hb hl).mono ?_
  rintro e w1 ⟨rfl, hd1⟩
  have HD1 : Hid (Dr w w1 w.heap.size w.heap.size a bs cap) := hd1
  have hz1' : w.heap.size < w1.heap.size := hd1.cur.lt.2
  clear hd1
  go_wp2_with fail
  refine HD1.out.bentLens.mono ?_
  rintro e w2 ⟨n, g, c, ls, rfl, hll, hlb, hrl, hd2, ho2⟩
  have HL2 : Hid (OwI w2 w1.heap.size g c ls) := hrl
  have HD2 : Hid (Dr w w2 w.heap.size w.heap.size a bs cap) := hd2
  have HCL : Hid (ls.length = n ∧ BentR ls) := ⟨hll, hlb⟩
  have hn1 : 1 ≤ n := by have := hlb.1; omega
  have hn2 : n ≤ 81 := by have := hlb.2.1; omega
  have hz2' : w1.heap.size ≤ w2.heap.size := ho2.size
  have hg2 := hrl.lt
  clear hll hlb hrl hd2 ho2 HD1
  go_wp2_with fail
  refine (HD2.out.text (n : Nat) (by omega) (by omega)).mono ?_
  rintro e w3 ⟨v, ts, rfl, hov, htl, htr, hd3, ho3⟩
  have HL3 : Hid (OwI w3 w1.heap.size g c ls) := HL2.out.only ho3 (by omega)
  have HD3 : Hid (Dr w w3 w.heap.size w.heap.size a bs cap) := hd3
  obtain ⟨ta, tc, rfl, hmi⟩ := hov.mine
  have HT3 : Hid (MinI w3 (w.heap.size + 1) w3.heap.size ta tc ts) := hmi.mono (by omega) (Nat.le_refl _)
  have HTR : Hid (∀ k, k < ts.length → 0 ≤ ts.getD k 0 ∧ ts.getD k 0 < n) := fun k hk => htr _ (getD_mem hk)
  have hz3 : w.heap.size < w3.heap.size := by have := ho3.size; omega
  clear hov htr hd3 ho3 hmi HL2 HD2
  generalize hT : ts.length = T at *
  have HTL : Hid (ts.length = T ∧ True) := ⟨hT, trivial⟩
  clear hT
  have HO0 : Hid (Only (fun k => k = w.heap.size) w3 w3) := Only.refl _ _
  go_wp2
  go_loopw [7, 8] (fun ov iv wr => ∃ (k : Nat) (q : List Int), k ≤ T ∧ iv = .int .i64 k ∧ OVI wr w3.heap.size ov q ∧ q.length ≤ k ∧ (∀ z ∈ q, 0 ≤ z ∧ z < n) ∧ Dr w wr w.heap.size w.heap.size a bs cap ∧ Only (fun k => k = w.heap.size) w3 wr) (fun _ iv _ => T - (intOf iv).toNat)
  case atStart => exact ⟨0, [], Nat.zero_le _, rfl, OVI.nil _ _, Nat.le_refl _, by simp, HD3.out, HO0.out⟩
  case round =>
    clear HD3 HO0
    obtain ⟨k, q, hk, rfl, hov, hql, hqr, hd, ho⟩ := hrel
    obtain ⟨au, cu, rfl⟩ := hov.form
    obtain ⟨m, hm⟩ : ∃ m, m = q.length := ⟨_, rfl⟩
    have HQ : Hid (m = q.length ∧ (∀ z ∈ q, 0 ≤ z ∧ z < n)) := ⟨hm, hqr⟩
    rw [← hm] at hov hql ⊢
    have HOV : Hid (OVI wr w3.heap.size (.slice au m cu) q) := hov
    have HD : Hid (Dr w wr w.heap.size w.heap.size a bs cap) := hd
    have HO : Hid (Only (fun k => k = w.heap.size) w3 wr) := ho
    have hsz := ho.size
    clear hov hqr hd ho hm
    by_cases hlt : k < T
    · rcases HT3.out with ⟨-, ht0, -⟩ | ⟨tg, rfl, ht1, ht2, ht3⟩
      · exact absurd (by rw [← HTL.out.1, ht0]; rfl : T = 0) (by omega)
      obtain ⟨r1, r2⟩ := HTR.out k hlt
      have HCE : Hid (∀ W, Only (fun k => k = w.heap.size) w3 W → W.cell? ⟨tg, k, none⟩ = some (.int .i64 (ts.getD k 0))) := fun W hW => (ht3.only hW (by omega)).cell k (by rw [HTL.out.1]; exact hlt)
      have hs1 : wr.cell? ⟨tg, k, none⟩ = some (.int .i64 (ts.getD k 0)) := HCE.out wr HO.out
      generalize ts.getD k 0 = s0 at *
      obtain ⟨s, rfl⟩ : ∃ s : Nat, s0 = s := ⟨s0.toNat, by omega⟩
      have hsn : s < n := by omega
      have hs2 : wr.cell? ⟨g, s, none⟩ = some (.int .i64 (ls.getD s 0)) := (HL3.out.only HO.out (by omega)).cell s (by rw [HCL.out.1]; exact hsn)
      clear ht3 ht1 ht2
      generalize ls.getD s 0 = y at *
      by_cases hy : 0 < y
      · have hd : decide (0 < y) = true := by simpa using hy
        have hovwr := HOV.out
        have hu : wr.ownsRow w3.heap.size 3 1 (.slice au m cu) m (q.map (Value.int .i64)) := by have := hovwr.1; rw [← HQ.out.1] at this; exact this
        have hsW : wr.cell? ⟨tg, k, none⟩ = some (.int .i64 (s : Nat)) := HCE.out wr HO.out
        have hszW : w3.heap.size ≤ wr.heap.size := HO.out.size
        clear hovwr
        go_wp2_with (at_builtin; (refine wpList_append_lies _ rfl (.tmp 35) (.tmp 40) 23 rfl w3.heap.size 3 i0 (.int .i64 0) 1 8 Tryd.underlying23 hi hz0 hz1 hz2 rfl (by decide) (.slice au m cu) m (q.map (Value.int .i64)) rfl (hu.alloc _) ⟨wr.heap.size, 0, none⟩ 1 1 [.int .i64 (s : Nat)] rfl rfl (by intro j y hj; match j, hj with | 0, hj => (simp at hj; subst hj; simp [Addr.add])) (by intro y hy; simp at hy; subst hy; rfl) (by omega) (by unfold maxLen; omega) (by omega) (by simp; omega) _ rfl ?_); intro g5 cap5 w5 hown hgrow hat hlt1)
        have HOV5 : Hid (OVI w5 w3.heap.size (.slice (some ⟨g5, 0, none⟩) (m + 1) cap5) (q ++ [(s : Int)])) := OVI.app HQ.out.1.symm HOV.out.2 (by omega) hown
        have hon5 : Only (fun b => (Value.slice au m cu).ownBlock = some b) wr w5 := Only.grown ((Only.refl _ _).alloc _) hgrow (fun b hb => .inl hb)
        have HD5 : Hid (Dr w w5 w.heap.size w.heap.size a bs cap) := HD.out.other hon5 (fun hh => by have := HOV.out.blk hh; omega) (fun b hh => by have := HOV.out.blk hh; omega)
        have HO5 : Hid (Only (fun k => k = w.heap.size) w3 w5) := Only.grown (HO.out.alloc _) hgrow (fun b hb => .inr (HOV.out.blk hb))
        clear hown hgrow hat hlt1 hon5 hu hsW
        go_roundw
        case rel => exact ⟨k + 1, q ++ [(s : Int)], by omega, by go_num, HOV5.out, by rw [List.length_append, ← HQ.out.1]; simp; omega, by
          intro z hz
          rcases List.mem_append.1 hz with hz | hz
          · exact HQ.out.2 z hz
          · simp at hz; subst hz; omega, HD5.out, HO5.out⟩
        case measure => simp [intOf]; omega
      · have hd : decide (0 < y) = false := by simpa using hy
        go_wp2_with fail
        refine (HD.out.once 20 (by omega) (by omega)).mono ?_
        rintro e w4 ⟨⟨b, rfl⟩, hd4, ho4⟩
        have HD4 : Hid (Dr w w4 w.heap.size w.heap.size a bs cap) := hd4
        have HO4 : Hid (Only (fun k => k = w.heap.size) w3 w4) := HO.out.trans ho4
        have HOV4 : Hid (OVI w4 w3.heap.size (.slice au m cu) q) := HOV.out.only ho4 (fun b hb => by omega)
        clear hd4 ho4 HD HO HOV
        cases b
        · go_wp2
          go_roundw
          case rel => exact ⟨k + 1, q, by omega, by go_num, HOV4.out, by have := HQ.out.1; omega, HQ.out.2, HD4.out, HO4.out⟩
          case measure => simp [intOf]; omega
        · have _t := HD4
          have hovw4 := HOV4.out
          have hu : w4.ownsRow w3.heap.size 3 1 (.slice au m cu) m (q.map (Value.int .i64)) := by have := hovw4.1; rw [← HQ.out.1] at this; exact this
          have hsW : w4.cell? ⟨tg, k, none⟩ = some (.int .i64 (s : Nat)) := HCE.out w4 HO4.out
          have hszW : w3.heap.size ≤ w4.heap.size := HO4.out.size
          clear hovw4
          go_wp2_with (at_builtin; (refine wpList_append_lies _ rfl (.tmp 35) (.tmp 40) 23 rfl w3.heap.size 3 i0 (.int .i64 0) 1 8 Tryd.underlying23 hi hz0 hz1 hz2 rfl (by decide) (.slice au m cu) m (q.map (Value.int .i64)) rfl (hu.alloc _) ⟨w4.heap.size, 0, none⟩ 1 1 [.int .i64 (s : Nat)] rfl rfl (by intro j y hj; match j, hj with | 0, hj => (simp at hj; subst hj; simp [Addr.add])) (by intro y hy; simp at hy; subst hy; rfl) (by omega) (by unfold maxLen; omega) (by omega) (by simp; omega) _ rfl ?_); intro g5 cap5 w5 hown hgrow hat hlt1)
          have HOV5 : Hid (OVI w5 w3.heap.size (.slice (some ⟨g5, 0, none⟩) (m + 1) cap5) (q ++ [(s : Int)])) := OVI.app HQ.out.1.symm HOV4.out.2 (by omega) hown
          have hon5 : Only (fun b => (Value.slice au m cu).ownBlock = some b) w4 w5 := Only.grown ((Only.refl _ _).alloc _) hgrow (fun b hb => .inl hb)
          have HD5 : Hid (Dr w w5 w.heap.size w.heap.size a bs cap) := HD4.out.other hon5 (fun hh => by have := HOV4.out.blk hh; omega) (fun b hh => by have := HOV4.out.blk hh; omega)
          have HO5 : Hid (Only (fun k => k = w.heap.size) w3 w5) := Only.grown (HO4.out.alloc _) hgrow (fun b hb => .inr (HOV4.out.blk hb))
          clear hown hgrow hat hlt1 hon5 hu hsW
          go_roundw
          case rel => exact ⟨k + 1, q ++ [(s : Int)], by omega, by go_num, HOV5.out, by rw [List.length_append, ← HQ.out.1]; simp; omega, by
            intro z hz
            rcases List.mem_append.1 hz with hz | hz
            · exact HQ.out.2 z hz
            · simp at hz; subst hz; omega, HD5.out, HO5.out⟩
          case measure => simp [intOf]; omega
    · go_wp2
      refine bodyPost_ret (v := .tuple #[.slice (some ⟨g, 0, none⟩) n c, .slice au m cu]) (by simp [results, Tryd.results14, go_sem]) rfl ?_
      have hmi : MinI wr w3.heap.size wr.heap.size au cu q := by
        obtain ⟨a9, c9, e9, h9⟩ := HOV.out.mine
        simp only [Value.slice.injEq] at e9
        obtain ⟨rfl, -, rfl⟩ := e9
        exact h9
      refine ⟨n, g, c, ls, au, cu, q, by rw [← HQ.out.1], HCL.out.1, HCL.out.2, (HL3.out.only HO.out (by omega)).mono (by omega), hmi.mono (by omega) (Nat.le_refl _), by rw [← HQ.out.1]; omega, HQ.out.2, HD.out.bel⟩
end Go.Proofs.YtkjebacpmmfflaaDoor
