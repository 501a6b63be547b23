/-
  A text comes back from its bits by a table, and bits that are read as a text are just its: numbers.
-/
import Derived.Test.YtmhpgkfaihcmeaaDoorFt1
import Derived.Test.YtmhpgkfaihcmeaaDoorWCells
import Derived.Test.YtmhpgkfaihcmeaaDoorInR
import Derived.Deep.RegionHeld3
import Derived.Test.YtmhpgkfaihcmeaaDoorTb5
import Derived.Test.YtmhpgkfaihcmeaaDoorAns
import Derived.Test.YtmhpgkfaihcmeaaDoorPut3
import Derived.Test.YtmhpgkfaihcmeaaDoorITxtI
import Derived.Test.YtmhpgkfaihcmeaaDoorITxt
namespace Go.Proofs.YtmhpgkfaihcmeaaDoor
open Go.RowKit
set_option linter.unusedVariables false

/-- Each symbol of the text has a share. -/
def shd (ls ts : List Int) : Prop := ∀ k, k < ts.length → ls.getD (ts.getD k 0).toNat 0 ≠ 0
instance (ls ts : List Int) : Decidable (shd ls ts) := by unfold shd; infer_instance
/-- T is a table of shares ls: what is told of it here. -/
structure Tab (T ls : List Int) : Prop where
  gd : Gd T ls.length
  ex : ∀ s p : Nat, s < ls.length → p < 64 → ls.getD s 0 ≠ 0 → ∃ q, q < 64 ∧ hit T (s : Int) p q
  no : ∀ (s : Int) (p : Nat), (∀ k : Nat, s = k → ls.getD k 0 = 0) → ∀ q, q < 64 → ¬ hit T s p q
  le : ls.length ≤ 80
theorem tab_tb {ls : List Int} (hn : normB ls = true) : Tab (tb (pl (fl 0 ls) (plc 64)) ls 64) ls :=
  ⟨gd_tb hn, fun s p hs hp hc => ex_hit hn s p hs hp hc, fun s p hc => no_hit hn s p hc, (normB_bnd hn).2⟩

section
variable {T ls ts : List Int}
/-- What holds of place, bits and number behind k symbols, as long as each of these has a share. -/
theorem fpS_ok (hT : Tab T ls) (hts : ∀ k, k < ts.length → 0 ≤ ts.getD k 0 ∧ ts.getD k 0 < ls.length) : ∀ k, k ≤ ts.length → (∀ j, j < k → ls.getD (ts.getD (ts.length - 1 - j) 0).toNat 0 ≠ 0) → (fpS T ts k).1 < 64 ∧ (fpS T ts k).2.1 ≤ 6 * k ∧ (fpS T ts k).2.2 < 2 ^ (fpS T ts k).2.1 := by
  intro k
  induction k with
  | zero => intro _ _; simp [fpS]
  | succ k ih =>
    intro hk hs
    obtain ⟨h1, h2, h3⟩ := ih (by omega) (fun j hj => hs j (by omega))
    have hsy := hts (ts.length - 1 - k) (by omega)
    obtain ⟨s, hse⟩ := Int.eq_ofNat_of_zero_le hsy.1
    have hsh := hs k (by omega)
    rw [hse, Int.toNat_natCast] at hsh
    have hF := fq_first (hT.ex s (fpS T ts k).1 (by omega) h1 hsh)
    obtain ⟨_, b, z, _, e2, e3, _, hb6, hz64⟩ := hT.gd.cell (fq T (s : Int) (fpS T ts k).1) hF.1
    have hb : cB T (fq T (s : Int) (fpS T ts k).1) = b := by unfold cB; rw [e2, Int.toNat_natCast]
    have hz : cZ T (fq T (s : Int) (fpS T ts k).1) = z := by unfold cZ; rw [e3, Int.toNat_natCast]
    have hh := hF.2.1
    unfold hit at hh
    rw [hb, hz] at hh
    rw [fpS, hse]
    refine ⟨hF.1, ?_, ?_⟩
    · simp only [hb]; omega
    · simp only [hb, hz]
      exact put_lt _ _ b _ h3 (by omega)
theorem fpS_first (hT : Tab T ls) (hts : ∀ k, k < ts.length → 0 ≤ ts.getD k 0 ∧ ts.getD k 0 < ls.length) (k : Nat) (hk : k < ts.length) (hs : ∀ j, j < k + 1 → ls.getD (ts.getD (ts.length - 1 - j) 0).toNat 0 ≠ 0) : First T (ts.getD (ts.length - 1 - k) 0) (fpS T ts k).1 (fpS T ts (k + 1)).1 := by
  obtain ⟨h1, _, _⟩ := fpS_ok hT hts k (by omega) (fun j hj => hs j (by omega))
  have hsy := hts (ts.length - 1 - k) (by omega)
  obtain ⟨s, hse⟩ := Int.eq_ofNat_of_zero_le hsy.1
  have hsh := hs k (by omega)
  rw [hse, Int.toNat_natCast] at hsh
  rw [fpS, hse]
  exact fq_first (hT.ex s (fpS T ts k).1 (by omega) h1 hsh)
end
theorem First.unique {T : List Int} {s : Int} {p q r : Nat} (h1 : First T s p q) (h2 : First T s p r) : q = r := by
  rcases Nat.lt_trichotomy q r with h | h | h
  · exact absurd h1.2.1 (h2.2.2 q h)
  · exact h
  · exact absurd h2.2.1 (h1.2.2 r h)
/-- A text's whole bits: those of the last place behind. -/
def fN (T ts : List Int) : Nat := (fpS T ts ts.length).2.1 + 6
def fV (T ts : List Int) : Nat := (fpS T ts ts.length).2.2 + (fpS T ts ts.length).1 * 2 ^ (fpS T ts ts.length).2.1

end Go.Proofs.YtmhpgkfaihcmeaaDoor
namespace Go.Proofs.YtmhpgkfaihcmeaaDoor
open Go.RowKit
set_option linter.unusedVariables false

theorem lt_powP {pp z bb : Nat} (h : pp - z < 2 ^ bb) (hz : z ≤ pp) : (pp : Int) - (z : Int) < 2 ^ ((bb : Int)).toNat := by
  have e : ((2 : Int) ^ bb) = ((2 ^ bb : Nat) : Int) := by simp
  rw [Int.toNat_natCast, e]
  generalize 2 ^ bb = P at *
  omega
set_option maxHeartbeats 2000000 in
theorem l3has_any (a : Option Addr) (ca : Nat) (ls : List Int) (b : Option Addr) (cb : Nat) (ts : List Int) (w : World) (ha : Ins w a ls) (hb : Ins w b ts) (hl : ls.length ≤ 80) (htl : ts.length ≤ 300) (hts : ∀ k, k < ts.length → 0 ≤ ts.getD k 0 ∧ ts.getD k 0 < ls.length) :
    Calls Tryd.prog 46 #[.slice a ls.length ca, .slice b ts.length cb] w fun e w' => e = .returned (.bool (decide (shd ls ts))) ∧ w' = w := by
  have HP : Hid (Ins w a ls ∧ Ins w b ts ∧ ∀ k, k < ts.length → 0 ≤ ts.getD k 0 ∧ ts.getD k 0 < ls.length) := ⟨ha, hb, hts⟩
  clear ha hb hts
  generalize hD : decide (shd ls ts) = d
  have HD : Hid (decide (shd ls ts) = d ∧ True) := ⟨hD, trivial⟩
  clear hD
  go_enter Tryd.func46, Tryd.ntmps46
  go_wp2
  go_loop [5] (fun i => ∃ k : Nat, k ≤ ts.length ∧ i = .int .i64 k ∧ ∀ j, j < k → ls.getD (ts.getD j 0).toNat 0 ≠ 0) (fun i => ts.length - (intOf i).toNat)
  case atStart => exact ⟨0, Nat.zero_le _, rfl, fun j hj => by omega⟩
  case round =>
    obtain ⟨k, hk, rfl, hn⟩ := hrel
    have HN : Hid (∀ j, j < k → ls.getD (ts.getD j 0).toNat 0 ≠ 0) := hn
    clear hn
    by_cases hlt : k < ts.length
    · have hsr := HP.out.2.2 k hlt
      obtain ⟨b1, o1, rfl, hb1, hc1⟩ := HP.out.2.1.len_pos k hlt
      have hs0 := hc1 k hlt
      obtain ⟨s, hse⟩ := Int.eq_ofNat_of_zero_le hsr.1
      rw [hse] at hs0 hsr
      have hsl : s < ls.length := by omega
      obtain ⟨b2, o2, rfl, hb2, hc2⟩ := HP.out.1.len_pos s hsl
      have hl0 := hc2 s hsl
      have HS : Hid (ts.getD k 0 = (s : Int) ∧ True) := ⟨hse, trivial⟩
      clear hc1 hc2 hse
      by_cases h0 : ls.getD s 0 = 0
      · have HF : Hid (¬ shd ls ts) := fun h => h k hlt (by rw [HS.out.1, Int.toNat_natCast]; exact h0)
        rw [h0] at hl0
        clear h0
        go_wp2
        go_ret
        exact ⟨by rw [← HD.out.1, decide_eq_false HF.out]; rfl, rfl⟩
      · have HN2 : Hid (∀ j, j < k + 1 → ls.getD (ts.getD j 0).toNat 0 ≠ 0) := by
          intro j hj
          by_cases e : j = k
          · subst e; rw [HS.out.1, Int.toNat_natCast]; exact h0
          · exact HN.out j (by omega)
        have hne : (ls.getD s 0 == 0) = false := by simpa using h0
        generalize ls.getD s 0 = v at *
        clear h0
        go_wp2
        go_round
        case rel => exact ⟨k + 1, by omega, by go_num, HN2.out⟩
        case measure => simp [intOf]; omega
    · have HF : Hid (shd ls ts) := fun j hj => HN.out j (by omega)
      go_wp2
      go_ret
      exact ⟨by rw [← HD.out.1, decide_eq_true HF.out]; rfl, rfl⟩

end Go.Proofs.YtmhpgkfaihcmeaaDoor
namespace Go.Proofs.YtmhpgkfaihcmeaaDoor
open Go.RowKit
set_option linter.unusedVariables false

set_option maxRecDepth 20000 in
set_option maxHeartbeats 8000000 in
theorem l3put_any (a : Option Addr) (ca : Nat) (ls : List Int) (b : Option Addr) (cb : Nat) (ts T : List Int) (w : World) (ha : Ins w a ls) (hb : Ins w b ts) (hnb : normB ls = true) (hTe : tb (pl (fl 0 ls) (plc 64)) ls 64 = T) (htl : ts.length ≤ 300) (hts : ∀ k, k < ts.length → 0 ≤ ts.getD k 0 ∧ ts.getD k 0 < ls.length) (hsh : shd ls ts) :
    Calls Tryd.prog 47 #[.slice a ls.length ca, .slice b ts.length cb] w fun e w' => ∃ a' cp, e = .returned (.agg #[.slice a' (enc (fN T ts) (fV T ts)).length cp, .int .i64 (fN T ts : Nat)]) ∧ Mine w' w.heap.size w'.heap.size a' cp (enc (fN T ts) (fV T ts)) ∧ Below w.heap.size w w' := by
  have hw : Below w.heap.size w (w.alloc (Obj.cells #[Value.slice none 0 0, Value.int IntKind.i64 0] 27)) := (Below.refl _ _).alloc (Nat.le_refl _) _
  have HTB : Hid (Tab T ls) := by unfold Hid; rw [← hTe]; exact tab_tb hnb
  have HTR : Hid (∀ z ∈ T, -9223372036854775808 ≤ z ∧ z ≤ 9223372036854775807) := by
    intro z hz
    rw [← hTe] at hz
    have := tb_rng hnb 64 (Nat.le_refl _) z hz
    omega
  have HLT := l3table_any a ca ls _ (ha.below hw (Nat.le_refl _)) hnb
  rw [hTe] at HLT
  have HSZ : Hid (w.heap.size < (w.alloc (Obj.cells #[Value.slice none 0 0, Value.int IntKind.i64 0] 27)).heap.size) := by simp [Hid]
  have HR0 : Hid ((w.alloc (Obj.cells #[Value.slice none 0 0, Value.int IntKind.i64 0] 27)).cell? ⟨w.heap.size, 0, none⟩ = some (.slice none 0 0) ∧ (w.alloc (Obj.cells #[Value.slice none 0 0, Value.int IntKind.i64 0] 27)).cell? ⟨w.heap.size, 1, none⟩ = some (.int .i64 0) ∧ (w.alloc (Obj.cells #[Value.slice none 0 0, Value.int IntKind.i64 0] 27)).frozen? ⟨w.heap.size, 0, none⟩ = false ∧ (w.alloc (Obj.cells #[Value.slice none 0 0, Value.int IntKind.i64 0] 27)).frozen? ⟨w.heap.size, 1, none⟩ = false) := ⟨by simp, by simp, by simp, by simp⟩
  have HP : Hid (Ins w b ts ∧ (∀ k, k < ts.length → 0 ≤ ts.getD k 0 ∧ ts.getD k 0 < ls.length) ∧ shd ls ts ∧ Below w.heap.size w (w.alloc (Obj.cells #[Value.slice none 0 0, Value.int IntKind.i64 0] 27))) := ⟨hb, hts, hsh, hw⟩
  clear hb hts hsh hnb hTe ha hw
  go_enter Tryd.func47, Tryd.ntmps47
  go_wp2_with fail
  generalize w.alloc (Obj.cells #[Value.slice none 0 0, Value.int IntKind.i64 0] 27) = W at *
  refine HLT.mono ?_
  clear HLT
  rintro e w1 ⟨aT, cT, rfl, hcv, hb1⟩
  have hinr := hcv.inR HTR.out HTB.out.gd.len
  have HSI : Hid (SI (w1.alloc (Obj.cells #[Value.slice none 0 0, Value.int IntKind.i64 0] 27)) w1.heap.size w1.heap.size 0 0) := SI.new w1 w1.heap.size (Nat.le_refl _)
  have HB1 : Hid (Below w.heap.size w w1 ∧ w.heap.size < w1.heap.size ∧ Ins w1 aT T ∧ Below w1.heap.size w1 (w1.alloc (Obj.cells #[Value.slice none 0 0, Value.int IntKind.i64 0] 27))) := ⟨HP.out.2.2.2.trans (hb1.mono (Nat.le_of_lt HSZ.out)), by have := HSZ.out; have := hb1.size; omega, hinr.byt, (Below.refl _ _).alloc (Nat.le_refl _) _⟩
  have HR1 : Hid (w1.cell? ⟨w.heap.size, 0, none⟩ = some (.slice none 0 0) ∧ w1.cell? ⟨w.heap.size, 1, none⟩ = some (.int .i64 0) ∧ w1.frozen? ⟨w.heap.size, 0, none⟩ = false ∧ w1.frozen? ⟨w.heap.size, 1, none⟩ = false) := ⟨keep hb1 HSZ.out HR0.out.1, keep hb1 HSZ.out HR0.out.2.1, (hb1.frozen (p := ⟨w.heap.size, 0, none⟩) HSZ.out).trans HR0.out.2.2.1, (hb1.frozen (p := ⟨w.heap.size, 1, none⟩) HSZ.out).trans HR0.out.2.2.2⟩
  clear hcv hinr hb1 HR0 HSZ
  generalize hLn : ts.length = n at *
  have HLn : Hid (ts.length = n ∧ True) := ⟨hLn, trivial⟩
  clear hLn
  go_wp2
  generalize hB : w1.heap.size = B at *
  have HB : Hid (w1.heap.size = B ∧ True) := ⟨hB, trivial⟩
  clear hB
  go_loopw [6, 8] (fun s i wr => ∃ (k : Nat) (iz : Int), k ≤ n ∧ i = .int .i64 iz ∧ iz = (n : Int) - 1 - k ∧ s = .int .i64 ((fpS T ts k).1 : Nat) ∧ SI wr B B (fpS T ts k).2.1 (fpS T ts k).2.2 ∧ Below B w1 wr) (fun _ i _ => (intOf i + 1).toNat)
  case atStart => exact ⟨0, (n : Int) - 1, Nat.zero_le _, rfl, by simp, rfl, HSI.out, HB1.out.2.2.2⟩
  case round =>
    clear HSI
    obtain ⟨k, iz, hk, rfl, hiz, rfl, hsi, hbel⟩ := hrel
    obtain ⟨h1, h2, h3⟩ := fpS_ok HTB.out (by rw [HLn.out.1]; exact HP.out.2.1) k (by rw [HLn.out.1]; exact hk) (fun j hj => HP.out.2.2.1 _ (by rw [HLn.out.1]; omega))
    have HS : Hid (SI wr B B (fpS T ts k).2.1 (fpS T ts k).2.2 ∧ Below B w1 wr ∧ (fpS T ts k).2.1 ≤ 6 * k ∧ iz = (n : Int) - 1 - k) := ⟨hsi, hbel, h2, hiz⟩
    by_cases hlt : k < n
    · obtain ⟨j, hj⟩ : ∃ j : Nat, iz = j := ⟨iz.toNat, by omega⟩
      subst hj
      have hjn : j < n := by omega
      have hjk : n - 1 - k = j := by omega
      have HF := fpS_first HTB.out (by rw [HLn.out.1]; exact HP.out.2.1) k (by rw [HLn.out.1]; exact hlt) (fun j hj => HP.out.2.2.1 _ (by rw [HLn.out.1]; omega))
      have HST : Hid ((fpS T ts (k + 1)).2.1 = (fpS T ts k).2.1 + cB T (fpS T ts (k + 1)).1 ∧ (fpS T ts (k + 1)).2.2 = (fpS T ts k).2.2 + ((fpS T ts k).1 - cZ T (fpS T ts (k + 1)).1) * 2 ^ (fpS T ts k).2.1) := ⟨rfl, rfl⟩
      rw [HLn.out.1, hjk] at HF
      obtain ⟨b1, o1, rfl, hb1, hc1⟩ := (HP.out.1.below (HB1.out.1.trans (hbel.mono (Nat.le_of_lt HB1.out.2.1))) (Nat.le_refl _)).len_pos j (by rw [HLn.out.1]; exact hjn)
      have hs0 := hc1 j (by rw [HLn.out.1]; exact hjn)
      have hTw : Ins wr aT T := HB1.out.2.2.1.below hbel (by rw [HB.out.1]; exact Nat.le_refl _)
      have HLF := l3from_any aT cT T ls.length (ts.getD j 0) (fpS T ts k).1 (fpS T ts (k + 1)).1 wr hTw HTB.out.gd HF h1
      obtain ⟨sy, bb, z, e1, e2, e3, hsy, hb6, hz64⟩ := HTB.out.gd.cell (fpS T ts (k + 1)).1 HF.1
      have hcb : cB T (fpS T ts (k + 1)).1 = bb := by unfold cB; rw [e2, Int.toNat_natCast]
      have hcz : cZ T (fpS T ts (k + 1)).1 = z := by unfold cZ; rw [e3, Int.toNat_natCast]
      have hh := HF.2.1
      unfold hit at hh
      rw [hcb, hcz] at hh
      have HPX : Hid ((fpS T ts k).1 - z < 2 ^ bb) := by have := hh.2; unfold Hid; omega
      have hzp : z ≤ (fpS T ts k).1 := hh.2.1
      rw [hcb] at HLF
      rw [hcb, hcz] at HST
      have hq64 := HF.1
      obtain ⟨gT, oT, rfl, hgT, hcT⟩ := hTw.len_pos ((fpS T ts (k + 1)).1 * 3 + 2) (by rw [HTB.out.gd.len]; omega)
      have t2 := hcT ((fpS T ts (k + 1)).1 * 3 + 2) (by rw [HTB.out.gd.len]; omega)
      rw [e3, ← Nat.add_assoc] at t2
      have HT2 : Hid (wr.cell? ⟨gT, oT + (fpS T ts (k + 1)).1 * 3 + 2, none⟩ = some (.int .i64 z) ∧ gT < wr.heap.size) := ⟨t2, hgT⟩
      clear hc1 hcT hTw e1 e2 e3 hcb hcz hh HF hz64 hsi hbel hiz t2 h3 h2 hjk
      generalize hq : (fpS T ts (k + 1)).1 = q at *
      generalize hN1 : (fpS T ts (k + 1)).2.1 = N1 at *
      generalize hV1 : (fpS T ts (k + 1)).2.2 = V1 at *
      have HQ : Hid ((fpS T ts (k + 1)).1 = q ∧ (fpS T ts (k + 1)).2.1 = N1 ∧ (fpS T ts (k + 1)).2.2 = V1) := ⟨hq, hN1, hV1⟩
      clear hq hN1 hV1
      generalize (fpS T ts k).1 = pp at *
      generalize (fpS T ts k).2.1 = N0 at *
      generalize (fpS T ts k).2.2 = V0 at *
      generalize ts.getD j 0 = tj at *
      go_wp2_with fail
      refine HLF.mono ?_
      clear HLF
      rintro e w2 ⟨rfl, hb2⟩
      have t2 := keep hb2 HT2.out.2 HT2.out.1
      have hwb : B ≤ wr.heap.size := by obtain ⟨_, _, _, _, _, h⟩ := HS.out.1; exact h
      have HS2 : Hid (SI w2 B B N0 V0 ∧ Below B w1 w2) := ⟨HS.out.1.stay hb2, HS.out.2.1.trans (hb2.mono hwb)⟩
      have hxz : (0 : Int) ≤ (pp : Int) - (z : Int) := by omega
      have HPT := HS2.out.1.put ((pp : Int) - (z : Int)) (bb : Int) hxz (by omega) (by omega) (lt_powP HPX.out hzp) (by have := HS.out.2.2.1; omega)
      rw [Int.toNat_natCast, show ((pp : Int) - (z : Int)).toNat = pp - z from by omega, ← HST.out.1, ← HST.out.2] at HPT
      clear hb2 hs0
      go_wp2_with fail
      refine HPT.mono ?_
      clear HPT
      rintro e w3 ⟨rfl, hsi3, hb3⟩
      have HF3 : Hid (SI w3 B B N1 V1 ∧ Below B w1 w3) := ⟨hsi3, HS2.out.2.trans hb3⟩
      clear hsi3 hb3 t2
      go_wp2
      go_roundw
      case rel => exact ⟨k + 1, (j : Int) - 1, by omega, rfl, by have := HS.out.2.2.2; omega, by rw [HQ.out.1], by rw [HQ.out.2.1, HQ.out.2.2]; exact HF3.out.1, HF3.out.2⟩
      case measure => simp [intOf]
    · have hkn : k = n := by omega
      subst hkn
      have hiz1 : iz = -1 := by omega
      subst hiz1
      have HFN : Hid (fN T ts = (fpS T ts k).2.1 + 6 ∧ fV T ts = (fpS T ts k).2.2 + (fpS T ts k).1 * 2 ^ (fpS T ts k).2.1) := by unfold fN fV; rw [HLn.out.1]; exact ⟨rfl, rfl⟩
      have u0 := keep hbel HB1.out.2.1 HR1.out.1
      have hx64 : (((fpS T ts k).1 : Nat) : Int) < 2 ^ ((6 : Int)).toNat := by show _ < (64 : Int); omega
      have HPT := HS.out.1.put ((fpS T ts k).1 : Nat) 6 (by omega) (by omega) (by omega) hx64 (by have := HS.out.2.2.1; omega)
      rw [Int.toNat_natCast, show ((6 : Int)).toNat = 6 from rfl, ← HFN.out.1, ← HFN.out.2] at HPT
      clear hsi hbel hiz u0 h3 hx64
      generalize (fpS T ts k).1 = pp at *
      go_wp2_with fail
      refine HPT.mono ?_
      clear HPT
      rintro e w3 ⟨rfl, hsi3, hb3⟩
      have hbw := HS.out.2.1.trans hb3
      obtain ⟨a', cp, d0, d1, hmine⟩ := hsi3.cells
      have HM : Hid (Mine w3 B w3.heap.size a' cp (enc (fN T ts) (fV T ts)) ∧ Below w.heap.size w w3 ∧ w.heap.size < B) := ⟨hmine, HB1.out.1.trans (hbw.mono (Nat.le_of_lt HB1.out.2.1)), HB1.out.2.1⟩
      have u0 := keep hbw HB1.out.2.1 HR1.out.1
      have u1 := keep hbw HB1.out.2.1 HR1.out.2.1
      have v0 : w3.frozen? ⟨w.heap.size, 0, none⟩ = false := (hbw.frozen (p := ⟨w.heap.size, 0, none⟩) HB1.out.2.1).trans HR1.out.2.2.1
      have v1 : w3.frozen? ⟨w.heap.size, 1, none⟩ = false := (hbw.frozen (p := ⟨w.heap.size, 1, none⟩) HB1.out.2.1).trans HR1.out.2.2.2
      generalize hES : enc (fN T ts) (fV T ts) = es at *
      have HES : Hid (enc (fN T ts) (fV T ts) = es ∧ True) := ⟨hES, trivial⟩
      clear hsi3 hb3 hmine hbw hES
      go_wp2
      refine bodyPost_ret (v := .agg #[.slice a' es.length cp, .int .i64 (fN T ts : Nat)]) (by simp [results, Tryd.results47, go_sem, u0, u1]) rfl ⟨a', cp, by rw [HES.out.1], ?_, ((HM.out.2.1.setCell (by simp) _).setCell (by simp) _)⟩
      rw [HES.out.1]
      exact mine_out _ _ HM.out.1 HM.out.2.2 (Nat.le_refl _)
end Go.Proofs.YtmhpgkfaihcmeaaDoor
namespace Go.Proofs.YtmhpgkfaihcmeaaDoor
open Go.RowKit
set_option linter.unusedVariables false

theorem drew_block {w : World} {g : Nat} {o : Obj} (h : w.heap[g]? = some o) : w.drew.heap[g]? = some o := h
theorem WI.drewS {w : World} {B R n V : Nat} (h : WI w B R n V) : WI w.drew B R n V := h

set_option maxRecDepth 20000 in
set_option maxHeartbeats 8000000 in
/-- The writer has n0 bits already. -/
theorem putText_any (R B g n0 V0 : Nat) (b : Option Addr) (cb : Nat) (ls ts T : List Int) (w0 w : World) (hw : WI w B R n0 V0) (hg : w.heap[g]? = some (.cells (cel T) 83 (0, 0))) (hgR : g ≠ R) (hT : Tab T ls) (hb : Ins w0 b ts) (hB : w0.heap.size = B) (hbel : Below B w0 w) (htl : ts.length ≤ 300) (hn0 : n0 + (ts.length * 6 + 6) ≤ 4096) (hts : ∀ k, k < ts.length → 0 ≤ ts.getD k 0 ∧ ts.getD k 0 < ls.length) (hS : Sent w0 2) (hSG : 2 < B) :
    Calls Tryd.prog 26 #[.pointer (some ⟨R, 0, none⟩), .pointer (some ⟨g, 0, none⟩), .slice b ts.length cb] w fun e w' => Below B w0 w' ∧
      (shd ls ts → e = .returned .nilIface ∧ WI w' B R (n0 + fN T ts) (V0 + fV T ts * 2 ^ n0)) ∧ (¬ shd ls ts → ∃ T' y, e = .returned (.iface T' y)) := by
  have HP : Hid (Ins w0 b ts ∧ (∀ k, k < ts.length → 0 ≤ ts.getD k 0 ∧ ts.getD k 0 < ls.length) ∧ Tab T ls ∧ Sent w0 2 ∧ w0.heap.size = B) := ⟨hb, hts, hT, hS, hB⟩
  have HW : Hid (WI w B R (n0 + 0) (V0 + 0 * 2 ^ n0) ∧ w.heap[g]? = some (.cells (cel T) 83 (0, 0)) ∧ Below B w0 w) := ⟨by simpa using hw, hg, hbel⟩
  clear hw hg hT hb hB hbel hts hS
  generalize hLn : ts.length = n at *
  have HLn : Hid (ts.length = n ∧ True) := ⟨hLn, trivial⟩
  clear hLn
  go_enter Tryd.func26, Tryd.ntmps26
  go_wp2
  go_loopw [7, 8] (fun s i wr => ∃ (k : Nat) (iz : Int), k ≤ n ∧ i = .int .i64 iz ∧ iz = (n : Int) - 1 - k ∧ s = .int .i64 ((fpS T ts k).1 : Nat) ∧ WI wr B R (n0 + (fpS T ts k).2.1) (V0 + (fpS T ts k).2.2 * 2 ^ n0) ∧ wr.heap[g]? = some (.cells (cel T) 83 (0, 0)) ∧ Below B w0 wr ∧ ∀ j, j < k → ls.getD (ts.getD (n - 1 - j) 0).toNat 0 ≠ 0) (fun _ i _ => (intOf i + 1).toNat)
  case atStart => exact ⟨0, (n : Int) - 1, Nat.zero_le _, rfl, by simp, rfl, HW.out.1, HW.out.2.1, HW.out.2.2, fun j hj => by omega⟩
  case round =>
    clear HW
    obtain ⟨k, iz, hk, rfl, hiz, rfl, hwi, hgb, hbel, hcod⟩ := hrel
    have hcod' : ∀ j, j < k → ls.getD (ts.getD (ts.length - 1 - j) 0).toNat 0 ≠ 0 := by rw [HLn.out.1]; exact hcod
    obtain ⟨h1, h2, h3⟩ := fpS_ok HP.out.2.2.1 (by rw [HLn.out.1]; exact HP.out.2.1) k (by rw [HLn.out.1]; exact hk) hcod'
    have HS : Hid (WI wr B R (n0 + (fpS T ts k).2.1) (V0 + (fpS T ts k).2.2 * 2 ^ n0) ∧ wr.heap[g]? = some (.cells (cel T) 83 (0, 0)) ∧ Below B w0 wr ∧ (fpS T ts k).2.1 ≤ 6 * k ∧ iz = (n : Int) - 1 - k ∧ ∀ j, j < k → ls.getD (ts.getD (n - 1 - j) 0).toNat 0 ≠ 0) := ⟨hwi, hgb, hbel, h2, hiz, hcod⟩
    by_cases hlt : k < n
    · obtain ⟨j, hj⟩ : ∃ j : Nat, iz = j := ⟨iz.toNat, by omega⟩
      subst hj
      have hjn : j < n := by omega
      have hjk : n - 1 - k = j := by omega
      obtain ⟨b1, o1, rfl, hb1, hc1⟩ := (HP.out.1.below hbel (by rw [HP.out.2.2.2.2]; exact Nat.le_refl _)).len_pos j (by rw [HLn.out.1]; exact hjn)
      have hs0 := hc1 j (by rw [HLn.out.1]; exact hjn)
      have hsy := HP.out.2.1 j hjn
      have HPF := placeFor_any g T ls.length (ts.getD j 0) (fpS T ts k).1 wr hgb HP.out.2.2.1.gd h1 (HP.out.2.2.2.1.below hbel hSG)
      have HJK : Hid (n - 1 - k = j ∧ 0 ≤ ts.getD j 0 ∧ ts.getD j 0 < ls.length) := ⟨hjk, hsy⟩
      have hwb : B ≤ wr.heap.size := by obtain ⟨_, _, _, _, _, h⟩ := hwi; exact h
      clear hc1 hwi hgb hbel hcod hcod' hiz h2 h3 hjk hsy
      generalize htj : ts.getD j 0 = tj at *
      have HTJ : Hid (ts.getD j 0 = tj ∧ True) := ⟨htj, trivial⟩
      clear htj
      go_wp2_with fail
      refine HPF.mono ?_
      clear HPF hs0
      rintro e w2 ⟨hb2, ⟨q, hF, rfl⟩ | ⟨hno, T', y, rfl⟩⟩
      · have hshk : ls.getD tj.toNat 0 ≠ 0 := by
          intro h0
          exact HP.out.2.2.1.no tj (fpS T ts k).1 (fun k' hk' => by rw [hk', Int.toNat_natCast] at h0; exact h0) q hF.1 hF.2.1
        have HCO : Hid (∀ j, j < k + 1 → ls.getD (ts.getD (n - 1 - j) 0).toNat 0 ≠ 0) := by
          intro i hi
          by_cases e : i = k
          · rw [e, HJK.out.1, HTJ.out.1]; exact hshk
          · exact HS.out.2.2.2.2.2 i (by omega)
        have hF2 := fpS_first HP.out.2.2.1 (by rw [HLn.out.1]; exact HP.out.2.1) k (by rw [HLn.out.1]; exact hlt) (by rw [HLn.out.1]; exact HCO.out)
        rw [HLn.out.1, HJK.out.1, HTJ.out.1] at hF2
        have hqe := hF2.unique hF
        have hq64 := hF.1
        obtain ⟨sy, bb, z, e1, e2, e3, _, hb6, hz64⟩ := HP.out.2.2.1.gd.cell q hq64
        have hcb : cB T q = bb := by unfold cB; rw [e2, Int.toNat_natCast]
        have hcz : cZ T q = z := by unfold cZ; rw [e3, Int.toNat_natCast]
        have hh := hF.2.1
        unfold hit at hh
        rw [hcb, hcz] at hh
        have HPX : Hid ((fpS T ts k).1 - z < 2 ^ bb) := by have := hh.2; unfold Hid; omega
        have hzp : z ≤ (fpS T ts k).1 := hh.2.1
        have HST : Hid ((fpS T ts (k + 1)).1 = q ∧ (fpS T ts (k + 1)).2.1 = (fpS T ts k).2.1 + bb ∧ (fpS T ts (k + 1)).2.2 = (fpS T ts k).2.2 + ((fpS T ts k).1 - z) * 2 ^ (fpS T ts k).2.1) := by
          refine ⟨hqe, ?_, ?_⟩
          · rw [← hcb, ← hqe]; rfl
          · rw [← hcz, ← hqe]; rfl
        have hgb2 : w2.heap[g]? = some (.cells (cel T) 83 (0, 0)) := (hb2.block g (Array.getElem?_eq_some_iff.1 HS.out.2.1).1).trans HS.out.2.1
        have t1 := arr_cell (tb := T) hgb2 (q * 3 + 1) (by rw [HP.out.2.2.1.gd.len]; omega)
        have t2 := arr_cell (tb := T) hgb2 (q * 3 + 2) (by rw [HP.out.2.2.1.gd.len]; omega)
        rw [e2] at t1
        rw [e3] at t2
        have HC : Hid (w2.cell? ⟨g, q * 3 + 2, none⟩ = some (.int .i64 z) ∧ w2.cell? ⟨g, q * 3 + 1, none⟩ = some (.int .i64 bb)) := ⟨t2, t1⟩
        have HW2 : Hid (WI w2 B R (n0 + (fpS T ts k).2.1) (V0 + (fpS T ts k).2.2 * 2 ^ n0) ∧ w2.heap[g]? = some (.cells (cel T) 83 (0, 0)) ∧ Below B w0 w2) := ⟨HS.out.1.stay hb2, hgb2, HS.out.2.2.1.trans (hb2.mono hwb)⟩
        have HPU : Hid (∀ W : World, WI W B R (n0 + (fpS T ts k).2.1) (V0 + (fpS T ts k).2.2 * 2 ^ n0) → W.heap[g]? = some (.cells (cel T) 83 (0, 0)) → Calls Tryd.prog 41 #[.pointer (some ⟨R, 0, none⟩), .int .i64 (IntKind.i64.wrap (((fpS T ts k).1 : Int) - (z : Int))), .int .i64 (bb : Int)] W fun e w' => e = .returned .nilIface ∧ WI w' B R (n0 + (fpS T ts (k + 1)).2.1) (V0 + (fpS T ts (k + 1)).2.2 * 2 ^ n0) ∧ Below B W w' ∧ w'.heap[g]? = some (.cells (cel T) 83 (0, 0))) := by
          intro W hW hgW
          rw [IntWalk.i64_in _ (by omega)]
          have := hW.putG hgW (by decide) hgR ((fpS T ts k).1 - z) bb (by omega) HPX.out (by have := HS.out.2.2.2.1; omega)
          rw [show (((fpS T ts k).1 - z : Nat) : Int) = ((fpS T ts k).1 : Int) - (z : Int) from by omega, Nat.add_assoc, ← HST.out.2.1, put_at, ← HST.out.2.2] at this
          exact this
        clear hb2 hF hF2 hqe e1 e2 e3 hcb hcz hh hgb2 t1 t2 hz64 HPX hshk
        have hq0 : (q : Int) < 64 := by omega
        generalize hpp : (fpS T ts k).1 = pp at *
        clear hpp
        go_wp2_with fail
        have hq00 : (0 : Int) ≤ (q : Int) := by omega
        go_region_held3 (fun W => W.cell? ⟨g, q * 3 + 2, none⟩ = some (.int .i64 z) ∧ W.cell? ⟨g, q * 3 + 1, none⟩ = some (.int .i64 bb))
          (first | exact HC.out | exact HC8.out)
          (first
            | (go_at_call 41; refine (HPU.out _ (by exact HW2.out.1) (by exact HW2.out.2.1)).mono ?_; rintro e w8 ⟨rfl, hw8, hb8, hg8⟩; have HW8 : Hid (WI w8 B R (n0 + (fpS T ts (k + 1)).2.1) (V0 + (fpS T ts (k + 1)).2.2 * 2 ^ n0) ∧ w8.heap[g]? = some (.cells (cel T) 83 (0, 0)) ∧ Below B w0 w8) := ⟨hw8, hg8, HW2.out.2.2.trans (Below.drewS hb8)⟩; have HC8 : Hid (w8.cell? ⟨g, q * 3 + 2, none⟩ = some (.int .i64 z) ∧ w8.cell? ⟨g, q * 3 + 1, none⟩ = some (.int .i64 bb)) := ⟨(by rw [cell_of_row _ _ _ _ _ _ hg8, ← cell_of_row _ _ _ _ _ _ HW2.out.2.1]; exact HC.out.1), (by rw [cell_of_row _ _ _ _ _ _ hg8, ← cell_of_row _ _ _ _ _ _ HW2.out.2.1]; exact HC.out.2)⟩; clear hw8 hb8 hg8))
        all_goals
          clear HC HC8 HPU HW2
          go_wp2
          go_roundw
          case rel => exact ⟨k + 1, (j : Int) - 1, by omega, rfl, by have := HS.out.2.2.2.2.1; omega, by rw [HST.out.1], HW8.out.1, HW8.out.2.1, HW8.out.2.2, HCO.out⟩
          case measure => simp [intOf]
      · have HNS : Hid (¬ shd ls ts) := by
          intro h
          have hs := h j (by rw [HLn.out.1]; exact hjn)
          rw [HTJ.out.1] at hs
          obtain ⟨s, hse⟩ := Int.eq_ofNat_of_zero_le HJK.out.2.1
          rw [hse, Int.toNat_natCast] at hs
          obtain ⟨q, hq, hh⟩ := HP.out.2.2.1.ex s (fpS T ts k).1 (by have := HJK.out.2.2; omega) h1 hs
          rw [hse] at hno
          exact hno q hq hh
        have HB2 : Hid (Below B w0 w2 ∧ True) := ⟨HS.out.2.2.1.trans (hb2.mono hwb), trivial⟩
        clear hno hb2 HS
        go_wp2
        go_ret
        exact ⟨HB2.out.1, fun h => absurd h HNS.out, fun _ => ⟨T', y, rfl⟩⟩
    · have hkn : k = n := by omega
      subst hkn
      have hiz1 : iz = -1 := by omega
      subst hiz1
      have HSH : Hid (shd ls ts) := by
        intro i hi
        have := hcod (k - 1 - i) (by rw [HLn.out.1] at hi; omega)
        rw [show k - 1 - (k - 1 - i) = i from by rw [HLn.out.1] at hi; omega] at this
        exact this
      have HFN : Hid (fN T ts = (fpS T ts k).2.1 + 6 ∧ fV T ts = (fpS T ts k).2.2 + (fpS T ts k).1 * 2 ^ (fpS T ts k).2.1) := by unfold fN fV; rw [HLn.out.1]; exact ⟨rfl, rfl⟩
      have HPT := hwi.putG hgb (by decide) hgR (fpS T ts k).1 6 (by omega) (by omega) (by omega)
      rw [Nat.add_assoc, ← HFN.out.1, put_at, ← HFN.out.2] at HPT
      clear hwi hgb hcod hcod' hiz h3
      generalize (fpS T ts k).1 = pp at *
      go_wp2_with fail
      refine HPT.mono ?_
      clear HPT
      rintro e w3 ⟨rfl, hw3, hb3, _⟩
      have HF : Hid (WI w3 B R (n0 + fN T ts) (V0 + fV T ts * 2 ^ n0) ∧ Below B w0 w3) := ⟨hw3, hbel.trans hb3⟩
      clear hw3 hb3 hbel HS
      go_wp2
      go_ret
      exact ⟨HF.out.2, fun _ => ⟨rfl, HF.out.1⟩, fun h => absurd HSH.out h⟩
end Go.Proofs.YtmhpgkfaihcmeaaDoor
namespace Go.Proofs.YtmhpgkfaihcmeaaDoor
open Go.RowKit
set_option linter.unusedVariables false

/-- The sentinels of a writer by a table. -/
structure SentP (w : World) : Prop where
  s0 : Sent w 2
  hG : 2 < w.heap.size
theorem SentP.below {w w' : World} (h : SentP w) (hb : Below w.heap.size w w') : SentP w' := ⟨h.s0.below hb h.hG, Nat.lt_of_lt_of_le h.hG hb.size⟩

def fpArgs (ls ts : List Int) : Prop := normB ls = true ∧ txtB ts ls.length = true

set_option maxHeartbeats 4000000 in
theorem specFsePut_no (a : Option Addr) (ca : Nat) (ls : List Int) (b : Option Addr) (cb : Nat) (ts : List Int) (w : World) (ha : Ins w a ls) (hb : Ins w b ts) (hl1 : ls.length ≤ 281474976710656) (hl2 : ts.length ≤ 281474976710656) (hno : ¬ (fpArgs ls ts ∧ shd ls ts)) :
    Calls Tryd.prog 32 #[.slice a ls.length ca, .slice b ts.length cb] w fun e w' => e = .returned (.tuple #[.agg #[.slice none 0 0, .int .i64 0], .bool false]) ∧ Below w.heap.size w w' := by
  have hA := Ans.new w
  have HT := specNormOk_any a ca ls _ (ha.below hA.bel (Nat.le_refl _)) hl1
  have HX := specTxt_any b cb ts (ls.length : Int) _ (hb.below hA.bel (Nat.le_refl _)) hl2
  have HA : Hid (Ans w (w.alloc (Obj.cells #[Value.slice none 0 0, Value.int IntKind.i64 0] 27))) := hA
  cases h1 : normB ls with
  | false =>
    rw [h1] at HT
    clear h1 hno HX hA
    go_enter Tryd.func32, Tryd.ntmps32
    go_wp2_with fail
    refine HT.mono ?_
    clear HT
    rintro e w1 ⟨rfl, rfl⟩
    go_wp2
    exact bodyPost_ret (v := .tuple #[.agg #[.slice none 0 0, .int .i64 0], .bool false]) (by simp [results, Tryd.results32, go_sem]) rfl ⟨rfl, by repeat (first | exact HA.out.bel | refine Below.setCell ?_ (by simp) _)⟩
  | true =>
    cases h2 : txtB ts ls.length with
    | false =>
      rw [h1] at HT
      rw [h2] at HX
      clear h1 h2 hno hA
      go_enter Tryd.func32, Tryd.ntmps32
      go_wp2_with fail
      refine HT.mono ?_
      clear HT
      rintro e w1 ⟨rfl, rfl⟩
      go_wp2_with fail
      refine HX.mono ?_
      clear HX
      rintro e w2 ⟨rfl, rfl⟩
      go_wp2
      exact bodyPost_ret (v := .tuple #[.agg #[.slice none 0 0, .int .i64 0], .bool false]) (by simp [results, Tryd.results32, go_sem]) rfl ⟨rfl, by repeat (first | exact HA.out.bel | refine Below.setCell ?_ (by simp) _)⟩
    | true =>
      have hns : ¬ shd ls ts := fun h => hno ⟨⟨h1, h2⟩, h⟩
      have hbd := normB_bnd h1
      obtain ⟨-, -, ht3⟩ := txtB_bnd h2
      have HH := l3has_any a ca ls b cb ts _ (ha.below hA.bel (Nat.le_refl _)) (hb.below hA.bel (Nat.le_refl _)) hbd.2 ht3 (fun k hk => txtB_get h2 k hk)
      rw [decide_eq_false hns] at HH
      rw [h1] at HT
      rw [h2] at HX
      clear h1 h2 hno hns hA
      go_enter Tryd.func32, Tryd.ntmps32
      go_wp2_with fail
      refine HT.mono ?_
      clear HT
      rintro e w1 ⟨rfl, rfl⟩
      go_wp2_with fail
      refine HX.mono ?_
      clear HX
      rintro e w2 ⟨rfl, rfl⟩
      go_wp2_with fail
      refine HH.mono ?_
      clear HH
      rintro e w3 ⟨rfl, rfl⟩
      go_wp2
      exact bodyPost_ret (v := .tuple #[.agg #[.slice none 0 0, .int .i64 0], .bool false]) (by simp [results, Tryd.results32, go_sem]) rfl ⟨rfl, by repeat (first | exact HA.out.bel | refine Below.setCell ?_ (by simp) _)⟩

set_option maxHeartbeats 4000000 in
theorem specFsePut_ok (a : Option Addr) (ca : Nat) (ls : List Int) (b : Option Addr) (cb : Nat) (ts T : List Int) (w : World) (ha : Ins w a ls) (hb : Ins w b ts) (h1 : normB ls = true) (h2 : txtB ts ls.length = true) (hs : shd ls ts) (hTe : tb (pl (fl 0 ls) (plc 64)) ls 64 = T) :
    Calls Tryd.prog 32 #[.slice a ls.length ca, .slice b ts.length cb] w fun e w' => ∃ a' cp, e = .returned (.tuple #[.agg #[.slice a' (enc (fN T ts) (fV T ts)).length cp, .int .i64 (fN T ts : Nat)], .bool true]) ∧ Mine w' w.heap.size w'.heap.size a' cp (enc (fN T ts) (fV T ts)) ∧ Below w.heap.size w w' := by
  have hA := Ans.new w
  have hbd := normB_bnd h1
  obtain ⟨-, -, ht3⟩ := txtB_bnd h2
  have HT := specNormOk_any a ca ls _ (ha.below hA.bel (Nat.le_refl _)) (by omega)
  have HX := specTxt_any b cb ts (ls.length : Int) _ (hb.below hA.bel (Nat.le_refl _)) (by omega)
  have HH := l3has_any a ca ls b cb ts _ (ha.below hA.bel (Nat.le_refl _)) (hb.below hA.bel (Nat.le_refl _)) hbd.2 ht3 (fun k hk => txtB_get h2 k hk)
  have HP := l3put_any a ca ls b cb ts T _ (ha.below hA.bel (Nat.le_refl _)) (hb.below hA.bel (Nat.le_refl _)) h1 hTe ht3 (fun k hk => txtB_get h2 k hk) hs
  have HA : Hid (Ans w (w.alloc (Obj.cells #[Value.slice none 0 0, Value.int IntKind.i64 0] 27))) := hA
  rw [decide_eq_true hs] at HH
  rw [h1] at HT
  rw [h2] at HX
  generalize hES : enc (fN T ts) (fV T ts) = es at *
  clear h1 h2 hs hTe hA hES
  go_enter Tryd.func32, Tryd.ntmps32
  go_wp2_with fail
  refine HT.mono ?_
  clear HT
  rintro e w1 ⟨rfl, rfl⟩
  go_wp2_with fail
  refine HX.mono ?_
  clear HX
  rintro e w2 ⟨rfl, rfl⟩
  go_wp2_with fail
  refine HH.mono ?_
  clear HH
  rintro e w3 ⟨rfl, rfl⟩
  go_wp2_with fail
  generalize w.alloc (Obj.cells #[Value.slice none 0 0, Value.int IntKind.i64 0] 27) = W at *
  refine HP.mono ?_
  clear HP
  rintro e w4 ⟨a', cp, rfl, hm, hb4⟩
  have hA4 := HA.out.step hb4 HA.out.lt
  have HF : Hid (Mine w4 W.heap.size w4.heap.size a' cp es ∧ Ans w w4 ∧ w.heap.size < W.heap.size) := ⟨hm, hA4, HA.out.lt⟩
  obtain ⟨x0, x1, y0, y1, _, _⟩ := hA4
  have hz4 := HF.out.2.1.lt
  clear hm hb4 HA
  go_wp2
  have hM := mine_out (.slice a' es.length cp) (.int .i64 ((fN T ts : Nat) : Int)) HF.out.1 HF.out.2.2 (Nat.le_refl _)
  have hB := (HF.out.2.1.bel.setCell (p := ⟨w.heap.size, 0, none⟩) (by simp) (.slice a' es.length cp)).setCell (p := ⟨w.heap.size, 1, none⟩) (by simp) (.int .i64 ((fN T ts : Nat) : Int))
  refine bodyPost_ret (v := .tuple #[.agg #[.slice a' es.length cp, .int .i64 (fN T ts : Nat)], .bool true]) (by simp [results, Tryd.results32, go_sem, x0, x1, hz4]) rfl ⟨a', cp, rfl, ?_, ?_⟩
  · exact (hM.below ((Below.refl _ _).alloc (Nat.le_refl _) _)).mono (Nat.le_refl _) (by simp)
  · exact hB.alloc hB.size _

set_option maxHeartbeats 4000000 in
theorem implFsePut_no (a : Option Addr) (ca : Nat) (ls : List Int) (b : Option Addr) (cb : Nat) (ts : List Int) (w : World) (ha : Ins w a ls) (hb : Ins w b ts) (hl1 : ls.length ≤ 281474976710656) (hl2 : ts.length ≤ 281474976710656) (hno : ¬ fpArgs ls ts) :
    Calls Tryd.prog 7 #[.slice a ls.length ca, .slice b ts.length cb] w fun e w' => e = .returned (.tuple #[.agg #[.slice none 0 0, .int .i64 0], .bool false]) ∧ Below w.heap.size w w' := by
  have hA := Ans.new w
  have HT := implNormOk_any a ca ls _ (ha.below hA.bel (Nat.le_refl _)) hl1
  have HX := implTxt_any b cb ts (ls.length : Int) _ (hb.below hA.bel (Nat.le_refl _)) hl2
  have HA : Hid (Ans w (w.alloc (Obj.cells #[Value.slice none 0 0, Value.int IntKind.i64 0] 27))) := hA
  cases h1 : normB ls with
  | false =>
    rw [h1] at HT
    clear h1 hno HX hA
    go_enter Tryd.func7, Tryd.ntmps7
    go_wp2_with fail
    refine HT.mono ?_
    clear HT
    rintro e w1 ⟨rfl, rfl⟩
    go_wp2
    exact bodyPost_ret (v := .tuple #[.agg #[.slice none 0 0, .int .i64 0], .bool false]) (by simp [results, Tryd.results7, go_sem]) rfl ⟨rfl, by repeat (first | exact HA.out.bel | refine Below.setCell ?_ (by simp) _)⟩
  | true =>
    have h2 : txtB ts ls.length = false := by
      cases h : txtB ts ls.length with
      | false => rfl
      | true => exact absurd ⟨h1, h⟩ hno
    rw [h1] at HT
    rw [h2] at HX
    clear h1 h2 hno hA
    go_enter Tryd.func7, Tryd.ntmps7
    go_wp2_with fail
    refine HT.mono ?_
    clear HT
    rintro e w1 ⟨rfl, rfl⟩
    go_wp2_with fail
    refine HX.mono ?_
    clear HX
    rintro e w2 ⟨rfl, rfl⟩
    go_wp2
    exact bodyPost_ret (v := .tuple #[.agg #[.slice none 0 0, .int .i64 0], .bool false]) (by simp [results, Tryd.results7, go_sem]) rfl ⟨rfl, by repeat (first | exact HA.out.bel | refine Below.setCell ?_ (by simp) _)⟩

set_option maxRecDepth 20000 in
set_option maxHeartbeats 8000000 in
theorem implFsePut_ok (a : Option Addr) (ca : Nat) (ls : List Int) (b : Option Addr) (cb : Nat) (ts T : List Int) (w : World) (ha : Ins w a ls) (hb : Ins w b ts) (h1 : normB ls = true) (h2 : txtB ts ls.length = true) (hTe : tb (pl (fl 0 ls) (plc 64)) ls 64 = T) (hS : SentP w) :
    Calls Tryd.prog 7 #[.slice a ls.length ca, .slice b ts.length cb] w fun e w' => Below w.heap.size w w' ∧
      (shd ls ts → ∃ a' cp, e = .returned (.tuple #[.agg #[.slice a' (enc (fN T ts) (fV T ts)).length cp, .int .i64 (fN T ts : Nat)], .bool true]) ∧ Mine w' w.heap.size w'.heap.size a' cp (enc (fN T ts) (fV T ts))) ∧
      (¬ shd ls ts → e = .returned (.tuple #[.agg #[.slice none 0 0, .int .i64 0], .bool false])) := by
  have hA := Ans.new w
  have hbd := normB_bnd h1
  obtain ⟨-, -, ht3⟩ := txtB_bnd h2
  have HT := implNormOk_any a ca ls _ (ha.below hA.bel (Nat.le_refl _)) (by omega)
  have HX := implTxt_any b cb ts (ls.length : Int) _ (hb.below hA.bel (Nat.le_refl _)) (by omega)
  have HA : Hid (Ans w (w.alloc (Obj.cells #[Value.slice none 0 0, Value.int IntKind.i64 0] 27))) := hA
  have HTB : Hid (Tab T ls) := by unfold Hid; rw [← hTe]; exact tab_tb h1
  have HQ : Hid (normB ls = true ∧ (∀ k, k < ts.length → 0 ≤ ts.getD k 0 ∧ ts.getD k 0 < ls.length) ∧ tb (pl (fl 0 ls) (plc 64)) ls 64 = T ∧ Ins w a ls ∧ Ins w b ts ∧ SentP w) := ⟨h1, fun k hk => txtB_get h2 k hk, hTe, ha, hb, hS⟩
  rw [h1] at HT
  rw [h2] at HX
  clear h1 h2 hA hTe ha hb hS
  go_enter Tryd.func7, Tryd.ntmps7
  go_wp2_with fail
  refine HT.mono ?_
  clear HT
  rintro e w1 ⟨rfl, rfl⟩
  go_wp2_with fail
  refine HX.mono ?_
  clear HX
  rintro e w2 ⟨rfl, rfl⟩
  go_wp2_with fail
  generalize w.alloc (Obj.cells #[Value.slice none 0 0, Value.int IntKind.i64 0] 27) = W at *
  refine (newWriter_any none 0 [] 0 4096 W ⟨by simp, by simp⟩ (by simp)).mono ?_
  rintro e w3 ⟨R, g, rfl, hR, hown, hRge, hb3⟩
  have HW3 : Hid (WI w3 W.heap.size R 0 0 ∧ Below W.heap.size W w3 ∧ W.heap.size ≤ R) := ⟨WI.new hR hown hRge hb3.size, hb3, hRge⟩
  have HCO := cellsOf_any a ca ls w3 ((HQ.out.2.2.2.1.below HA.out.bel (Nat.le_refl _)).below hb3 (Nat.le_refl _)) HQ.out.1
  rw [HQ.out.2.2.1] at HCO
  have hRlt : R < w3.heap.size := (Array.getElem?_eq_some_iff.1 hR).1
  clear hR hown hRge hb3
  go_wp2_with fail
  refine HCO.mono ?_
  clear HCO
  rintro e w4 ⟨gt, rfl, hgt, hTg, hb4⟩
  have HPT := putText_any R W.heap.size gt 0 0 b cb ls ts T W w4 (HW3.out.1.stay hb4) hTg (by omega) HTB.out (HQ.out.2.2.2.2.1.below HA.out.bel (Nat.le_refl _)) rfl (HW3.out.2.1.trans (hb4.mono HW3.out.2.1.size)) ht3 (by omega) HQ.out.2.1 (HQ.out.2.2.2.2.2.below HA.out.bel).s0 (HQ.out.2.2.2.2.2.below HA.out.bel).hG
  rw [Nat.zero_add, Nat.zero_add, Nat.pow_zero, Nat.mul_one] at HPT
  clear hTg hb4 hgt hRlt
  go_wp2_with fail
  refine HPT.mono ?_
  clear HPT
  rintro e w5 ⟨hb5, hyes, hno⟩
  have hA5 := HA.out.step hb5 HA.out.lt
  by_cases hs : shd ls ts
  · obtain ⟨rfl, hwi⟩ := hyes hs
    obtain ⟨a', cp, d0, d1, hmine⟩ := hwi.cells
    generalize hES : enc (fN T ts) (fV T ts) = es at *
    have HF : Hid (Mine w5 W.heap.size w5.heap.size a' cp es ∧ Ans w w5 ∧ w.heap.size < W.heap.size ∧ shd ls ts ∧ enc (fN T ts) (fV T ts) = es) := ⟨hmine, hA5, HA.out.lt, hs, hES⟩
    obtain ⟨x0, x1, y0, y1, _, _⟩ := hA5
    clear hmine hb5 hyes hno hwi hs HA HW3 hES
    go_wp2
    refine bodyPost_ret (v := .tuple #[.agg #[.slice a' es.length cp, .int .i64 (fN T ts : Nat)], .bool true]) (by simp [results, Tryd.results7, go_sem, x0, x1]) rfl ⟨((HF.out.2.1.bel.setCell (by simp) _).setCell (by simp) _), fun _ => ⟨a', cp, by rw [HF.out.2.2.2.2], ?_⟩, fun h => absurd HF.out.2.2.2.1 h⟩
    rw [HF.out.2.2.2.2]
    exact mine_out _ _ HF.out.1 HF.out.2.2.1 (Nat.le_refl _)
  · obtain ⟨T', y, rfl⟩ := hno hs
    have HF : Hid (Ans w w5 ∧ ¬ shd ls ts) := ⟨hA5, hs⟩
    obtain ⟨x0, x1, y0, y1, _, _⟩ := hA5
    clear hb5 hyes hno hs HA HW3
    go_wp2
    exact bodyPost_ret (v := .tuple #[.agg #[.slice none 0 0, .int .i64 0], .bool false]) (by simp [results, Tryd.results7, go_sem, x0, x1]) rfl ⟨by repeat (first | exact HF.out.1.bel | refine Below.setCell ?_ (by simp) _), fun h => absurd h HF.out.2, fun _ => rfl⟩

theorem fN_le {T ls ts : List Int} (hT : Tab T ls) (hts : ∀ k, k < ts.length → 0 ≤ ts.getD k 0 ∧ ts.getD k 0 < ls.length) (hs : shd ls ts) (h3 : ts.length ≤ 300) : fN T ts ≤ 1806 := by
  have := (fpS_ok hT hts ts.length (Nat.le_refl _) (fun j hj => hs _ (by omega))).2.1
  unfold fN
  omega

theorem fsePut_both (ls ts : List Int) (hl1 : ls.length ≤ 1048576) (hl2 : ts.length ≤ 1048576) : ∃ (ys : List Int) (M : Int) (ok : Bool), ys.length ≤ 1048576 ∧
    (∀ (a : Option Addr) (ca : Nat) (b : Option Addr) (cb : Nat) (w : World), Ins w a ls → Ins w b ts → Calls Tryd.prog 32 #[.slice a ls.length ca, .slice b ts.length cb] w fun e w' =>
      ∃ a' cp, e = .returned (.tuple #[.agg #[.slice a' ys.length cp, .int .i64 M], .bool ok]) ∧ Mine w' w.heap.size w'.heap.size a' cp ys ∧ Below w.heap.size w w') ∧
    (∀ (a : Option Addr) (ca : Nat) (b : Option Addr) (cb : Nat) (w : World), Ins w a ls → Ins w b ts → SentP w → Calls Tryd.prog 7 #[.slice a ls.length ca, .slice b ts.length cb] w fun e w' =>
      ∃ a' cp, e = .returned (.tuple #[.agg #[.slice a' ys.length cp, .int .i64 M], .bool ok]) ∧ Mine w' w.heap.size w'.heap.size a' cp ys ∧ Below w.heap.size w w') := by
  by_cases h : fpArgs ls ts
  · obtain ⟨h1, h2⟩ := h
    obtain ⟨-, -, ht3⟩ := txtB_bnd h2
    by_cases hc : shd ls ts
    · refine ⟨enc (fN (tb (pl (fl 0 ls) (plc 64)) ls 64) ts) (fV (tb (pl (fl 0 ls) (plc 64)) ls 64) ts), (fN (tb (pl (fl 0 ls) (plc 64)) ls 64) ts : Nat), true, ?_, fun a ca b cb w ha hb => ?_, fun a ca b cb w ha hb hS => ?_⟩
      · have h3 := fN_le (tab_tb h1) (fun k hk => txtB_get h2 k hk) hc ht3
        rw [enc_len]
        omega
      · exact specFsePut_ok a ca ls b cb ts _ w ha hb h1 h2 hc rfl
      · refine (implFsePut_ok a ca ls b cb ts _ w ha hb h1 h2 rfl hS).mono ?_
        rintro e w' ⟨hb', hy, -⟩
        obtain ⟨a', cp, he, hm⟩ := hy hc
        exact ⟨a', cp, he, hm, hb'⟩
    · refine ⟨[], 0, false, by simp, fun a ca b cb w ha hb => ?_, fun a ca b cb w ha hb hS => ?_⟩
      · refine (specFsePut_no a ca ls b cb ts w ha hb (by omega) (by omega) (fun h => hc h.2)).mono ?_
        rintro e w' ⟨rfl, hb'⟩
        exact ⟨none, 0, rfl, .inl ⟨rfl, rfl, rfl⟩, hb'⟩
      · refine (implFsePut_ok a ca ls b cb ts _ w ha hb h1 h2 rfl hS).mono ?_
        rintro e w' ⟨hb', -, hy⟩
        exact ⟨none, 0, hy hc, .inl ⟨rfl, rfl, rfl⟩, hb'⟩
  · refine ⟨[], 0, false, by simp, fun a ca b cb w ha hb => ?_, fun a ca b cb w ha hb hS => ?_⟩
    · refine (specFsePut_no a ca ls b cb ts w ha hb (by omega) (by omega) (fun hh => h hh.1)).mono ?_
      rintro e w' ⟨rfl, hb'⟩
      exact ⟨none, 0, rfl, .inl ⟨rfl, rfl, rfl⟩, hb'⟩
    · refine (implFsePut_no a ca ls b cb ts w ha hb (by omega) (by omega) h).mono ?_
      rintro e w' ⟨rfl, hb'⟩
      exact ⟨none, 0, rfl, .inl ⟨rfl, rfl, rfl⟩, hb'⟩
end Go.Proofs.YtmhpgkfaihcmeaaDoor
namespace Go.Proofs.YtmhpgkfaihcmeaaDoor
open Go.RowKit
set_option linter.unusedVariables false

theorem bits_mid (V a b : Nat) : V / 2 ^ a % 2 ^ b = V % 2 ^ (a + b) / 2 ^ a := by
  rw [Nat.pow_add, Nat.mod_mul_right_div_self]
theorem mod_low (V a b : Nat) : V % 2 ^ (a + b) % 2 ^ a = V % 2 ^ a := by
  rw [Nat.pow_add, Nat.mod_mul_right_mod]

section
variable {T ls ts : List Int}
/-- What one step puts. -/
theorem fpS_step (hT : Tab T ls) (hts : ∀ k, k < ts.length → 0 ≤ ts.getD k 0 ∧ ts.getD k 0 < ls.length) (hs : shd ls ts) (k : Nat) (hk : k < ts.length) :
    ∃ q b z : Nat, (fpS T ts (k + 1)).1 = q ∧ q < 64 ∧ cB T q = b ∧ cZ T q = z ∧ z ≤ (fpS T ts k).1 ∧ (fpS T ts k).1 - z < 2 ^ b ∧ T.getD (q * 3) 0 = ts.getD (ts.length - 1 - k) 0 ∧
      (fpS T ts (k + 1)).2.1 = (fpS T ts k).2.1 + b ∧ (fpS T ts (k + 1)).2.2 = (fpS T ts k).2.2 + ((fpS T ts k).1 - z) * 2 ^ (fpS T ts k).2.1 := by
  have hF := fpS_first hT hts k hk (fun j hj => hs _ (by omega))
  have hh := hF.2.1
  unfold hit at hh
  refine ⟨(fpS T ts (k + 1)).1, cB T (fpS T ts (k + 1)).1, cZ T (fpS T ts (k + 1)).1, rfl, hF.1, rfl, rfl, hh.2.1, by omega, hh.1, rfl, rfl⟩
theorem fpS_low (hT : Tab T ls) (hts : ∀ k, k < ts.length → 0 ≤ ts.getD k 0 ∧ ts.getD k 0 < ls.length) (hs : shd ls ts) : ∀ i, i ≤ ts.length → fV T ts % 2 ^ (fpS T ts (ts.length - i)).2.1 = (fpS T ts (ts.length - i)).2.2 := by
  intro i
  induction i with
  | zero =>
    intro _
    obtain ⟨_, _, h3⟩ := fpS_ok hT hts ts.length (Nat.le_refl _) (fun j hj => hs _ (by omega))
    rw [Nat.sub_zero]
    unfold fV
    rw [Nat.add_mul_mod_self_right, Nat.mod_eq_of_lt h3]
  | succ i ih =>
    intro hi
    obtain ⟨q, b, z, _, _, _, _, _, hx, _, hN, hV⟩ := fpS_step hT hts hs (ts.length - (i + 1)) (by omega)
    obtain ⟨_, _, h3⟩ := fpS_ok hT hts (ts.length - (i + 1)) (by omega) (fun j hj => hs _ (by omega))
    have h := ih (by omega)
    rw [show ts.length - i = ts.length - (i + 1) + 1 from by omega, hN, hV] at h
    rw [← mod_low _ _ b, h, Nat.add_mul_mod_self_right, Nat.mod_eq_of_lt h3]
/-- Reading what was put. -/
theorem sg_put (hT : Tab T ls) (hts : ∀ k, k < ts.length → 0 ≤ ts.getD k 0 ∧ ts.getD k 0 < ls.length) (hs : shd ls ts) : ∀ i, i ≤ ts.length → sg T (fV T ts) (fpS T ts ts.length).2.1 i = some ((fpS T ts (ts.length - i)).1, (fpS T ts (ts.length - i)).2.1) ∧ so T (fV T ts) (fpS T ts ts.length).2.1 i = ts.take i := by
  intro i
  induction i with
  | zero =>
    intro _
    obtain ⟨h1, _, h3⟩ := fpS_ok hT hts ts.length (Nat.le_refl _) (fun j hj => hs _ (by omega))
    refine ⟨?_, by simp [so]⟩
    rw [sg, Nat.sub_zero]
    unfold fV
    rw [Nat.add_mul_div_right _ _ (Nat.pow_pos (by omega)), Nat.div_eq_of_lt h3, Nat.zero_add, Nat.mod_eq_of_lt h1]
  | succ i ih =>
    intro hi
    obtain ⟨g1, g2⟩ := ih (by omega)
    obtain ⟨q, b, z, hq, hq64, hb, hz, hzp, hx, hsy, hN, hV⟩ := fpS_step hT hts hs (ts.length - (i + 1)) (by omega)
    obtain ⟨_, _, h3⟩ := fpS_ok hT hts (ts.length - (i + 1)) (by omega) (fun j hj => hs _ (by omega))
    have hlow := fpS_low hT hts hs i (by omega)
    rw [show ts.length - i = ts.length - (i + 1) + 1 from by omega] at g1 hlow
    rw [hq, hN] at g1
    rw [hN, hV] at hlow
    have hge : ¬ (fpS T ts (ts.length - (i + 1))).2.1 + b < cB T q := by rw [hb]; omega
    have s1 := sg_step g1 hge
    have s2 := so_step g1
    rw [hb, hz, Nat.add_sub_cancel, bits_mid, hlow, Nat.add_mul_div_right _ _ (Nat.pow_pos (by omega)), Nat.div_eq_of_lt h3, Nat.zero_add] at s1
    refine ⟨?_, ?_⟩
    · rw [s1]
      congr 2
      omega
    · rw [s2, g2, hsy, show ts.length - 1 - (ts.length - (i + 1)) = i from by omega, List.take_succ_eq_append_getElem (by omega), List.getD_eq_getElem?_getD, List.getElem?_eq_getElem (by omega)]
      rfl
/-- A text that is put is read again. -/
theorem fse_back (hT : Tab T ls) (hts : ∀ k, k < ts.length → 0 ≤ ts.getD k 0 ∧ ts.getD k 0 < ls.length) (hs : shd ls ts) : fgB T (fV T ts) (fN T ts) ts.length = true ∧ so T (fV T ts) (fN T ts - 6) ts.length = ts := by
  have hN : fN T ts - 6 = (fpS T ts ts.length).2.1 := by unfold fN; omega
  obtain ⟨h1, h2⟩ := sg_put hT hts hs ts.length (Nat.le_refl _)
  rw [Nat.sub_self] at h1
  refine ⟨?_, ?_⟩
  · unfold fgB
    rw [hN, h1, decide_eq_true_eq]
    refine ⟨by unfold fN; omega, ?_⟩
    rfl
  · rw [hN, h2, List.take_length]
end

/-- Places and ends that are met in reading. -/
theorem sg_all {T : List Int} {v E n : Nat} {r : Nat × Nat} (h : sg T v E n = some r) : ∀ i, i ≤ n → ∃ st en, sg T v E i = some (st, en) := by
  intro i hi
  cases hq : sg T v E i with
  | none => rw [sg_none hq n hi] at h; simp at h
  | some q => exact ⟨q.1, q.2, rfl⟩
theorem so_get {T : List Int} {v E : Nat} : ∀ n i, i < n → ∀ st en, sg T v E i = some (st, en) → (so T v E n).getD i 0 = T.getD (st * 3) 0 := by
  intro n
  induction n with
  | zero => intro i h; omega
  | succ n ih =>
    intro i hi st en hs
    rw [so]
    have hl := so_len T v E n
    by_cases e : i < n
    · rw [List.getD_eq_getElem?_getD, List.getElem?_append_left (by omega), ← List.getD_eq_getElem?_getD]
      exact ih i e st en hs
    · obtain rfl : i = n := by omega
      rw [List.getD_eq_getElem?_getD, List.getElem?_append_right (by omega), hl, Nat.sub_self, hs]
      rfl
/-- Just one cell is hit, and each cell's symbol has a share. -/
structure TabU (T ls : List Int) : Prop extends Tab T ls where
  uni : ∀ s p q r : Nat, s < ls.length → p < 64 → q < 64 → r < 64 → hit T (s : Int) p q → hit T (s : Int) p r → q = r
  has : ∀ p, p < 64 → ∃ s : Nat, T.getD (p * 3) 0 = (s : Int) ∧ s < ls.length ∧ ls.getD s 0 ≠ 0
theorem tabU_tb {ls : List Int} (hn : normB ls = true) : TabU (tb (pl (fl 0 ls) (plc 64)) ls 64) ls :=
  { tab_tb hn with
    uni := fun s p q r h1 h2 h3 h4 h5 h6 => hit_unique hn s p q r h1 h2 h3 h4 h5 h6
    has := fun p hp => by
      obtain ⟨s, h1, h2, h3, _⟩ := sp_sym hn p hp
      obtain ⟨c1, _, _⟩ := cell_at (zs := ls) p hp
      exact ⟨s, by rw [c1]; exact h1, h2, by omega⟩ }
section
variable {T ls : List Int} {v N n : Nat}
/-- Putting what was read. -/
theorem fpS_read (hT : TabU T ls) (E : Nat) (h : sg T v E n = some (0, 0)) : ∀ k, k ≤ n → ∀ st en, sg T v E (n - k) = some (st, en) → fpS T (so T v E n) k = (st, en, v % 2 ^ en) := by
  intro k
  induction k with
  | zero =>
    intro _ st en hs
    rw [Nat.sub_zero, h] at hs
    simp only [Option.some.injEq, Prod.mk.injEq] at hs
    obtain ⟨rfl, rfl⟩ := hs
    simp [fpS, Nat.mod_one]
  | succ k ih =>
    intro hk st en hs
    obtain ⟨st2, en2, hs2⟩ := sg_all h (n - k) (by omega)
    have hi := ih (by omega) st2 en2 hs2
    obtain ⟨r1, r2⟩ := sg_rng hT.gd v E _ st en hs
    obtain ⟨r3, r4⟩ := sg_rng hT.gd v E _ st2 en2 hs2
    have hstep := hs2
    rw [show n - k = n - (k + 1) + 1 from by omega] at hstep
    have hge : ¬ en < cB T st := by
      intro hl
      rw [sg_stop hs hl] at hstep
      simp at hstep
    rw [sg_step hs hge] at hstep
    simp only [Option.some.injEq, Prod.mk.injEq] at hstep
    obtain ⟨k1, k2⟩ := hstep
    obtain ⟨s, hs1, hs3, hs4⟩ := hT.has st r1
    have hsym : (so T v E n).getD ((so T v E n).length - 1 - k) 0 = (s : Int) := by
      rw [so_len, show n - 1 - k = n - (k + 1) from by omega, so_get n (n - (k + 1)) (by omega) st en hs, hs1]
    have hlt : v / 2 ^ (en - cB T st) % 2 ^ cB T st < 2 ^ cB T st := Nat.mod_lt _ (Nat.pow_pos (by omega))
    have hhit : hit T (s : Int) st2 st := ⟨hs1, by omega, by omega⟩
    have hF := fq_first ⟨st, r1, hhit⟩
    have hq : fq T (s : Int) st2 = st := hT.uni s st2 _ st hs3 r3 hF.1 r1 hF.2.1 hhit
    rw [fpS, hsym, hi]
    simp only
    rw [hq]
    refine Prod.ext rfl (Prod.ext ?_ ?_)
    · show en2 + cB T st = en
      omega
    · show v % 2 ^ en2 + (st2 - cZ T st) * 2 ^ en2 = v % 2 ^ en
      have e1 : st2 - cZ T st = v / 2 ^ en2 % 2 ^ cB T st := by rw [← k2]; omega
      rw [e1, show en = en2 + cB T st from by omega, bits_mid]
      have := Nat.div_add_mod (v % 2 ^ (en2 + cB T st)) (2 ^ en2)
      rw [mod_low] at this
      rw [Nat.mul_comm] at this
      omega
/-- Bits that are read as a text are just its. -/
theorem fse_forth (hT : TabU T ls) (hv : v < 2 ^ N) (h : fgB T v N n = true) : fN T (so T v (N - 6) n) = N ∧ fV T (so T v (N - 6) n) = v ∧ shd ls (so T v (N - 6) n) ∧ (∀ k, k < (so T v (N - 6) n).length → 0 ≤ (so T v (N - 6) n).getD k 0 ∧ (so T v (N - 6) n).getD k 0 < ls.length) := by
  unfold fgB at h
  rw [decide_eq_true_eq] at h
  obtain ⟨h6, h⟩ := h
  have hl := so_len T v (N - 6) n
  have h0 : sg T v (N - 6) (n - n) = some (v / 2 ^ (N - 6) % 64, N - 6) := by rw [Nat.sub_self]; rfl
  have hr := fpS_read hT (N - 6) h n (Nat.le_refl _) _ _ h0
  have hall : ∀ k, k < n → ∃ s : Nat, (so T v (N - 6) n).getD k 0 = (s : Int) ∧ s < ls.length ∧ ls.getD s 0 ≠ 0 := by
    intro k hk
    obtain ⟨st, en, hs⟩ := sg_all h k (by omega)
    obtain ⟨s, e1, e2, e3⟩ := hT.has st (sg_rng hT.gd v (N - 6) k st en hs).1
    exact ⟨s, by rw [so_get n k hk st en hs, e1], e2, e3⟩
  refine ⟨?_, ?_, ?_, ?_⟩
  · unfold fN
    rw [hl, hr]
    show N - 6 + 6 = N
    omega
  · unfold fV
    rw [hl, hr]
    show v % 2 ^ (N - 6) + v / 2 ^ (N - 6) % 64 * 2 ^ (N - 6) = v
    have e : v / 2 ^ (N - 6) < 64 := by
      rw [Nat.div_lt_iff_lt_mul (Nat.pow_pos (by omega)), show 64 = 2 ^ 6 from rfl, ← Nat.pow_add, show 6 + (N - 6) = N from by omega]
      exact hv
    rw [Nat.mod_eq_of_lt e]
    have := Nat.div_add_mod v (2 ^ (N - 6))
    rw [Nat.mul_comm] at this
    omega
  · intro k hk
    obtain ⟨s, e1, e2, e3⟩ := hall k (by omega)
    rw [e1, Int.toNat_natCast]
    exact e3
  · intro k hk
    obtain ⟨s, e1, e2, e3⟩ := hall k (by omega)
    rw [e1]
    omega
end
end Go.Proofs.YtmhpgkfaihcmeaaDoor
