/-
  l3put of the model.
-/
import Derived.Test.YtmhpgkfaihcmeaaDoorFp6
import Derived.Test.YtmhpgkfaihcmeaaDoorFp3
import Derived.Test.YtmhpgkfaihcmeaaDoorInR
import Derived.Test.YtmhpgkfaihcmeaaDoorWCells
namespace Go.Proofs.YtmhpgkfaihcmeaaDoor
open Go.RowKit
set_option linter.unusedVariables false

set_option maxRecDepth 20000 in
set_option maxHeartbeats 8000000 in
theorem l3put_any (a : Option Addr) (ca : Nat) (ls : List Int) (b : Option Addr) (cb : Nat) (ts T : List Int) (w : World) (ha : Ins w a ls) (hb : Ins w b ts) (hnb : normB ls = true) (hTe : tb (pl (fl 0 ls) (plc 64)) ls 64 = T) (htl : ts.length ≤ 300) (hts : ∀ k, k < ts.length → 0 ≤ ts.getD k 0 ∧ ts.getD k 0 < ls.length) (hsh : shd ls ts) :
    Calls Tryd.prog 47 #[.slice a ls.length ca, .slice b ts.length cb] w fun e w' => ∃ a' cp, e = .returned (.agg #[.slice a' (enc (fN T ts) (fV T ts)).length cp, .int .i64 (fN T ts : Nat)]) ∧ Mine w' w.heap.size w'.heap.size a' cp (enc (fN T ts) (fV T ts)) ∧ Below w.heap.size w w' := by
  have hw : Below w.heap.size w (w.alloc (Obj.cells #[Value.slice none 0 0, Value.int IntKind.i64 0] 27)) := (Below.refl _ _).alloc (Nat.le_refl _) _
  have HTB : Hid (Tab T ls) := by unfold Hid; rw [← hTe]; exact tab_tb hnb
  have HTR : Hid (∀ z ∈ T, -9223372036854775808 ≤ z ∧ z ≤ 9223372036854775807) := by
    intro z hz
    rw [← hTe] at hz
    have := tb_rng hnb 64 (Nat.le_refl _) z hz
    omega
  have HLT := l3table_any a ca ls _ (ha.below hw (Nat.le_refl _)) hnb
  rw [hTe] at HLT
  have HSZ : Hid (w.heap.size < (w.alloc (Obj.cells #[Value.slice none 0 0, Value.int IntKind.i64 0] 27)).heap.size) := by simp [Hid]
  have HR0 : Hid ((w.alloc (Obj.cells #[Value.slice none 0 0, Value.int IntKind.i64 0] 27)).cell? ⟨w.heap.size, 0, none⟩ = some (.slice none 0 0) ∧ (w.alloc (Obj.cells #[Value.slice none 0 0, Value.int IntKind.i64 0] 27)).cell? ⟨w.heap.size, 1, none⟩ = some (.int .i64 0) ∧ (w.alloc (Obj.cells #[Value.slice none 0 0, Value.int IntKind.i64 0] 27)).frozen? ⟨w.heap.size, 0, none⟩ = false ∧ (w.alloc (Obj.cells #[Value.slice none 0 0, Value.int IntKind.i64 0] 27)).frozen? ⟨w.heap.size, 1, none⟩ = false) := ⟨by simp, by simp, by simp, by simp⟩
  have HP : Hid (Ins w b ts ∧ (∀ k, k < ts.length → 0 ≤ ts.getD k 0 ∧ ts.getD k 0 < ls.length) ∧ shd ls ts ∧ Below w.heap.size w (w.alloc (Obj.cells #[Value.slice none 0 0, Value.int IntKind.i64 0] 27))) := ⟨hb, hts, hsh, hw⟩
  clear hb hts hsh hnb hTe ha hw
  go_enter Tryd.func47, Tryd.ntmps47
  go_wp2_with fail
  generalize w.alloc (Obj.cells #[Value.slice none 0 0, Value.int IntKind.i64 0] 27) = W at *
  refine HLT.mono ?_
  clear HLT
  rintro e w1 ⟨aT, cT, rfl, hcv, hb1⟩
  have hinr := hcv.inR HTR.out HTB.out.gd.len
  have HSI : Hid (SI (w1.alloc (Obj.cells #[Value.slice none 0 0, Value.int IntKind.i64 0] 27)) w1.heap.size w1.heap.size 0 0) := SI.new w1 w1.heap.size (Nat.le_refl _)
  have HB1 : Hid (Below w.heap.size w w1 ∧ w.heap.size < w1.heap.size ∧ Ins w1 aT T ∧ Below w1.heap.size w1 (w1.alloc (Obj.cells #[Value.slice none 0 0, Value.int IntKind.i64 0] 27))) := ⟨HP.out.2.2.2.trans (hb1.mono (Nat.le_of_lt HSZ.out)), by have := HSZ.out; have := hb1.size; omega, hinr.byt, (Below.refl _ _).alloc (Nat.le_refl _) _⟩
  have HR1 : Hid (w1.cell? ⟨w.heap.size, 0, none⟩ = some (.slice none 0 0) ∧ w1.cell? ⟨w.heap.size, 1, none⟩ = some (.int .i64 0) ∧ w1.frozen? ⟨w.heap.size, 0, none⟩ = false ∧ w1.frozen? ⟨w.heap.size, 1, none⟩ = false) := ⟨keep hb1 HSZ.out HR0.out.1, keep hb1 HSZ.out HR0.out.2.1, (hb1.frozen (p := ⟨w.heap.size, 0, none⟩) HSZ.out).trans HR0.out.2.2.1, (hb1.frozen (p := ⟨w.heap.size, 1, none⟩) HSZ.out).trans HR0.out.2.2.2⟩
  clear hcv hinr hb1 HR0 HSZ
  generalize hLn : ts.length = n at *
  have HLn : Hid (ts.length = n ∧ True) := ⟨hLn, trivial⟩
  clear hLn
  go_wp2
  generalize hB : w1.heap.size = B at *
  have HB : Hid (w1.heap.size = B ∧ True) := ⟨hB, trivial⟩
  clear hB
  go_loopw [6, 8] (fun s i wr => ∃ (k : Nat) (iz : Int), k ≤ n ∧ i = .int .i64 iz ∧ iz = (n : Int) - 1 - k ∧ s = .int .i64 ((fpS T ts k).1 : Nat) ∧ SI wr B B (fpS T ts k).2.1 (fpS T ts k).2.2 ∧ Below B w1 wr) (fun _ i _ => (intOf i + 1).toNat)
  case atStart => exact ⟨0, (n : Int) - 1, Nat.zero_le _, rfl, by simp, rfl, HSI.out, HB1.out.2.2.2⟩
  case round =>
    clear HSI
    obtain ⟨k, iz, hk, rfl, hiz, rfl, hsi, hbel⟩ := hrel
    obtain ⟨h1, h2, h3⟩ := fpS_ok HTB.out (by rw [HLn.out.1]; exact HP.out.2.1) k (by rw [HLn.out.1]; exact hk) (fun j hj => HP.out.2.2.1 _ (by rw [HLn.out.1]; omega))
    have HS : Hid (SI wr B B (fpS T ts k).2.1 (fpS T ts k).2.2 ∧ Below B w1 wr ∧ (fpS T ts k).2.1 ≤ 6 * k ∧ iz = (n : Int) - 1 - k) := ⟨hsi, hbel, h2, hiz⟩
    by_cases hlt : k < n
    · obtain ⟨j, hj⟩ : ∃ j : Nat, iz = j := ⟨iz.toNat, by omega⟩
      subst hj
      have hjn : j < n := by omega
      have hjk : n - 1 - k = j := by omega
      have HF := fpS_first HTB.out (by rw [HLn.out.1]; exact HP.out.2.1) k (by rw [HLn.out.1]; exact hlt) (fun j hj => HP.out.2.2.1 _ (by rw [HLn.out.1]; omega))
      have HST : Hid ((fpS T ts (k + 1)).2.1 = (fpS T ts k).2.1 + cB T (fpS T ts (k + 1)).1 ∧ (fpS T ts (k + 1)).2.2 = (fpS T ts k).2.2 + ((fpS T ts k).1 - cZ T (fpS T ts (k + 1)).1) * 2 ^ (fpS T ts k).2.1) := ⟨rfl, rfl⟩
      rw [HLn.out.1, hjk] at HF
      obtain ⟨b1, o1, rfl, hb1, hc1⟩ := (HP.out.1.below (HB1.out.1.trans (hbel.mono (Nat.le_of_lt HB1.out.2.1))) (Nat.le_refl _)).len_pos j (by rw [HLn.out.1]; exact hjn)
      have hs0 := hc1 j (by rw [HLn.out.1]; exact hjn)
      have hTw : Ins wr aT T := HB1.out.2.2.1.below hbel (by rw [HB.out.1]; exact Nat.le_refl _)
      have HLF := l3from_any aT cT T ls.length (ts.getD j 0) (fpS T ts k).1 (fpS T ts (k + 1)).1 wr hTw HTB.out.gd HF h1
      obtain ⟨sy, bb, z, e1, e2, e3, hsy, hb6, hz64⟩ := HTB.out.gd.cell (fpS T ts (k + 1)).1 HF.1
      have hcb : cB T (fpS T ts (k + 1)).1 = bb := by unfold cB; rw [e2, Int.toNat_natCast]
      have hcz : cZ T (fpS T ts (k + 1)).1 = z := by unfold cZ; rw [e3, Int.toNat_natCast]
      have hh := HF.2.1
      unfold hit at hh
      rw [hcb, hcz] at hh
      have HPX : Hid ((fpS T ts k).1 - z < 2 ^ bb) := by have := hh.2; unfold Hid; omega
      have hzp : z ≤ (fpS T ts k).1 := hh.2.1
      rw [hcb] at HLF
      rw [hcb, hcz] at HST
      have hq64 := HF.1
      obtain ⟨gT, oT, rfl, hgT, hcT⟩ := hTw.len_pos ((fpS T ts (k + 1)).1 * 3 + 2) (by rw [HTB.out.gd.len]; omega)
      have t2 := hcT ((fpS T ts (k + 1)).1 * 3 + 2) (by rw [HTB.out.gd.len]; omega)
      rw [e3, ← Nat.add_assoc] at t2
      have HT2 : Hid (wr.cell? ⟨gT, oT + (fpS T ts (k + 1)).1 * 3 + 2, none⟩ = some (.int .i64 z) ∧ gT < wr.heap.size) := ⟨t2, hgT⟩
      clear hc1 hcT hTw e1 e2 e3 hcb hcz hh HF hz64 hsi hbel hiz t2 h3 h2 hjk
      generalize hq : (fpS T ts (k + 1)).1 = q at *
      generalize hN1 : (fpS T ts (k + 1)).2.1 = N1 at *
      generalize hV1 : (fpS T ts (k + 1)).2.2 = V1 at *
      have HQ : Hid ((fpS T ts (k + 1)).1 = q ∧ (fpS T ts (k + 1)).2.1 = N1 ∧ (fpS T ts (k + 1)).2.2 = V1) := ⟨hq, hN1, hV1⟩
      clear hq hN1 hV1
      generalize (fpS T ts k).1 = pp at *
      generalize (fpS T ts k).2.1 = N0 at *
      generalize (fpS T ts k).2.2 = V0 at *
      generalize ts.getD j 0 = tj at *
      go_wp2_with fail
      refine HLF.mono ?_
      clear HLF
      rintro e w2 ⟨rfl, hb2⟩
      have t2 := keep hb2 HT2.out.2 HT2.out.1
      have hwb : B ≤ wr.heap.size := by obtain ⟨_, _, _, _, _, h⟩ := HS.out.1; exact h
      have HS2 : Hid (SI w2 B B N0 V0 ∧ Below B w1 w2) := ⟨HS.out.1.stay hb2, HS.out.2.1.trans (hb2.mono hwb)⟩
      have hxz : (0 : Int) ≤ (pp : Int) - (z : Int) := by omega
      have HPT := HS2.out.1.put ((pp : Int) - (z : Int)) (bb : Int) hxz (by omega) (by omega) (lt_powP HPX.out hzp) (by have := HS.out.2.2.1; omega)
      rw [Int.toNat_natCast, show ((pp : Int) - (z : Int)).toNat = pp - z from by omega, ← HST.out.1, ← HST.out.2] at HPT
      clear hb2 hs0
      go_wp2_with fail
      refine HPT.mono ?_
      clear HPT
      rintro e w3 ⟨rfl, hsi3, hb3⟩
      have HF3 : Hid (SI w3 B B N1 V1 ∧ Below B w1 w3) := ⟨hsi3, HS2.out.2.trans hb3⟩
      clear hsi3 hb3 t2
      go_wp2
      go_roundw
      case rel => exact ⟨k + 1, (j : Int) - 1, by omega, rfl, by have := HS.out.2.2.2; omega, by rw [HQ.out.1], by rw [HQ.out.2.1, HQ.out.2.2]; exact HF3.out.1, HF3.out.2⟩
      case measure => simp [intOf]
    · have hkn : k = n := by omega
      subst hkn
      have hiz1 : iz = -1 := by omega
      subst hiz1
      have HFN : Hid (fN T ts = (fpS T ts k).2.1 + 6 ∧ fV T ts = (fpS T ts k).2.2 + (fpS T ts k).1 * 2 ^ (fpS T ts k).2.1) := by unfold fN fV; rw [HLn.out.1]; exact ⟨rfl, rfl⟩
      have u0 := keep hbel HB1.out.2.1 HR1.out.1
      have hx64 : (((fpS T ts k).1 : Nat) : Int) < 2 ^ ((6 : Int)).toNat := by show _ < (64 : Int); omega
      have HPT := HS.out.1.put ((fpS T ts k).1 : Nat) 6 (by omega) (by omega) (by omega) hx64 (by have := HS.out.2.2.1; omega)
      rw [Int.toNat_natCast, show ((6 : Int)).toNat = 6 from rfl, ← HFN.out.1, ← HFN.out.2] at HPT
      clear hsi hbel hiz u0 h3 hx64
      generalize (fpS T ts k).1 = pp at *
      go_wp2_with fail
      refine HPT.mono ?_
      clear HPT
      rintro e w3 ⟨rfl, hsi3, hb3⟩
      have hbw := HS.out.2.1.trans hb3
      obtain ⟨a', cp, d0, d1, hmine⟩ := hsi3.cells
      have HM : Hid (Mine w3 B w3.heap.size a' cp (enc (fN T ts) (fV T ts)) ∧ Below w.heap.size w w3 ∧ w.heap.size < B) := ⟨hmine, HB1.out.1.trans (hbw.mono (Nat.le_of_lt HB1.out.2.1)), HB1.out.2.1⟩
      have u0 := keep hbw HB1.out.2.1 HR1.out.1
      have u1 := keep hbw HB1.out.2.1 HR1.out.2.1
      have v0 : w3.frozen? ⟨w.heap.size, 0, none⟩ = false := (hbw.frozen (p := ⟨w.heap.size, 0, none⟩) HB1.out.2.1).trans HR1.out.2.2.1
      have v1 : w3.frozen? ⟨w.heap.size, 1, none⟩ = false := (hbw.frozen (p := ⟨w.heap.size, 1, none⟩) HB1.out.2.1).trans HR1.out.2.2.2
      generalize hES : enc (fN T ts) (fV T ts) = es at *
      have HES : Hid (enc (fN T ts) (fV T ts) = es ∧ True) := ⟨hES, trivial⟩
      clear hsi3 hb3 hmine hbw hES
      go_wp2
      refine bodyPost_ret (v := .agg #[.slice a' es.length cp, .int .i64 (fN T ts : Nat)]) (by simp [results, Tryd.results47, go_sem, u0, u1]) rfl ⟨a', cp, by rw [HES.out.1], ?_, ((HM.out.2.1.setCell (by simp) _).setCell (by simp) _)⟩
      rw [HES.out.1]
      exact mine_out _ _ HM.out.1 HM.out.2.2 (Nat.le_refl _)
end Go.Proofs.YtmhpgkfaihcmeaaDoor
