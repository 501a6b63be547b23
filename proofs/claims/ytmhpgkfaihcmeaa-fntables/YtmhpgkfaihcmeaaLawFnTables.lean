/-
  The law on drawn tables returns true, whatever is handed in, and writes nothing that was there.
-/
import Derived.Test.YtmhpgkfaihcmeaaDrTable
import Derived.Test.YtmhpgkfaihcmeaaTbI
import Derived.Test.YtmhpgkfaihcmeaaSpI
import Derived.Test.YtmhpgkfaihcmeaaFt1
import Derived.Test.YtmhpgkfaihcmeaaLawFnNorms
import Derived.BigQuiet
import Derived.Deep.QuietTactic
namespace Go.Proofs.Ytmhpgkfaihcmeaa
open Go.RowKit
set_option linter.unusedVariables false

theorem powT (b : Nat) (h : b ≤ 6) : ∃ Pw : Nat, Pw = 2 ^ b ∧ wrap64 (2 ^ b) = (Pw : Int) ∧ (0 : Int) ≤ wrap64 (2 ^ b) ∧ wrap64 (2 ^ b) ≤ 64 := by
  have h1 : 2 ^ b ≤ 2 ^ 6 := Nat.pow_le_pow_right (by omega) h
  have e : ((2 : Int) ^ b) = ((2 ^ b : Nat) : Int) := by simp
  obtain ⟨P, hP⟩ : ∃ P, P = 2 ^ b := ⟨_, rfl⟩
  rw [← hP] at h1 e
  have ew : wrap64 (2 ^ b) = (P : Int) := by
    rw [e]
    clear e hP
    exact IntWalk.wrap64_in _ (by omega)
  refine ⟨P, hP, ew, ?_, ?_⟩
  · rw [ew]; clear e ew hP; omega
  · rw [ew]; clear e ew hP; omega
theorem in_cellT {z p Pw : Nat} {u : Int} (hu : u = (Pw : Int)) (h : p < z + Pw) : (p : Int) < (z : Int) + u := by omega
theorem out_cellT {z p Pw : Nat} {u : Int} (hu : u = (Pw : Int)) (h : ¬ p < z + Pw) : ¬ (p : Int) < (z : Int) + u := by omega
theorem drewT (W : World) (m k : Nat) : (W.drewN m).drewN k = W.drewN (m + k) := World.drewN_drewN ..

/-- What the loops of the law keep. -/
structure Kp (W : World) (al : Option Addr) (ls : List Int) (ag : Option Addr) (T : List Int) (az : Option Addr) (SP : List Int) : Prop where
  l : Ins W al ls
  t : Ins W ag T
  s : Ins W az SP
  way : Way T SP ls
  tl : T.length = 192
  ll : ls.length ≤ 81

set_option maxRecDepth 20000 in
set_option maxHeartbeats 8000000 in
theorem lawFnTables_any (a : Option Addr) (cap : Nat) (bs : List Int) (w : World) (hb : Byt w a bs) (hm : bs.length ≤ maxLen) :
    Calls Try.prog 4 #[.slice a bs.length cap] w fun e w' => e = .returned (.bool true) ∧ Below w.heap.size w w' := by
  go_enter Try.func4, Try.ntmps4
  go_wp2_with fail
  refine (drawTable_any a bs cap w hb hm).mono ?_
  rintro e w1 ⟨v, l, rfl, hov, hl81, hb1⟩
  obtain ⟨al, cl, rfl⟩ := hov.form
  have HL1 : Hid (Ins w1 al l ∧ Below w.heap.size w w1) := by
    refine ⟨?_, hb1⟩
    obtain ⟨a', cp, he, hm⟩ := hov.mine
    simp at he
    obtain ⟨rfl, _⟩ := he
    exact hm.byt
  clear hov hb1 hb hm
  cases hnb : normB l with
  | false =>
    have HT := implTable_no al cl l w1 HL1.out.1 (by omega) hnb
    have HS := implSpread_no al cl l w1 HL1.out.1 (by omega) hnb
    go_wp2_with fail
    refine HT.mono ?_
    clear HT
    rintro e w2 ⟨rfl, rfl⟩
    go_wp2_with fail
    refine HS.mono ?_
    clear HS
    rintro e w3 ⟨rfl, rfl⟩
    have HIN : Hid (∀ T, Ins (w3.alloc (.cells #[.int .i64 3, .int .i64 0, .int .i64 1] T)) (some ⟨w3.heap.size, 0, none⟩) [3, 0, 1]) := fun T => by
      have := ins_newN w3 T [3, 0, 1] (by intro z hz; simp at hz; omega)
      simpa using this
    go_wp2_with fail
    refine (implNorm_ok (some ⟨w3.heap.size, 0, none⟩) 3 [3, 0, 1] _ (HIN.out _) one_cnt).mono ?_
    rintro e w4 ⟨hb4, -, hy4⟩
    obtain ⟨rfl, ho4⟩ := hy4 one_room
    rw [one_shares] at ho4
    have hb34 : Below w3.heap.size w3 w4 := ((Below.refl w3.heap.size w3).alloc (Nat.le_refl _) _).trans (hb4.mono (by simp))
    have HB4 : Hid (Below w.heap.size w w4 ∧ True) := ⟨HL1.out.2.trans (hb34.mono HL1.out.2.size), trivial⟩
    clear ho4 hb34 hb4 HL1 HIN
    go_wp2
    go_ret
    exact ⟨rfl, HB4.out.1⟩
  | true =>
    have HT := implTable_yes al cl l w1 HL1.out.1 hnb
    have HWY : Hid (Way (tb (pl (fl 0 l) (plc 64)) l 64) (pl (fl 0 l) (plc 64)) l) := way_tb hnb
    have HSY : Hid (∀ W : World, Ins W al l → Calls Try.prog 11 #[.slice al l.length cl] W fun e w' => ∃ g, e = .returned (.tuple #[.slice (some ⟨g, 0, none⟩) 64 64, .bool true]) ∧ ArI w' W.heap.size w'.heap.size (some ⟨g, 0, none⟩) (pl (fl 0 l) (plc 64)) ∧ Below W.heap.size W w') := fun W hW => implSpread_yes al cl l W hW hnb
    generalize tb (pl (fl 0 l) (plc 64)) l 64 = T at *
    generalize pl (fl 0 l) (plc 64) = SP at *
    clear hnb
    go_wp2_with fail
    refine HT.mono ?_
    clear HT
    rintro e w2 ⟨ga, rfl, har, hb2⟩
    have hl2 := HL1.out.1.below hb2 (Nat.le_refl _)
    have HS := HSY.out w2 hl2
    clear HSY
    have HL2 : Hid (Ins w2 al l ∧ Ins w2 (some ⟨ga, 0, none⟩) T ∧ Below w.heap.size w w2) := ⟨hl2, har.byt, HL1.out.2.trans (hb2.mono HL1.out.2.size)⟩
    clear hl2 har hb2 HL1
    go_wp2_with fail
    refine HS.mono ?_
    clear HS
    rintro e w3 ⟨gs, rfl, hsr, hb3⟩
    have HL3 : Hid (Ins w3 al l ∧ Ins w3 (some ⟨ga, 0, none⟩) T ∧ Ins w3 (some ⟨gs, 0, none⟩) SP ∧ Below w.heap.size w w3) := ⟨HL2.out.1.below hb3 (Nat.le_refl _), HL2.out.2.1.below hb3 (Nat.le_refl _), hsr.byt, HL2.out.2.2.trans (hb3.mono HL2.out.2.2.size)⟩
    clear hsr hb3 HL2
    have HIN : Hid (∀ T, Ins (w3.alloc (.cells #[.int .i64 3, .int .i64 0, .int .i64 1] T)) (some ⟨w3.heap.size, 0, none⟩) [3, 0, 1]) := fun T => by
      have := ins_newN w3 T [3, 0, 1] (by intro z hz; simp at hz; omega)
      simpa using this
    go_wp2_with fail
    refine (implNorm_ok (some ⟨w3.heap.size, 0, none⟩) 3 [3, 0, 1] _ (HIN.out _) one_cnt).mono ?_
    rintro e w4 ⟨hb4, -, hy4⟩
    obtain ⟨rfl, ho4⟩ := hy4 one_room
    rw [one_shares] at ho4
    have hb34 : Below w3.heap.size w3 w4 := ((Below.refl w3.heap.size w3).alloc (Nat.le_refl _) _).trans (hb4.mono (by simp))
    have HK : Hid (Kp w4 al l (some ⟨ga, 0, none⟩) T (some ⟨gs, 0, none⟩) SP ∧ Below w.heap.size w w4) := ⟨⟨HL3.out.1.below hb34 (Nat.le_refl _), HL3.out.2.1.below hb34 (Nat.le_refl _), HL3.out.2.2.1.below hb34 (Nat.le_refl _), HWY.out, HWY.out.gd.len, hl81⟩, HL3.out.2.2.2.trans (hb34.mono HL3.out.2.2.2.size)⟩
    clear ho4 hb34 hb4 HL3 HIN HWY
    generalize hln : l.length = n at *
    have HLN : Hid (l.length = n ∧ True) := ⟨hln, trivial⟩
    clear hln
    go_wp2
    go_loopw [10] (fun y wr => ∃ k m : Nat, k ≤ n ∧ y = .int .i64 k ∧ wr = w4.drewN m) (fun y _ => n - (intOf y).toNat)
    case atStart => exact ⟨0, 0, Nat.zero_le _, rfl, rfl⟩
    case round =>
      obtain ⟨k, m, hk, rfl, rfl⟩ := hrel
      by_cases hlt : k < n
      · obtain ⟨bl, ol, rfl, hbl, hcl⟩ := HK.out.1.l.len_pos k (by rw [HLN.out.1]; exact hlt)
        have hv := hcl k (by rw [HLN.out.1]; exact hlt)
        obtain ⟨hv0, hv1⟩ := HK.out.1.way.nn k (by rw [HLN.out.1]; exact hlt)
        have HONE := HK.out.1.way.one k
        have HZER := HK.out.1.way.none k
        have HCNT := HK.out.1.way.cnt k (by rw [HLN.out.1]; exact hlt)
        obtain ⟨vn, hvn⟩ := Int.eq_ofNat_of_zero_le hv0
        rw [hvn] at hv hv1 HCNT
        have HW1 : Hid ((∀ p, p < 64 → 0 < vn → hcn T (k : Int) p 64 = 1) ∧ (∀ p, p < 64 → vn = 0 → hcn T (k : Int) p 64 = 0) ∧ SP.count (k : Int) = vn) := ⟨fun p hp h => HONE p (by rw [HLN.out.1]; exact hlt) hp (by rw [hvn]; omega), fun p hp h => HZER p (by rw [HLN.out.1]; exact hlt) hp (by rw [hvn, h]; rfl), by omega⟩
        clear hcl hv0 HONE HZER HCNT hvn
        go_wp2
        go_loopw [12] (fun st wr => ∃ p m : Nat, p ≤ 64 ∧ st = .int .i64 p ∧ wr = w4.drewN m) (fun st _ => 64 - (intOf st).toNat)
        case atStart => exact ⟨0, m, Nat.zero_le _, rfl, rfl⟩
        case round =>
          obtain ⟨p, m2, hp, rfl, rfl⟩ := hrel
          by_cases hp64 : p < 64
          · have hdp : decide ((p : Int) < 64) = true := decide_eq_true (by omega)
            go_wp2
            try rw [hdp]
            clear hdp
            go_loopw [13, 14] (fun ws i wr => ∃ q m : Nat, q ≤ 64 ∧ i = .int .i64 q ∧ ws = .int .i64 (hcn T (k : Int) p q : Nat) ∧ wr = w4.drewN m) (fun _ i _ => 64 - (intOf i).toNat)
            case atStart => exact ⟨0, m2, Nat.zero_le _, rfl, rfl, rfl⟩
            case round =>
              obtain ⟨q, m3, hq, rfl, rfl, rfl⟩ := hrel
              by_cases hq64 : q < 64
              · obtain ⟨sy, b, z, e1, e2, e3, hsy, hb6, hz64⟩ := HK.out.1.way.gd.cell q hq64
                obtain ⟨bt, ot, hbte, hgT, hcT⟩ := HK.out.1.t.len_pos (q * 3) (by rw [HK.out.1.tl]; omega)
                simp at hbte
                obtain ⟨rfl, rfl⟩ := hbte
                have t0 := hcT (q * 3) (by rw [HK.out.1.tl]; omega)
                have t1 := hcT (q * 3 + 1) (by rw [HK.out.1.tl]; omega)
                have t2 := hcT (q * 3 + 2) (by rw [HK.out.1.tl]; omega)
                rw [e1, Nat.zero_add] at t0
                rw [e2, Nat.zero_add] at t1
                rw [e3, Nat.zero_add] at t2
                have hz63 : (z : Int) ≤ 64 := Int.ofNat_le.2 (Nat.le_trans (Nat.le_add_right z (2 ^ b)) hz64)
                have HCB : Hid (cB T q = b ∧ cZ T q = z ∧ T.getD (q * 3) 0 = (sy : Int)) := ⟨by unfold cB; rw [e2, Int.toNat_natCast], by unfold cZ; rw [e3, Int.toNat_natCast], e1⟩
                have hcl2 : (hcn T (k : Int) p q : Int) ≤ 64 := by have := hcn_le (T := T) (s := (k : Int)) (p := p) q; omega
                have hq0 : (0 : Int) ≤ (q : Int) := by omega
                have hq1 : (q : Int) < 64 := by omega
                have hp0' : (p : Int) ≤ 64 := by omega
                clear hcT e1 e2 e3 hz64
                obtain ⟨Pw, hPw, ew, hp0, hp1⟩ := powT b hb6
                have HEW : Hid (wrap64 (2 ^ b) = (Pw : Int) ∧ Pw = 2 ^ b) := ⟨ew, hPw⟩
                clear ew hPw
                by_cases hh : hit T (k : Int) p q
                · have HN : Hid (hcn T (k : Int) p (q + 1) = hcn T (k : Int) p q + 1 ∧ True) := ⟨by rw [hcn, if_pos hh], trivial⟩
                  unfold hit at hh
                  rw [HCB.out.1, HCB.out.2.1, HCB.out.2.2, ← HEW.out.2] at hh
                  obtain ⟨g1, g2, g3⟩ := hh
                  have hsk : sy = k := by omega
                  subst hsk
                  have h0 : ((sy : Int) == (sy : Int)) = true := by simp
                  have h1i : (z : Int) ≤ (p : Int) := by omega
                  have h2i : (p : Int) < (z : Int) + wrap64 (2 ^ b) := in_cellT HEW.out.1 g3
                  clear g1 g2 g3
                  generalize hcn T (sy : Int) p q = hc at *
                  go_wp2_with fail
                  have t0' : (w4.drewN m3).cell? ⟨ga, q * 3, none⟩ = some (.int .i64 (sy : Int)) := t0
                  have t1' : (w4.drewN m3).cell? ⟨ga, q * 3 + 1, none⟩ = some (.int .i64 (b : Int)) := t1
                  have t2' : (w4.drewN m3).cell? ⟨ga, q * 3 + 2, none⟩ = some (.int .i64 (z : Int)) := t2
                  generalize hWm : w4.drewN m3 = Wm at *
                  have HWM : Hid (w4.drewN m3 = Wm ∧ True) := ⟨hWm, trivial⟩
                  clear hWm t0 t1 t2 HK HW1 HCB HEW hv hbl hgT hsy
                  go_quiet (fail)
                  go_wp2
                  go_roundw
                  case rel => exact ⟨q + 1, _, by omega, by go_num, by rw [HN.out.1]; go_num, by rw [← HWM.out.1]; exact drewT _ _ _⟩
                  case measure => simp [intOf]; omega
                · have HN : Hid (hcn T (k : Int) p (q + 1) = hcn T (k : Int) p q ∧ True) := ⟨by rw [hcn, if_neg hh]; rfl, trivial⟩
                  unfold hit at hh
                  rw [HCB.out.1, HCB.out.2.1, HCB.out.2.2, ← HEW.out.2] at hh
                  by_cases g1 : sy = k
                  · subst g1
                    have h0 : ((sy : Int) == (sy : Int)) = true := by simp
                    by_cases g2 : z ≤ p
                    · have h1i : (z : Int) ≤ (p : Int) := by omega
                      have h2i : ¬ (p : Int) < (z : Int) + wrap64 (2 ^ b) := out_cellT HEW.out.1 (fun h => hh ⟨rfl, g2, h⟩)
                      have h2j : decide ((p : Int) < (z : Int) + wrap64 (2 ^ b)) = false := decide_eq_false h2i
                      clear hh g2
                      generalize hcn T (sy : Int) p q = hc at *
                      go_wp2_with fail
                      have t0' : (w4.drewN m3).cell? ⟨ga, q * 3, none⟩ = some (.int .i64 (sy : Int)) := t0
                      have t1' : (w4.drewN m3).cell? ⟨ga, q * 3 + 1, none⟩ = some (.int .i64 (b : Int)) := t1
                      have t2' : (w4.drewN m3).cell? ⟨ga, q * 3 + 2, none⟩ = some (.int .i64 (z : Int)) := t2
                      generalize hWm : w4.drewN m3 = Wm at *
                      have HWM : Hid (w4.drewN m3 = Wm ∧ True) := ⟨hWm, trivial⟩
                      clear hWm t0 t1 t2 HK HW1 HCB HEW hv hbl hgT hsy
                      go_quiet (fail)
                      go_wp2
                      go_roundw
                      case rel => exact ⟨q + 1, _, by omega, by go_num, by rw [HN.out.1], by rw [← HWM.out.1]; exact drewT _ _ _⟩
                      case measure => simp [intOf]; omega
                    · have h1j : decide (z ≤ p) = false := decide_eq_false g2
                      clear hh g2
                      generalize hcn T (sy : Int) p q = hc at *
                      go_wp2_with fail
                      have t0' : (w4.drewN m3).cell? ⟨ga, q * 3, none⟩ = some (.int .i64 (sy : Int)) := t0
                      have t1' : (w4.drewN m3).cell? ⟨ga, q * 3 + 1, none⟩ = some (.int .i64 (b : Int)) := t1
                      have t2' : (w4.drewN m3).cell? ⟨ga, q * 3 + 2, none⟩ = some (.int .i64 (z : Int)) := t2
                      generalize hWm : w4.drewN m3 = Wm at *
                      have HWM : Hid (w4.drewN m3 = Wm ∧ True) := ⟨hWm, trivial⟩
                      clear hWm t0 t1 t2 HK HW1 HCB HEW hv hbl hgT hsy
                      go_quiet (fail)
                      go_wp2
                      go_roundw
                      case rel => exact ⟨q + 1, _, by omega, by go_num, by rw [HN.out.1], by rw [← HWM.out.1]; exact drewT _ _ _⟩
                      case measure => simp [intOf]; omega
                  · have h0 : ((sy : Int) == (k : Int)) = false := by simp; omega
                    clear hh g1
                    generalize hcn T (k : Int) p q = hc at *
                    go_wp2_with fail
                    have t0' : (w4.drewN m3).cell? ⟨ga, q * 3, none⟩ = some (.int .i64 (sy : Int)) := t0
                    have t1' : (w4.drewN m3).cell? ⟨ga, q * 3 + 1, none⟩ = some (.int .i64 (b : Int)) := t1
                    have t2' : (w4.drewN m3).cell? ⟨ga, q * 3 + 2, none⟩ = some (.int .i64 (z : Int)) := t2
                    generalize hWm : w4.drewN m3 = Wm at *
                    have HWM : Hid (w4.drewN m3 = Wm ∧ True) := ⟨hWm, trivial⟩
                    clear hWm t0 t1 t2 HK HW1 HCB HEW hv hbl hgT hsy
                    go_quiet (fail)
                    go_wp2
                    go_roundw
                    case rel => exact ⟨q + 1, _, by omega, by go_num, by rw [HN.out.1], by rw [← HWM.out.1]; exact drewT _ _ _⟩
                    case measure => simp [intOf]; omega
              · have hqe : q = 64 := by omega
                subst hqe
                by_cases hv00 : vn = 0
                · rw [HW1.out.2.1 p hp64 hv00]
                  subst hv00
                  go_wp2
                  go_roundw
                  case rel => exact ⟨p + 1, m3, by omega, by go_num, rfl⟩
                  case measure => simp [intOf]; omega
                · rw [HW1.out.1 p hp64 (by omega)]
                  have hvp : (0 : Int) < (vn : Int) := by omega
                  have hvz : ((vn : Int) == 0) = false := by simp; omega
                  go_wp2
                  go_roundw
                  case rel => exact ⟨p + 1, m3, by omega, by go_num, rfl⟩
                  case measure => simp [intOf]; omega
          · have hpe : p = 64 := by omega
            subst hpe
            go_wp2
            go_loopw [11, 15] (fun nn i wr => ∃ q : Nat, q ≤ 64 ∧ i = .int .i64 q ∧ nn = .int .i64 ((SP.take q).count (k : Int) : Nat) ∧ wr = w4.drewN m2) (fun _ i _ => 64 - (intOf i).toNat)
            case atStart => exact ⟨0, Nat.zero_le _, rfl, rfl, rfl⟩
            case round =>
              obtain ⟨q, hq, rfl, rfl, rfl⟩ := hrel
              have hsl := HK.out.1.way.sl
              by_cases hq64 : q < 64
              · obtain ⟨bt, ot, hbte, hgT, hcT⟩ := HK.out.1.s.len_pos q (by omega)
                simp at hbte
                obtain ⟨rfl, rfl⟩ := hbte
                have t0 := hcT q (by omega)
                rw [Nat.zero_add] at t0
                have HC : Hid ((SP.take (q + 1)).count (k : Int) = (SP.take q).count (k : Int) + (if SP.getD q 0 = (k : Int) then 1 else 0) ∧ True) := by
                  refine ⟨?_, trivial⟩
                  rw [List.take_succ_eq_append_getElem (by omega), List.count_append, List.getD_eq_getElem?_getD, List.getElem?_eq_getElem (by omega)]
                  simp [List.count_singleton]
                have hcc : ((SP.take q).count (k : Int) : Int) ≤ 64 := by
                  have := List.count_le_length (a := (k : Int)) (l := SP.take q)
                  have := List.length_take_le q SP
                  omega
                generalize (SP.take q).count (k : Int) = hc at *
                generalize SP.getD q 0 = sv at *
                have HSL : Hid (SP.length = 64 ∧ True) := ⟨hsl, trivial⟩
                clear hcT hsl
                by_cases hs : sv = (k : Int)
                · subst hs
                  have h0 : ((k : Int) == (k : Int)) = true := by simp
                  go_wp2
                  go_roundw
                  case rel => exact ⟨q + 1, by omega, by go_num, by rw [HC.out.1, if_pos rfl]; go_num, (by first | rfl | trivial)⟩
                  case measure => simp [intOf]; omega
                · have h0 : (sv == (k : Int)) = false := by simpa using hs
                  have HN : Hid (¬ sv = (k : Int)) := hs
                  clear hs
                  go_wp2
                  go_roundw
                  case rel => exact ⟨q + 1, by omega, by go_num, by rw [HC.out.1, if_neg HN.out]; rfl, (by first | rfl | trivial)⟩
                  case measure => simp [intOf]; omega
              · have hqe : q = 64 := by omega
                subst hqe
                rw [List.take_of_length_le (by omega), HW1.out.2.2]
                have hvv : ((vn : Int) != (vn : Int)) = false := by simp
                clear hsl
                go_wp2
                go_roundw
                case rel => exact ⟨k + 1, m2, by omega, by go_num, rfl⟩
                case measure => simp [intOf]; omega
      · have HF : Hid (Below w.heap.size w (w4.drewN m) ∧ True) := ⟨⟨HK.out.2.os, HK.out.2.tape, HK.out.2.output, HK.out.2.size, HK.out.2.block⟩, trivial⟩
        go_wp2
        go_ret
        exact ⟨rfl, HF.out.1⟩
end Go.Proofs.Ytmhpgkfaihcmeaa
