/-
  The law on drawn texts by codes returns true, whatever is handed in, and writes nothing that was there.
-/
import Derived.Test.YtkjebacpmmfflaaDoorITxtI
import Derived.Test.YtkjebacpmmfflaaDoorHGet6
import Derived.Test.YtkjebacpmmfflaaDoorILensC
import Derived.Test.YtkjebacpmmfflaaDoorOpenL
import Derived.Test.YtkjebacpmmfflaaDoorIBase
import Derived.Test.YtkjebacpmmfflaaDoorPut3
import Derived.Test.YtkjebacpmmfflaaDoorDrHp
import Derived.Test.YtkjebacpmmfflaaDoorHfP
import Derived.Test.YtkjebacpmmfflaaDoorHGet9Y
import Derived.Test.YtkjebacpmmfflaaDoorICost2
namespace Go.Proofs.YtkjebacpmmfflaaDoor
open Go.RowKit
set_option linter.unusedVariables false

theorem lensB_okC {zs : List Int} (h : lensB zs = true) : 1 ≤ zs.length ∧ zs.length ≤ 80 ∧ ∀ z ∈ zs, 0 ≤ z ∧ z ≤ 12 := by
  simp only [lensB, decide_eq_true_eq] at h
  exact ⟨h.1, h.2.1, h.2.2.1⟩

set_option maxHeartbeats 1600000 in
theorem implCodes_no (a : Option Addr) (cap : Nat) (zs : List Int) (w : World) (hb : Ins w a zs) (hl : zs.length ≤ 281474976710656) (h : lensB zs = false) (h4 : Four w) (hE : ErrT w) :
    Calls Tryd.prog 16 #[.slice a zs.length cap] w fun e w' => e = .returned (.tuple #[.slice none 0 0, .bool false]) ∧ Below w.heap.size w w' := by
  have HT := implLens_any a cap zs w hb hl h4 hE
  rw [h] at HT
  go_enter Tryd.func16, Tryd.ntmps16
  go_wp2_with fail
  refine HT.mono ?_
  rintro e w1 ⟨rfl, hb1'⟩
  clear HT
  have HBB : Hid (Below w.heap.size w w1) := by first | exact hb1' | (subst hb1'; exact Below.refl _ _)
  clear hb1'
  go_wp2
  exact bodyPost_ret (v := .tuple #[.slice none 0 0, .bool false]) (by simp [results, Tryd.results16, go_sem]) rfl ⟨rfl, HBB.out⟩

set_option maxHeartbeats 1600000 in
theorem implCodes_yes (a : Option Addr) (cap : Nat) (zs : List Int) (w : World) (hb : Ins w a zs) (h : lensB zs = true) (h4 : Four w) (hE : ErrT w) :
    Calls Tryd.prog 16 #[.slice a zs.length cap] w fun e w' =>
      ∃ g, e = .returned (.tuple #[.slice (some ⟨g, 0, none⟩) zs.length zs.length, .bool true]) ∧ OwI w' w.heap.size g zs.length (crun zs (sbL zs 12)).2.2 ∧ Below w.heap.size w w' := by
  obtain ⟨hn1, hn2, hok⟩ := lensB_okC h
  have HT := implLens_any a cap zs w hb (by omega) h4 hE
  rw [h] at HT
  go_enter Tryd.func16, Tryd.ntmps16
  go_wp2_with fail
  refine HT.mono ?_
  rintro e w1 ⟨rfl, hb1'⟩
  clear HT
  have hbb : Below w.heap.size w w1 := by first | exact hb1' | (subst hb1'; exact Below.refl _ _)
  clear hb1'
  go_wp2_with fail
  refine (codesOf_any a cap zs w1 (hb.below hbb (Nat.le_refl _)) hn2 hok).mono ?_
  rintro e w2 ⟨rfl, ho, hb2⟩
  have HA : Hid (OwI w2 w.heap.size w1.heap.size zs.length (crun zs (sbL zs 12)).2.2) := ho.mono hbb.size
  have HBB : Hid (Below w.heap.size w w2) := hbb.trans (hb2.mono hbb.size)
  clear ho hb2 hbb
  generalize w1.heap.size = g at *
  go_wp2
  exact bodyPost_ret (v := .tuple #[.slice (some ⟨g, 0, none⟩) zs.length zs.length, .bool true]) (by simp [results, Tryd.results16, go_sem]) rfl ⟨g, rfl, HA.out, HBB.out⟩
set_option maxHeartbeats 800000 in
theorem sameInts_any (a b : Option Addr) (ca cb : Nat) (xs ys : List Int) (w : World) (ha : Ins w a xs) (hb : Ins w b ys) (hx : xs.length ≤ 281474976710656) (hy : ys.length ≤ 281474976710656) :
    Calls Tryd.prog 10 #[.slice a xs.length ca, .slice b ys.length cb] w fun e w' => e = .returned (.bool (decide (xs = ys))) ∧ ∃ n, w' = w.drewN n := by
  by_cases hl : xs.length = ys.length
  · generalize hlx : xs.length = n at *
    have HX : Hid (xs.length = n) := hlx
    have HY : Hid (ys.length = n) := hl.symm
    rw [← hl]
    have hnn : ((n : Int) != (n : Int)) = false := by simp
    clear hlx hl hy
    go_enter Tryd.func10, Tryd.ntmps10
    go_wp2
    go_loopw [5] (fun i wr => ∃ k m : Nat, k ≤ n ∧ i = .int .i64 k ∧ wr = w.drewN m ∧ xs.take k = ys.take k) (fun i _ => n - (intOf i).toNat)
    case atStart => exact ⟨0, 0, Nat.zero_le _, rfl, rfl, by simp⟩
    case round =>
      obtain ⟨k, m, hk, rfl, rfl, htk⟩ := hrel
      have HT : Hid (xs.take k = ys.take k) := htk
      clear htk
      by_cases hlt : k < n
      · obtain ⟨b1, o1, rfl, hb1, hc1⟩ := ha.len_pos k (by rw [HX.out]; exact hlt)
        obtain ⟨b2, o2, rfl, hb2, hc2⟩ := hb.len_pos k (by rw [HY.out]; exact hlt)
        have hs1 := hc1 k (by rw [HX.out]; exact hlt)
        have hs2 := hc2 k (by rw [HY.out]; exact hlt)
        have g1 := getD_rngI ha.1 k
        have g2 := getD_rngI hb.1 k
        clear hc1 hc2 ha hb
        generalize hx1 : xs.getD k 0 = x1 at *
        generalize hy1 : ys.getD k 0 = y1 at *
        have HX1 : Hid (xs.getD k 0 = x1) := hx1
        have HY1 : Hid (ys.getD k 0 = y1) := hy1
        clear hx1 hy1
        by_cases hxy : x1 = y1
        · subst hxy
          have hq : (x1 != x1) = false := by simp
          have HT' : Hid (xs.take (k + 1) = ys.take (k + 1)) := take_eq_succ HT.out (by rw [HX.out]; exact hlt) (by rw [HY.out]; exact hlt) (by rw [HX1.out, HY1.out])
          go_wp2
          go_quiet (fail)
          go_wp2
          go_roundw
          case rel => exact ⟨k + 1, _, by omega, by go_num, rfl, HT'.out⟩
          case measure => simp [intOf]; omega
        · have hq : (x1 != y1) = true := by rw [bne_iff_ne]; exact hxy
          have HN : Hid (decide (xs = ys) = false) := by
            have : xs ≠ ys := ne_of_getD (k := k) (by rw [HX1.out, HY1.out]; exact hxy)
            simpa [Hid] using this
          clear hxy
          go_wp2
          go_quiet (fail)
          go_wp2
          go_ret
          exact ⟨by rw [HN.out]; rfl, _, World.drewN_drewN ..⟩
      · have HE : Hid (decide (xs = ys) = true) := by
          have h1 := HT.out
          rw [List.take_of_length_le (by rw [HX.out]; omega), List.take_of_length_le (by rw [HY.out]; omega)] at h1
          simpa [Hid] using h1
        go_wp2
        go_ret
        exact ⟨by rw [HE.out]; rfl, _, rfl⟩
  · have hne : decide (xs = ys) = false := by simp; intro h; exact hl (by rw [h])
    have hl' : ((xs.length : Int) != (ys.length : Int)) = true := by rw [bne_iff_ne]; omega
    rw [hne]
    go_enter Tryd.func10, Tryd.ntmps10
    go_wp2
    go_ret
    exact ⟨rfl, 0, rfl⟩

theorem sameInts_yes (a b : Option Addr) (ca cb : Nat) (xs : List Int) (w : World) (ha : Ins w a xs) (hb : Ins w b xs) (hx : xs.length ≤ 281474976710656) :
    Calls Tryd.prog 10 #[.slice a xs.length ca, .slice b xs.length cb] w fun e w' => e = .returned (.bool true) ∧ ∃ n, w' = w.drewN n := by
  refine (sameInts_any a b ca cb xs xs w ha hb hx hx).mono ?_
  rintro e w' ⟨rfl, h⟩
  exact ⟨by simp, h⟩

theorem val_encB (M V : Nat) (h : V < 2 ^ M) : val (enc M V) = V := by
  unfold enc
  rw [val_encL]
  refine Nat.mod_eq_of_lt (Nat.lt_of_lt_of_le h ?_)
  rw [show 256 = 2 ^ 8 from rfl, ← Nat.pow_mul]
  exact Nat.pow_le_pow_right (by omega) (by omega)
theorem okB_encB (M V : Nat) (hM : M ≤ 4096) (h : V < 2 ^ M) : okB (M : Int) (enc M V) = true := by
  have hl := enc_len M V
  by_cases h8 : M % 8 = 0
  · exact okB_full (by omega) (by omega) (by rw [hl]; omega) (by omega)
  · rw [okB_last (by omega) (by omega) (by rw [hl]; omega) (by omega)]
    have h1 := enc_last M V h h8
    have h2 := enc_top M V h
    rw [show (enc M V).length - 1 = M / 8 from by omega, h1, show ((M : Int) % 8).toNat = M % 8 from by omega]
    have e : (((V / 256 ^ (M / 8) : Nat) : Int) / 2 ^ (M % 8)) = ((V / 256 ^ (M / 8) / 2 ^ (M % 8) : Nat) : Int) := by simp
    rw [e, Nat.div_eq_of_lt h2]
    rfl
theorem csv_122 : (crun [1, 2, 2] (sbL [1, 2, 2] 12)).2.2 = [0, 2, 3] := by decide +kernel
theorem lens_122 : lensB [1, 2, 2] = true := by decide +kernel
theorem codes122_any (a : Option Addr) (c : Nat) (w : World) (hb : Ins w a [1, 2, 2]) (h4 : Four w) (hE : ErrT w) :
    Calls Tryd.prog 16 #[.slice a 3 c] w fun e w' => ∃ g, e = .returned (.tuple #[.slice (some ⟨g, 0, none⟩) 3 3, .bool true]) ∧ OwI w' w.heap.size g 3 [0, 2, 3] ∧ Below w.heap.size w w' := by
  have h := implCodes_yes a c [1, 2, 2] w hb lens_122 h4 hE
  rw [csv_122] at h
  exact h
/-- All sentinels. -/
structure SentU (w : World) : Prop where
  f4 : Four w
  eT : ErrT w
  sC : SentC w
  s0 : Sent w 7
  s1 : Sent w 8
  s2 : Sent w 9
  hG : 7 < w.heap.size ∧ 8 < w.heap.size ∧ 9 < w.heap.size
theorem SentU.below {w w' : World} (h : SentU w) (hb : Below w.heap.size w w') : SentU w' :=
  ⟨h.f4.below hb, h.eT.below hb, h.sC.below hb, h.s0.below hb h.hG.1, h.s1.below hb h.hG.2.1, h.s2.below hb h.hG.2.2, by have := hb.size; have := h.hG; omega⟩
/-- What lies in memory while the law looks at a text's bits. -/
structure HfW (w0 W : World) (X : Nat) (la : Option Addr) (ls : List Int) (ta : Option Addr) (ts : List Int) (xa : Option Addr) (xc : Nat) (es : List Int) (N : Nat) : Prop where
  lens : Ins W la ls
  txt : Ins W ta ts
  byt : Byt W xa es
  c0 : W.cell? ⟨X, 0, none⟩ = some (.slice xa es.length xc)
  c1 : W.cell? ⟨X, 1, none⟩ = some (.int .i64 N)
  lt : X < W.heap.size
  bel : Below w0.heap.size w0 W
theorem HfW.step {w0 W W' : World} {X : Nat} {la : Option Addr} {ls : List Int} {ta : Option Addr} {ts : List Int} {xa : Option Addr} {xc : Nat} {es : List Int} {N : Nat} (h : HfW w0 W X la ls ta ts xa xc es N) (hb : Below W.heap.size W W') : HfW w0 W' X la ls ta ts xa xc es N :=
  ⟨h.lens.below hb (Nat.le_refl _), h.txt.below hb (Nat.le_refl _), h.byt.below hb (Nat.le_refl _), keep hb h.lt h.c0, keep hb h.lt h.c1, Nat.lt_of_lt_of_le h.lt hb.size, h.bel.trans (hb.mono h.bel.size)⟩
theorem HfW.drewN {w0 W : World} {X : Nat} {la : Option Addr} {ls : List Int} {ta : Option Addr} {ts : List Int} {xa : Option Addr} {xc : Nat} {es : List Int} {N : Nat} (h : HfW w0 W X la ls ta ts xa xc es N) (n : Nat) : HfW w0 (W.drewN n) X la ls ta ts xa xc es N :=
  h.step ⟨rfl, rfl, rfl, Nat.le_refl _, fun _ _ => rfl⟩
theorem below_dU (w : World) (n : Nat) : Below w.heap.size w (w.drewN n) := ⟨rfl, rfl, rfl, Nat.le_refl _, fun _ _ => rfl⟩

theorem huffBack {ls ts : List Int} (hl : lensB ls = true) (ht : txtB ts ls.length = true) (ht30 : ts.length ≤ 30) (hc : coded ls ts) :
    hN ls ts ts.length ≤ 360 ∧ (∀ (W : World) (la x : Option Addr) (lc cx : Nat), Ins W la ls → Byt W x (enc (hN ls ts ts.length) (hV ls (csOf ls) ts ts.length)) → SentU W → 
      Calls Tryd.prog 17 #[.slice la ls.length lc, .agg #[.slice x (enc (hN ls ts ts.length) (hV ls (csOf ls) ts ts.length)).length cx, .int .i64 (hN ls ts ts.length : Nat)], .int .i64 0, .int .i64 (ts.length : Nat)] W fun e w' => ∃ g, e = .returned (.tuple #[.slice (some ⟨g, 0, none⟩) ts.length ts.length, .int .i64 (hN ls ts ts.length : Nat), .bool true]) ∧ Ins w' (some ⟨g, 0, none⟩) ts ∧ Below W.heap.size W w') ∧
    (∀ (W : World) (la x : Option Addr) (lc cx : Nat), Ins W la ls → Byt W x (enc (hN ls ts ts.length) (hV ls (csOf ls) ts ts.length)) → SentU W → 
      Calls Tryd.prog 17 #[.slice la ls.length lc, .agg #[.slice x (enc (hN ls ts ts.length) (hV ls (csOf ls) ts ts.length)).length cx, .int .i64 (hN ls ts ts.length : Nat)], .int .i64 0, .int .i64 ((ts.length + 1 : Nat) : Int)] W fun e w' => e = .returned (.tuple #[.slice none 0 0, .int .i64 (-1), .bool false]) ∧ Below W.heap.size W w') := by
  have hl0 := hl
  simp only [lensB, decide_eq_true_eq] at hl0
  have hN30 : hN ls ts ts.length ≤ 360 := by have := hN_le (ls := ls) (ts := ts) hl0.2.2.1 ts.length; omega
  have hR := reads_text hl (fun k hk => txtB_get ht k hk) hc ts.length (Nat.le_refl _)
  rw [List.take_length] at hR
  have hlt := hV_lt ls (csOf ls) ts ts.length
  have hval := val_encB _ _ hlt
  have hok := okB_encB (hN ls ts ts.length) _ (by omega) hlt
  refine ⟨hN30, fun W la x lc cx hla hx hS => ?_, fun W la x lc cx hla hx hS => ?_⟩
  · refine (implHuffGet_ok la lc ls x cx _ (hN ls ts ts.length) 0 ts.length W hla hx hl hok (by rw [hval]) (by omega) (Nat.zero_le _) (by omega) hS.f4 hS.eT hS.s0 hS.s1 hS.s2 hS.hG).mono ?_
    rintro e w' ⟨hb', h⟩
    rw [hval] at h
    rcases h with ⟨q, E, g, hql, hq, ho, rfl⟩ | ⟨q, E, hql, hq, hno, rfl⟩
    · obtain ⟨rfl, rfl⟩ := hq.unique hR hql
      exact ⟨g, rfl, ho.byt, hb'⟩
    · exact (hR.stuck hq hql hno).elim
  · refine (implHuffGet_ok la lc ls x cx _ (hN ls ts ts.length) 0 (ts.length + 1) W hla hx hl hok (by rw [hval]) (by omega) (Nat.zero_le _) (by omega) hS.f4 hS.eT hS.s0 hS.s1 hS.s2 hS.hG).mono ?_
    rintro e w' ⟨hb', h⟩
    rw [hval] at h
    rcases h with ⟨q, E, g, hql, hq, ho, rfl⟩ | ⟨q, E, hql, hq, hno, rfl⟩
    · obtain ⟨e, i, k, h1, h2⟩ := hq.cut ts.length (by omega)
      obtain ⟨-, rfl⟩ := h1.unique hR (by rw [List.length_take]; omega)
      have := h2.1
      have := h2.2.2.1
      omega
    · exact ⟨rfl, hb'⟩

set_option maxRecDepth 20000 in
set_option maxHeartbeats 8000000 in
theorem lawFnHuffs_any (a : Option Addr) (cap : Nat) (bs : List Int) (w : World) (hb : Byt w a bs) (hm : bs.length ≤ maxLen) (hS : SentU w) :
    Calls Tryd.prog 5 #[.slice a bs.length cap] w fun e w' => e = .returned (.bool true) ∧ Below w.heap.size w w' := by
  have HS : Hid (SentU w ∧ True) := ⟨hS, trivial⟩
  clear hS
  go_enter Tryd.func5, Tryd.ntmps5
  go_wp2_with fail
  refine (drawHuffPut_any a bs cap w hb hm).mono ?_
  rintro e w1 ⟨n, g, lc, ls, ta, tc, ts, rfl, hll, hlb, hrl, hmt, ht30, htr, hb1⟩
  have HB1 : Hid (Below w.heap.size w w1 ∧ Ins w1 (some ⟨g, 0, none⟩) ls ∧ Ins w1 ta ts) := ⟨hb1, hrl.byt, hmt.byt⟩
  have HCL : Hid (ls.length = n ∧ BentR ls) := ⟨hll, hlb⟩
  have hn2 : n ≤ 81 := by have := hlb.2.1; omega
  have hSU := HS.out.1.below hb1
  clear hb1 hrl hmt hll hlb htr
  by_cases hyes : (lensB ls = true ∧ txtB ts ls.length = true) ∧ coded ls ts
  · obtain ⟨⟨hl, ht⟩, hc⟩ := hyes
    obtain ⟨hN30, hG1, hG2⟩ := huffBack hl ht ht30 hc
    have HG : Hid _ := And.intro hG1 hG2
    obtain ⟨hcy, hpay⟩ := text_cost hl ht hc
    have hCO : ∀ (W : World) (k : Nat), Ins W ta ts → Calls Tryd.prog 18 #[.slice ta ts.length tc, .int .i64 (ls.length : Nat)] W fun e w' => ∃ g, e = .returned (.tuple #[.slice (some ⟨g, 0, none⟩) ls.length ls.length, .bool true]) ∧ Ins w' (some ⟨g, 0, none⟩) (cnts ts ls.length) ∧ Below W.heap.size W w' := fun W k h => by
      refine (implCounts_yes ta tc ts ls.length W h ht).mono ?_
      rintro e w' ⟨rfl, ho, hb'⟩
      exact ⟨_, rfl, ho.byt, hb'⟩
    have hPA : ∀ (W : World) (ca : Option Addr) (cc : Nat), Ins W ca (cnts ts ls.length) → Ins W (some ⟨g, 0, none⟩) ls → SentU W → Calls Tryd.prog 13 #[.slice ca ls.length cc, .slice (some ⟨g, 0, none⟩) ls.length lc] W fun e w' => e = .returned (.tuple #[.int .i64 (hN ls ts ts.length : Nat), .bool true]) ∧ Below W.heap.size W w' := fun W ca cc h1 h2 hS => by
      have h := implCost_any ca cc (cnts ts ls.length) (some ⟨g, 0, none⟩) lc ls W h1 h2 (by rw [cnts_len, HCL.out.1]; omega) (by rw [HCL.out.1]; omega) hS.f4 hS.eT
      obtain ⟨e1, e2⟩ := cost_yes hcy
      rw [cnts_len, e1, e2, hpay] at h
      exact h
    have HCO : Hid _ := And.intro hCO hPA
    have HIP := implHuffPut_ok (some ⟨g, 0, none⟩) lc ls ta tc ts w1 HB1.out.2.1 HB1.out.2.2 hl ht hSU.f4 hSU.eT hSU.sC
    have HC : Hid (coded ls ts ∧ True) := ⟨hc, trivial⟩
    clear hG1 hG2 hcy hpay hCO hPA hSU hl ht hc
    rw [HCL.out.1] at HG HCO HIP
    generalize enc (hN ls ts ts.length) (hV ls (csOf ls) ts ts.length) = es at *
    generalize hN ls ts ts.length = N at *
    generalize hTL : ts.length = T at *
    have HTL : Hid (ts.length = T ∧ True) := ⟨hTL, trivial⟩
    clear hTL
    go_wp2_with fail
    refine HIP.mono ?_
    clear HIP
    rintro e w2 ⟨hb2, hy, -⟩
    obtain ⟨xa, xc, rfl, hmine⟩ := hy HC.out.1
    have hA : Below w2.heap.size w2 (w2.alloc (Obj.cells #[Value.slice xa es.length xc, Value.int IntKind.i64 (N : Nat)] 36)) := (Below.refl _ _).alloc (Nat.le_refl _) _
    have hb12 : Below w.heap.size w w2 := HB1.out.1.trans (hb2.mono HB1.out.1.size)
    have HA : Hid (HfW w (w2.alloc (Obj.cells #[Value.slice xa es.length xc, Value.int IntKind.i64 (N : Nat)] 36)) w2.heap.size (some ⟨g, 0, none⟩) ls ta ts xa xc es N ∧ (w2.alloc (Obj.cells #[Value.slice xa es.length xc, Value.int IntKind.i64 (N : Nat)] 36)).heap.size = w2.heap.size + 1) :=
      ⟨⟨(HB1.out.2.1.below hb2 (Nat.le_refl _)).below hA (Nat.le_refl _), (HB1.out.2.2.below hb2 (Nat.le_refl _)).below hA (Nat.le_refl _), hmine.byt.below hA (Nat.le_refl _), by simp, by simp, by simp, hb12.trans (hA.mono hb12.size)⟩, by simp⟩
    have HIN : Hid (∀ T, Ins ((w2.alloc (Obj.cells #[Value.slice xa es.length xc, Value.int IntKind.i64 (N : Nat)] 36)).alloc (.cells #[.int .i64 1, .int .i64 2, .int .i64 2] T)) (some ⟨w2.heap.size + 1, 0, none⟩) [1, 2, 2]) := fun T => by
      have := ins_newN (w2.alloc (Obj.cells #[Value.slice xa es.length xc, Value.int IntKind.i64 (N : Nat)] 36)) T [1, 2, 2] (by intro z hz; simp at hz; omega)
      rw [World.size_alloc] at this
      simpa using this
    clear hb2 hy hmine hA HB1 hb12
    go_wp2_with fail
    generalize w2.alloc (Obj.cells #[Value.slice xa es.length xc, Value.int IntKind.i64 (N : Nat)] 36) = W at *
    generalize w2.heap.size = X at *
    have hWa : Below W.heap.size W (W.alloc (.cells #[.int .i64 1, .int .i64 2, .int .i64 2] 3)) := (Below.refl _ _).alloc (Nat.le_refl _) _
    have hSW := (HS.out.1.below HA.out.1.bel)
    refine (codes122_any (some ⟨X + 1, 0, none⟩) 3 _ (HIN.out _) (hSW.below hWa).f4 (hSW.below hWa).eT).mono ?_
    rintro e w3 ⟨g3, rfl, ho3, hb3⟩
    have HF3 : Hid (HfW w w3 X (some ⟨g, 0, none⟩) ls ta ts xa xc es N) := HA.out.1.step (hWa.trans (hb3.mono (by simp)))
    have HO3 : Hid (Ins w3 (some ⟨g3, 0, none⟩) [0, 2, 3]) := ho3.byt
    have HIN2 : Hid (∀ T, Ins (w3.alloc (.cells #[.int .i64 0, .int .i64 2, .int .i64 3] T)) (some ⟨w3.heap.size, 0, none⟩) [0, 2, 3]) := fun T => by
      have := ins_newN w3 T [0, 2, 3] (by intro z hz; simp at hz; omega)
      simpa using this
    clear ho3 hb3 hWa hSW HIN HA
    go_wp2_with fail
    refine (sameInts_yes _ _ _ _ [0, 2, 3] _ (HO3.out.alloc _) (HIN2.out _) (by simp)).mono ?_
    rintro e w4 ⟨rfl, n4, rfl⟩
    have HF4 : Hid (HfW w ((w3.alloc (.cells #[.int .i64 0, .int .i64 2, .int .i64 3] 3)).drewN n4) X (some ⟨g, 0, none⟩) ls ta ts xa xc es N) := (HF3.out.step ((Below.refl _ _).alloc (Nat.le_refl _) _)).drewN n4
    clear HF3 HO3 HIN2
    generalize (w3.alloc (.cells #[.int .i64 0, .int .i64 2, .int .i64 3] 3)).drewN n4 = w4 at *
    have p0 := HF4.out.c0
    have p1 := HF4.out.c1
    have hG1 := HG.out.1 w4 (some ⟨g, 0, none⟩) xa lc xc HF4.out.lens HF4.out.byt (HS.out.1.below HF4.out.bel)
    go_wp2_with fail
    refine hG1.mono ?_
    clear hG1
    rintro e w5 ⟨g5, rfl, hi5, hb5⟩
    have HF5 : Hid (HfW w w5 X (some ⟨g, 0, none⟩) ls ta ts xa xc es N ∧ Ins w5 (some ⟨g5, 0, none⟩) ts) := ⟨HF4.out.step hb5, hi5⟩
    have hC1 := HCO.out.1 w5 0 HF5.out.1.txt
    clear hi5 hb5 HF4 p0 p1
    go_wp2_with fail
    refine hC1.mono ?_
    clear hC1
    rintro e w6 ⟨g6, rfl, hi6, hb6⟩
    have HF6 : Hid (HfW w w6 X (some ⟨g, 0, none⟩) ls ta ts xa xc es N ∧ Ins w6 (some ⟨g5, 0, none⟩) ts ∧ Ins w6 (some ⟨g6, 0, none⟩) (cnts ts n)) := ⟨HF5.out.1.step hb6, HF5.out.2.below hb6 (Nat.le_refl _), hi6⟩
    have hC2 := HCO.out.2 w6 (some ⟨g6, 0, none⟩) n HF6.out.2.2 HF6.out.1.lens (HS.out.1.below HF6.out.1.bel)
    clear hi6 hb6 HF5
    go_wp2_with fail
    refine hC2.mono ?_
    clear hC2
    rintro e w7 ⟨rfl, hb7⟩
    have HF7 : Hid (HfW w w7 X (some ⟨g, 0, none⟩) ls ta ts xa xc es N ∧ Ins w7 (some ⟨g5, 0, none⟩) ts) := ⟨HF6.out.1.step hb7, HF6.out.2.1.below hb7 (Nat.le_refl _)⟩
    clear hb7 HF6
    have p0 := HF7.out.1.c0
    have p1 := HF7.out.1.c1
    have hG2 := HG.out.2 w7 (some ⟨g, 0, none⟩) xa lc xc HF7.out.1.lens HF7.out.1.byt (HS.out.1.below HF7.out.1.bel)
    have hT1 : ((T + 1 : Nat) : Int) = (T : Int) + 1 := by omega
    rw [hT1] at hG2
    clear hT1
    go_wp2_with fail
    refine hG2.mono ?_
    clear hG2
    rintro e w8 ⟨rfl, hb8⟩
    have HF8 : Hid (HfW w w8 X (some ⟨g, 0, none⟩) ls ta ts xa xc es N ∧ Ins w8 (some ⟨g5, 0, none⟩) ts) := ⟨HF7.out.1.step hb8, HF7.out.2.below hb8 (Nat.le_refl _)⟩
    clear hb8 HF7 p0 p1
    have r0 := HF8.out.1.c0
    have r1 := HF8.out.1.c1
    have HSM := sameInts_yes (some ⟨g5, 0, none⟩) ta T tc ts w8 HF8.out.2 HF8.out.1.txt (by rw [HTL.out.1]; omega)
    rw [HTL.out.1] at HSM
    have hNN : ((N : Int) == (N : Int)) = true := by simp
    go_wp2_with fail
    refine HSM.mono ?_
    clear HSM
    rintro e w9 ⟨rfl, m9, rfl⟩
    have HF9 : Hid (Below w.heap.size w (w8.drewN m9) ∧ True) := ⟨(HF8.out.1.drewN m9).bel, trivial⟩
    have q1 := (HF8.out.1.drewN m9).c1
    go_wp2
    go_ret
    exact ⟨rfl, HF9.out.1⟩
  · have HIP : Calls Tryd.prog 15 #[.slice (some ⟨g, 0, none⟩) n lc, .slice ta ts.length tc] w1 fun e w' => e = .returned (.tuple #[.agg #[.slice none 0 0, .int .i64 0], .bool false]) ∧ Below w1.heap.size w1 w' := by
      by_cases hf : lensB ls = true ∧ txtB ts ls.length = true
      · have h := implHuffPut_ok (some ⟨g, 0, none⟩) lc ls ta tc ts w1 HB1.out.2.1 HB1.out.2.2 hf.1 hf.2 hSU.f4 hSU.eT hSU.sC
        rw [HCL.out.1] at h
        refine h.mono ?_
        rintro e w' ⟨hb', -, hn⟩
        exact ⟨hn (fun h => hyes ⟨hf, h⟩), hb'⟩
      · have h := implHuffPut_no (some ⟨g, 0, none⟩) lc ls ta tc ts w1 HB1.out.2.1 HB1.out.2.2 (by rw [HCL.out.1]; omega) (by omega) hf hSU.f4 hSU.eT
        rw [HCL.out.1] at h
        exact h
    clear hyes hSU
    go_wp2_with fail
    refine HIP.mono ?_
    clear HIP
    rintro e w2 ⟨rfl, hb2⟩
    have hA : Below w2.heap.size w2 (w2.alloc (Obj.cells #[Value.slice none 0 0, Value.int IntKind.i64 0] 36)) := (Below.refl _ _).alloc (Nat.le_refl _) _
    have hb12 : Below w.heap.size w w2 := HB1.out.1.trans (hb2.mono HB1.out.1.size)
    have HA : Hid ((w2.alloc (Obj.cells #[Value.slice none 0 0, Value.int IntKind.i64 0] 36)).cell? ⟨w2.heap.size, 1, none⟩ = some (.int .i64 0) ∧ w2.heap.size < (w2.alloc (Obj.cells #[Value.slice none 0 0, Value.int IntKind.i64 0] 36)).heap.size ∧ Below w.heap.size w (w2.alloc (Obj.cells #[Value.slice none 0 0, Value.int IntKind.i64 0] 36))) := ⟨by simp, by simp, hb12.trans (hA.mono hb12.size)⟩
    have HIN : Hid (∀ T, Ins ((w2.alloc (Obj.cells #[Value.slice none 0 0, Value.int IntKind.i64 0] 36)).alloc (.cells #[.int .i64 1, .int .i64 2, .int .i64 2] T)) (some ⟨w2.heap.size + 1, 0, none⟩) [1, 2, 2]) := fun T => by
      have := ins_newN (w2.alloc (Obj.cells #[Value.slice none 0 0, Value.int IntKind.i64 0] 36)) T [1, 2, 2] (by intro z hz; simp at hz; omega)
      rw [World.size_alloc] at this
      simpa using this
    clear hb2 hA HB1 hb12
    go_wp2_with fail
    generalize w2.alloc (Obj.cells #[Value.slice none 0 0, Value.int IntKind.i64 0] 36) = W at *
    generalize w2.heap.size = X at *
    have hWa : Below W.heap.size W (W.alloc (.cells #[.int .i64 1, .int .i64 2, .int .i64 2] 3)) := (Below.refl _ _).alloc (Nat.le_refl _) _
    have hSW := (HS.out.1.below HA.out.2.2)
    refine (codes122_any (some ⟨X + 1, 0, none⟩) 3 _ (HIN.out _) (hSW.below hWa).f4 (hSW.below hWa).eT).mono ?_
    rintro e w3 ⟨g3, rfl, ho3, hb3⟩
    have hbW3 := hWa.trans (hb3.mono (by simp))
    have HF3 : Hid (w3.cell? ⟨X, 1, none⟩ = some (.int .i64 0) ∧ Below w.heap.size w w3 ∧ X < w3.heap.size) := ⟨keep hbW3 HA.out.2.1 HA.out.1, HA.out.2.2.trans (hbW3.mono HA.out.2.2.size), Nat.lt_of_lt_of_le HA.out.2.1 hbW3.size⟩
    have HO3 : Hid (Ins w3 (some ⟨g3, 0, none⟩) [0, 2, 3]) := ho3.byt
    have HIN2 : Hid (∀ T, Ins (w3.alloc (.cells #[.int .i64 0, .int .i64 2, .int .i64 3] T)) (some ⟨w3.heap.size, 0, none⟩) [0, 2, 3]) := fun T => by
      have := ins_newN w3 T [0, 2, 3] (by intro z hz; simp at hz; omega)
      simpa using this
    clear ho3 hb3 hWa hSW HIN HA hbW3
    go_wp2_with fail
    refine (sameInts_yes _ _ _ _ [0, 2, 3] _ (HO3.out.alloc _) (HIN2.out _) (by simp)).mono ?_
    rintro e w4 ⟨rfl, n4, rfl⟩
    have hb34 : Below w3.heap.size w3 ((w3.alloc (.cells #[.int .i64 0, .int .i64 2, .int .i64 3] 3)).drewN n4) := (((Below.refl _ _).alloc (Nat.le_refl _) _)).trans ((below_dU _ n4).mono (by simp))
    have p1 := keep hb34 HF3.out.2.2 HF3.out.1
    have HF4 : Hid (Below w.heap.size w ((w3.alloc (.cells #[.int .i64 0, .int .i64 2, .int .i64 3] 3)).drewN n4) ∧ True) := ⟨HF3.out.2.1.trans (hb34.mono HF3.out.2.1.size), trivial⟩
    clear HF3 HO3 HIN2 hb34
    generalize (w3.alloc (.cells #[.int .i64 0, .int .i64 2, .int .i64 3] 3)).drewN n4 = w4 at *
    go_wp2
    go_ret
    exact ⟨rfl, HF4.out.1⟩
end Go.Proofs.YtkjebacpmmfflaaDoor
