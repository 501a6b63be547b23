/-
  cellsOf of the program.
-/
import Derived.Test.YtfeokafkhnbdiaaGreatDoorPour
import Derived.Test.YtfeokafkhnbdiaaGreatDoorLPutT1
import Derived.Test.YtfeokafkhnbdiaaGreatDoorICntI
import Derived.Test.YtfeokafkhnbdiaaGreatDoorPcV
import Derived.Test.YtfeokafkhnbdiaaGreatDoorFp7
import Derived.Deep.MidRow
namespace Go.Proofs.YtfeokafkhnbdiaaGreatDoor
open Go.RowKit
set_option linter.unusedVariables false

/-- Every block of cells that are no bytes, but R and Q, is as it was. -/
def KpQ (R Q : Nat) (w w' : World) : Prop := ∀ g cur T, w.heap[g]? = some (.cells cur T (0, 0)) → T ≠ 5 → g ≠ R → g ≠ Q → w'.heap[g]? = some (.cells cur T (0, 0))
structure PouredT (w wr : World) (R B Q : Nat) (b : Option Addr) (L cb n V m U p0 j : Nat) (u : Value) : Prop where
  hR : wr.heap[R]? = some (.cells #[u, .int .i64 ((n + j : Nat) : Int), .int .i64 4096] 73 (0, 0))
  hv : OwnV wr B u (enc (n + j) (V + (U % 2 ^ j) * 2 ^ n))
  hQ : wr.heap[Q]? = some (.cells #[.slice b L cb, .int .i64 m, .int .i64 ((p0 + j : Nat) : Int)] 109 (0, 0))
  bel : Below B w wr
  kp : KpQ R Q w wr

theorem PouredT.drewN {w wr : World} {R B Q : Nat} {b : Option Addr} {L cb n V m U p0 j : Nat} {u : Value} (h : PouredT w wr R B Q b L cb n V m U p0 j u) (k : Nat) : PouredT w (wr.drewN k) R B Q b L cb n V m U p0 j u :=
  ⟨h.hR, h.hv, h.hQ, below_drewN h.bel k, h.kp⟩

theorem PouredT.ne {w wr : World} {R B Q : Nat} {b : Option Addr} {L cb n V m U p0 j : Nat} {u : Value} (h : PouredT w wr R B Q b L cb n V m U p0 j u) : Q ≠ R := by
  rintro rfl
  have := h.hR.symm.trans h.hQ
  simp at this

set_option maxRecDepth 100000 in
set_option maxHeartbeats 2000000 in
/-- The reader is at p0, its last bit ahead of m; its bytes may hold more. -/
theorem pour_k (R B Q : Nat) (v : Value) (b : Option Addr) (cb : Nat) (ys : List Int) (n V m M U0 p0 : Nat) (pe : Addr) (w : World)
    (hR : w.heap[R]? = some (.cells #[v, .int .i64 n, .int .i64 4096] 73 (0, 0))) (hv : OwnV w B v (enc n V)) (hV : V < 2 ^ n) (hB : B ≤ w.heap.size)
    (hQ : w.heap[Q]? = some (.cells #[.slice b ys.length cb, .int .i64 m, .int .i64 p0] 109 (0, 0))) (hb : Byt w b ys) (hy : ys = enc M U0) (hn : n ≤ 4096) (hm : m ≤ M) (hM : M ≤ 4096) (hpm0 : p0 ≤ m) (hfit0 : n + (m - p0) ≤ 4096)
    (hBR : B ≤ R) (hBQ : B ≤ Q) (hG : 11 < B) (hbB : 0 < ys.length → ∀ x, b = some x → x.block < B)
    (g0 : w.cell? ⟨11, 0, none⟩ = some (.iface 246 (.pointer (some pe)))) :
    Calls Tryz.prog 98 #[.pointer (some ⟨R, 0, none⟩), .pointer (some ⟨Q, 0, none⟩)] w fun e w' =>
      Below B w w' ∧ KpQ R Q w w' ∧ e = .returned .nilIface ∧ ∃ v', w'.heap[R]? = some (.cells #[v', .int .i64 ((n + (m - p0) : Nat) : Int), .int .i64 4096] 73 (0, 0)) ∧ OwnV w' B v' (enc (n + (m - p0)) (V + (U0 / 2 ^ p0 % 2 ^ (m - p0)) * 2 ^ n)) := by
  obtain ⟨U, hUe⟩ : ∃ U, U = U0 / 2 ^ p0 := ⟨_, rfl⟩
  have HU : Hid (U = U0 / 2 ^ p0) := hUe
  obtain ⟨d, rfl⟩ : ∃ d, m = p0 + d := ⟨m - p0, by omega⟩
  rw [Nat.add_sub_cancel_left] at hfit0
  rw [Nat.add_sub_cancel_left, ← hUe]
  clear hUe
  have HR : Hid (PouredT w w R B Q b ys.length cb n V (p0 + d) U p0 0 v) := ⟨hR, by simpa [Nat.mod_one] using hv, hQ, Below.refl _ _, fun _ _ _ h _ _ _ => h⟩
  have HY : Hid (ys = enc M U0) := hy
  have HVV : Hid (V < 2 ^ n) := hV
  clear hR hv hQ hy hV
  go_enter Tryz.func98, Tryz.ntmps98
  go_wp2
  go_loopw [] (fun wr => ∃ (j : Nat) (u : Value), j ≤ d ∧ n + j ≤ 4096 ∧ PouredT w wr R B Q b ys.length cb n V (p0 + d) U p0 j u) (fun wr => p0 + d - atOf wr Q)
  case atStart => exact ⟨0, v, Nat.zero_le _, by omega, HR.out⟩
  case round =>
    obtain ⟨j, u, hpm, hnp, hP⟩ := hrel
    have e0 := keep hP.bel hG g0
    have c1 : wr.cell? ⟨Q, 1, none⟩ = some (.int .i64 ((p0 + d : Nat) : Int)) := cellR (j := 1) hP.hQ rfl
    have c2 : wr.cell? ⟨Q, 2, none⟩ = some (.int .i64 ((p0 + j : Nat) : Int)) := cellR (j := 2) hP.hQ rfl
    have c0 : wr.cell? ⟨Q, 0, none⟩ = some (.slice b ys.length cb) := cellR (j := 0) hP.hQ rfl
    have hat : atOf wr Q = p0 + j := by simp [atOf, c2]; omega
    have HE0 : Hid (wr.cell? ⟨11, 0, none⟩ = some (.iface 246 (.pointer (some pe)))) := e0
    have HC : Hid _ := (⟨c0, c1, c2⟩ : _ ∧ _ ∧ _)
    have HAT : Hid (atOf wr Q = p0 + j) := hat
    clear e0 c0 c1 c2 hat
    by_cases hlt : j < d
    · have HP : Hid (PouredT w wr R B Q b ys.length cb n V (p0 + d) U p0 j u) := hP
      have HF : Hid (wr.frozen? ⟨Q, 2, none⟩ = false) := frozenR hP.hQ
      clear hP
      go_wp2_with fail
      refine (some_yes Q b cb ys (p0 + d) M U0 (p0 + j) wr (by omega) (by omega) hm (hb.belowB HP.out.bel hbB) HY.out (by omega) HC.out.1 HC.out.2.1 HC.out.2.2 HF.out).mono ?_
      rintro e w1 ⟨rfl, k1, rfl⟩
      obtain ⟨s, hs⟩ : ∃ s, s = min (d - j) 30 := ⟨_, rfl⟩
      rw [show min (p0 + d - (p0 + j)) 30 = s from by omega, shift_part, ← HU.out]
      have hX : U / 2 ^ j % 2 ^ s < 2 ^ s := Nat.mod_lt _ (Nat.pow_pos (by omega))
      have HPP : Hid (V + (U % 2 ^ j) * 2 ^ n + (U / 2 ^ j % 2 ^ s) * 2 ^ (n + j) = V + (U % 2 ^ (j + s)) * 2 ^ n) := put_part n V U j s
      have HVP : Hid (V + (U % 2 ^ j) * 2 ^ n < 2 ^ (n + j)) := put_lt n V j (U % 2 ^ j) HVV.out (Nat.mod_lt _ (Nat.pow_pos (by omega)))
      generalize U / 2 ^ j % 2 ^ s = X at *
      have HXI : Hid ((X : Int) < 2 ^ ((s : Int)).toNat) := by
        have e : ((2 : Int) ^ s) = ((2 ^ s : Nat) : Int) := by simp
        rw [Int.toNat_natCast, e]
        show (X : Int) < _
        exact Int.ofNat_lt.2 hX
      have hP1 := HP.out.drewN k1
      have hne := hP1.ne
      have hszw := hP1.bel.size
      have hs1 : s ≤ 30 := by omega
      have hs2 : j + s ≤ d := by omega
      have hs3 : 0 < s := by omega
      clear hs hX
      rw [show p0 + j + s = p0 + (j + s) from by omega]
      have hO1 : Only (fun k => k = Q) (wr.drewN k1) ((wr.drewN k1).setCell ⟨Q, 2, none⟩ (.int .i64 ((p0 + (j + s) : Nat) : Int))) := Only.setCell (Only.refl (fun k => k = Q) (wr.drewN k1)) (p := ⟨Q, 2, none⟩) (.inl rfl) _
      have hR1 : ((wr.drewN k1).setCell ⟨Q, 2, none⟩ (.int .i64 ((p0 + (j + s) : Nat) : Int))).heap[R]? = some (.cells #[u, .int .i64 ((n + j : Nat) : Int), .int .i64 4096] 73 (0, 0)) := by
        rw [Below.heap_setCell _ _ _ _ (by simpa using hne.symm)]; exact hP1.hR
      have hQ1 : ((wr.drewN k1).setCell ⟨Q, 2, none⟩ (.int .i64 ((p0 + (j + s) : Nat) : Int))).heap[Q]? = some (.cells #[.slice b ys.length cb, .int .i64 ((p0 + d : Nat) : Int), .int .i64 ((p0 + (j + s) : Nat) : Int)] 109 (0, 0)) := by
        rw [heap_setCell_same _ Q 2 _ _ _ hP1.hQ]; simp
      have hv1 : OwnV ((wr.drewN k1).setCell ⟨Q, 2, none⟩ (.int .i64 ((p0 + (j + s) : Nat) : Int))) B u (enc (n + j) (V + (U % 2 ^ j) * 2 ^ n)) := OwnV.only hP1.hv hO1 (fun k hk => OwnV.ne hP1.hv hk hP1.hQ (by decide))
      have hb1 : Below B w ((wr.drewN k1).setCell ⟨Q, 2, none⟩ (.int .i64 ((p0 + (j + s) : Nat) : Int))) := hP1.bel.setCell (by simpa using hBQ) _
      have hq1 : KpQ R Q w ((wr.drewN k1).setCell ⟨Q, 2, none⟩ (.int .i64 ((p0 + (j + s) : Nat) : Int))) := fun g cur T h1 h2 h3 h4 => (hO1.block g (Array.getElem?_eq_some_iff.1 (hP1.kp g cur T h1 h2 h3 h4)).1 h4).trans (hP1.kp g cur T h1 h2 h3 h4)
      have hz1 : B ≤ ((wr.drewN k1).setCell ⟨Q, 2, none⟩ (.int .i64 ((p0 + (j + s) : Nat) : Int))).heap.size := Nat.le_trans hB hb1.size
      clear hP1 hO1 HP HF HC HE0
      generalize (wr.drewN k1).setCell ⟨Q, 2, none⟩ (.int .i64 ((p0 + (j + s) : Nat) : Int)) = w1 at *
      have H1 : Hid _ := (⟨hR1, hQ1, hv1, hb1, hq1⟩ : _ ∧ _ ∧ _ ∧ _ ∧ _)
      have e0 := keep H1.out.2.2.2.1 hG g0
      clear hR1 hQ1 hv1 hb1 hq1
      go_wp2_with fail
      refine (is_nil _ _ _).mono ?_
      rintro e w1' ⟨rfl, rfl⟩
      clear e0
      by_cases hfit : n + j + s ≤ 4096
      · go_wp2_with fail
        refine (wput_yes R B u (n + j) (V + (U % 2 ^ j) * 2 ^ n) (X : Int) (s : Int) 4096 _ H1.out.1 H1.out.2.2.1 HVP.out hz1 (by omega) (by omega) (by omega) HXI.out (by omega) (by omega) (by omega)).mono ?_
        rintro e w2 ⟨rfl, v', hR2, hv2, ho2, hrow2⟩
        simp only [Int.toNat_natCast] at hR2 hv2
        rw [HPP.out] at hv2
        have hQl : Q < w1'.heap.size := (Array.getElem?_eq_some_iff.1 H1.out.2.1).1
        have hQ2 := (ho2.block Q hQl (by
          rintro (h | h)
          · exact hne h
          · exact OwnV.ne H1.out.2.2.1 h H1.out.2.1 (by decide) rfl)).trans H1.out.2.1
        have hb2 : Below B w w2 := H1.out.2.2.2.1.trans (ho2.below hz1 (by
          rintro k (h | h)
          · omega
          · exact (H1.out.2.2.1.1.lt _ h).1))
        have hq2 : KpQ R Q w w2 := fun g cur T h1 h2 h3 h4 => by
          have h5 := H1.out.2.2.2.2 g cur T h1 h2 h3 h4
          refine (ho2.block g (Array.getElem?_eq_some_iff.1 h5).1 ?_).trans h5
          rintro (h | h)
          · exact h3 h
          · exact OwnV.ne H1.out.2.2.1 h h5 h2 rfl
        have HF : Hid (PouredT w w2 R B Q b ys.length cb n V (p0 + d) U p0 (j + s) v') := ⟨by rw [hR2, Nat.add_assoc], by rw [← Nat.add_assoc]; exact hv2, hQ2, hb2, hq2⟩
        have hat2 : Hid (atOf w2 Q = p0 + (j + s)) := by unfold Hid; simp [atOf, cellR (j := 2) hQ2 rfl]; omega
        clear hR2 hv2 hQ2 hb2 hq2 ho2 hrow2 H1
        go_wp2
        go_roundw
        case rel => exact ⟨j + s, v', by omega, by omega, HF.out⟩
        case measure => rw [HAT.out, hat2.out]; omega
      · omega
    · have hpe : j = d := by omega
      subst hpe
      have HP : Hid (PouredT w wr R B Q b ys.length cb n V (p0 + j) U p0 j u) := hP
      clear hP
      go_wp2_with fail
      refine (some_no Q (p0 + j) (p0 + j) (.iface 246 (.pointer (some pe))) wr (by omega) rfl HC.out.2.1 HC.out.2.2 HE0.out).mono ?_
      rintro e w1 ⟨rfl, k1, rfl⟩
      have HP1 : Hid (PouredT w (wr.drewN k1) R B Q b ys.length cb n V (p0 + j) U p0 j u) := HP.out.drewN k1
      clear HP HC HE0
      generalize wr.drewN k1 = wf at *
      have e0 := keep HP1.out.bel hG g0
      go_wp2_with fail
      refine (is_same pe _).mono ?_
      rintro e wf' ⟨rfl, rfl⟩
      go_wp2
      go_ret
      exact ⟨HP1.out.bel, HP1.out.kp, rfl, u, HP1.out.hR, HP1.out.hv⟩
/-- All of the bits of a row go over. -/
theorem pour_w (R B Q : Nat) (b : Option Addr) (cb : Nat) (ys : List Int) (n V m U : Nat) (pe : Addr) (w : World) (h : WI w B R n V)
    (hQ : w.heap[Q]? = some (.cells #[.slice b ys.length cb, .int .i64 m, .int .i64 0] 109 (0, 0))) (hb : Byt w b ys) (hy : ys = enc m U) (hU : U < 2 ^ m) (hn : n ≤ 4096) (hM : m ≤ 4096) (hfit0 : n + m ≤ 4096) (hBQ : B ≤ Q) (hG : 11 < B) (hbB : 0 < ys.length → ∀ x, b = some x → x.block < B)
    (g0 : w.cell? ⟨11, 0, none⟩ = some (.iface 246 (.pointer (some pe)))) :
    Calls Tryz.prog 98 #[.pointer (some ⟨R, 0, none⟩), .pointer (some ⟨Q, 0, none⟩)] w fun e w' => e = .returned .nilIface ∧ WI w' B R (n + m) (V + U * 2 ^ n) ∧ Below B w w' ∧ KpQ R Q w w' := by
  obtain ⟨v, hR, hv, hV, hBR, hB⟩ := h
  refine (pour_k R B Q v b cb ys n V m m U 0 pe w hR hv hV hB (by simpa using hQ) hb hy hn (Nat.le_refl _) hM (Nat.zero_le _) (by simpa using hfit0) hBR hBQ hG hbB g0).mono ?_
  rintro e w' ⟨hb', hk, rfl, v', hR', hv'⟩
  simp only [Nat.pow_zero, Nat.div_one, Nat.sub_zero, Nat.mod_eq_of_lt hU] at hR' hv'
  exact ⟨rfl, ⟨v', hR', hv', put_lt n V m U hV hU, hBR, Nat.le_trans hB hb'.size⟩, hb', hk⟩
theorem rngI_of {zs : List Int} {m : Int} (h : ∀ z ∈ zs, 0 ≤ z ∧ z ≤ m) (hm : m ≤ 9223372036854775807) : ∀ z ∈ zs, -9223372036854775808 ≤ z ∧ z ≤ 9223372036854775807 := fun z hz => by have := h z hz; omega

set_option maxHeartbeats 800000 in
theorem implCounts_yes (a : Option Addr) (cap : Nat) (zs : List Int) (n : Nat) (w : World) (hb : Ins w a zs) (ht : txtB zs n = true) :
    Calls Tryz.prog 94 #[.slice a zs.length cap, .int .i64 n] w fun e w' =>
      e = .returned (.tuple #[.slice (some ⟨w.heap.size, 0, none⟩) n n, .bool true]) ∧ OwI w' w.heap.size w.heap.size n (cnts zs n) ∧ Below w.heap.size w w' := by
  obtain ⟨i0, hi, hz0, hz1, hz2⟩ := info_parts Tryz.infoI64
  obtain ⟨hn1, hn2, hn3⟩ := txtB_bnd ht
  have HTX : Hid (txtB zs n = true) := ht
  clear ht
  have hL : zs.length ≤ 281474976710656 := by omega
  have HT := implTxt_any a cap zs (n : Int) w hb hL
  rw [HTX.out] at HT
  generalize hlen : zs.length = L at *
  have HL : Hid (zs.length = L) := hlen
  clear hlen
  go_enter Tryz.func94, Tryz.ntmps94
  go_wp2_with fail
  refine HT.mono ?_
  rintro e w0 ⟨rfl, rfl⟩
  clear HT
  go_wp2_with (at_make; refine wpList_make_full _ rfl _ _ 38 rfl w0.heap.size 3 i0 (.int .i64 0) 1 Tryz.underlying38 hi hz0 hz1 .i64 .i64 _ _ n rfl rfl rfl rfl (by rw [hz2]; omega) (by unfold maxLen; omega) (Nat.le_refl _) ?_; intro w1 hown hgrow)
  have h0 : OwI w1 w0.heap.size w0.heap.size n (cnts (zs.take 0) n) := by
    have e : cnts (zs.take 0) n = List.replicate n 0 := by simp [cnts]
    rw [e]
    refine ⟨?_, by intro z hz; simp at hz; omega⟩
    rw [made_zeroI] at hown
    simpa using hown
  have hbw : Below w0.heap.size w0 w1 := (Below.refl _ _).grown hgrow (Nat.le_refl _) (by intro k hk; cases hk)
  have H0 : Hid (OwI w1 w0.heap.size w0.heap.size n (cnts (zs.take 0) n)) := h0
  clear h0 hown hgrow hi hz0 hz1 hz2
  go_loopw [17] (fun i wr => ∃ k : Nat, k ≤ L ∧ i = .int .i64 k ∧ OwI wr w0.heap.size w0.heap.size n (cnts (zs.take k) n) ∧ Below w0.heap.size w0 wr) (fun i _ => L - (intOf i).toNat)
  case atStart => exact ⟨0, Nat.zero_le _, rfl, H0.out, hbw⟩
  case round =>
    obtain ⟨k, hk, rfl, hown, hbel⟩ := hrel
    have HO : Hid (OwI wr w0.heap.size w0.heap.size n (cnts (zs.take k) n)) := hown
    clear hown hbw
    by_cases hlt : k < L
    · obtain ⟨b, off, rfl, hbl, hcells⟩ := hb.len_pos k (by rw [HL.out]; exact hlt)
      have hsrc : wr.cell? ⟨b, off + k, none⟩ = some (.int .i64 (zs.getD k 0)) := (hbel.cell (p := ⟨b, off + k, none⟩) hbl).trans (hcells k (by rw [HL.out]; exact hlt))
      have hx := txtB_get HTX.out k (by rw [HL.out]; exact hlt)
      have HST : Hid (bump (cnts (zs.take k) n) (zs.getD k 0) = cnts (zs.take (k + 1)) n) := cnts_take_succ zs n k (by rw [HL.out]; exact hlt)
      generalize hxx : zs.getD k 0 = x at *
      obtain ⟨x, rfl⟩ : ∃ j : Nat, x = j := ⟨x.toNat, by omega⟩
      have hdst := HO.out.cell x (by rw [cnts_len]; omega)
      have hfz := HO.out.frozen x
      have hv : 0 ≤ (cnts (zs.take k) n).getD x 0 ∧ (cnts (zs.take k) n).getD x 0 ≤ 300 := by
        have := cnts_rng (zs.take k) n _ (getD_mem (zs := cnts (zs.take k) n) (k := x) (by rw [cnts_len]; omega))
        have h3 : (zs.take k).length ≤ 300 := by rw [List.length_take, HL.out]; omega
        omega
      have R := HO.out.store x ((cnts (zs.take k) n).getD x 0 + 1) (by omega)
      have e : (cnts (zs.take k) n).set x ((cnts (zs.take k) n).getD x 0 + 1) = cnts (zs.take (k + 1)) n := by rw [← HST.out]; simp [bump]
      rw [e] at R
      generalize (cnts (zs.take k) n).getD x 0 = v at *
      have HR : Hid (OwI (wr.setCell ⟨w0.heap.size, x, none⟩ (.int .i64 (v + 1))) w0.heap.size w0.heap.size n (cnts (zs.take (k + 1)) n)) := R
      have HB : Hid (Below w0.heap.size w0 (wr.setCell ⟨w0.heap.size, x, none⟩ (.int .i64 (v + 1)))) := hbel.setCell (p := ⟨w0.heap.size, x, none⟩) (Nat.le_refl _) (.int .i64 (v + 1))
      clear R e hcells hb hxx
      go_wp2
      go_roundw
      case rel => exact ⟨k + 1, by omega, by go_num, by simpa using HR.out, by simpa using HB.out⟩
      case measure => simp [intOf]; omega
    · have hkn : k = L := by omega
      subst hkn
      have hall := HO.out
      rw [List.take_of_length_le (by rw [HL.out]; exact Nat.le_refl _)] at hall
      have HA : Hid (OwI wr w0.heap.size w0.heap.size n (cnts zs n)) := hall
      clear hall
      go_wp2
      exact bodyPost_ret (v := .tuple #[.slice (some ⟨w0.heap.size, 0, none⟩) n n, .bool true]) (by simp [results, Tryz.results94, go_sem]) rfl ⟨rfl, HA.out, hbel⟩

theorem implCounts_no (a : Option Addr) (cap : Nat) (zs : List Int) (s : Int) (w : World) (hb : Ins w a zs) (hn : zs.length ≤ 281474976710656) (ht : txtB zs s = false) :
    Calls Tryz.prog 94 #[.slice a zs.length cap, .int .i64 s] w fun e w' => e = .returned (.tuple #[.slice none 0 0, .bool false]) ∧ w' = w := by
  have HT := implTxt_any a cap zs s w hb hn
  rw [ht] at HT
  go_enter Tryz.func94, Tryz.ntmps94
  go_wp2_with fail
  refine HT.mono ?_
  rintro e w0 ⟨rfl, rfl⟩
  clear HT
  go_wp2
  exact bodyPost_ret (v := .tuple #[.slice none 0 0, .bool false]) (by simp [results, Tryz.results94, go_sem]) rfl ⟨rfl, rfl⟩
set_option linter.unusedSimpArgs false
/-- The program's own errors, where a text is written. -/
structure SentE (w : World) : Prop where
  sC : SentC w
  sS : Sent w 14
  ov : ∃ pe, w.cell? ⟨11, 0, none⟩ = some (.iface 246 (.pointer (some pe)))
  hG : 14 < w.heap.size ∧ 11 < w.heap.size
theorem SentE.below {w w' : World} (h : SentE w) (hb : Below w.heap.size w w') : SentE w' :=
  ⟨h.sC.below hb, h.sS.below hb h.hG.1, by obtain ⟨pe, hp⟩ := h.ov; exact ⟨pe, keep hb h.hG.2 hp⟩, by have := hb.size; have := h.hG; omega⟩
theorem SentE.belowB {w w' : World} {B : Nat} (h : SentE w) (hB : w.heap.size = B) (hb : Below B w w') : SentE w' := h.below (by rw [hB]; exact hb)
/-- What is handed to the writer of symbols: a text and bits beside, from w0, where the writer was not yet. -/
structure InE (w0 : World) (B : Nat) (a : Option Addr) (zs : List Int) (b : Option Addr) (ys : List Int) (m U : Nat) : Prop where
  hs : Ins w0 a zs
  hb : Byt w0 b ys
  hB : w0.heap.size = B
  hy : ys = enc m U
  hU : U < 2 ^ m
  ht : txtB zs 40 = true
  h1 : 1 ≤ zs.length
  h2 : zs.length ≤ 64
  hm : m ≤ 500
  sE : SentE w0
theorem InE.blk {w0 : World} {B : Nat} {a : Option Addr} {zs : List Int} {b : Option Addr} {ys : List Int} {m U : Nat} (h : InE w0 B a zs b ys m U) : 0 < ys.length → ∀ x, b = some x → x.block < B := by
  intro hp x hx
  obtain ⟨k, o, e, hk, _⟩ := h.hb.2 hp
  rw [hx] at e
  have := h.hB
  simp only [Option.some.injEq] at e
  subst e
  show k < B
  omega

set_option maxRecDepth 20000 in
set_option maxHeartbeats 8000000 in
theorem putByLengths_any (R B n0 V0 : Nat) (a : Option Addr) (ca : Nat) (zs : List Int) (b : Option Addr) (cb : Nat) (ys : List Int) (m U : Nat) (w0 w : World) (hw : WI w B R n0 V0) (hi : InE w0 B a zs b ys m U) (hbel : Below B w0 w) (hn0 : n0 ≤ 100) :
    Calls Tryz.prog 86 #[.pointer (some ⟨R, 0, none⟩), .slice a zs.length ca, .agg #[.slice b ys.length cb, .int .i64 m]] w fun e w' => e = .returned .nilIface ∧ WI w' B R (byL zs m U n0 V0).1 (byL zs m U n0 V0).2 ∧ Below B w0 w' := by
  have HI : Hid (InE w0 B a zs b ys m U) := hi
  have hle := byL_le hi.ht hi.h1 n0 V0
  obtain ⟨hok1, hok2⟩ := tL_ok hi.ht hi.h1
  have HTL : Hid (lensB (tL zs) = true ∧ coded (tL zs) zs ∧ (tL zs).length = 40 ∧ (lpG (tL zs) n0 V0).1 ≤ n0 + 280 ∧ hN (tL zs) zs zs.length ≤ 12 * zs.length) := ⟨hok1, hok2, tL_len zs, hle.1, hle.2⟩
  have HWA : Hid (Below w.heap.size w (w.alloc (.cells #[.slice b ys.length cb, .int .i64 m] 40))) := (Below.refl _ _).alloc (Nat.le_refl _) _
  have HQ0 : Hid ((w.alloc (.cells #[.slice b ys.length cb, .int .i64 m] 40)).heap[w.heap.size]? = some (.cells #[.slice b ys.length cb, .int .i64 m] 40 (0, 0))) := heap_alloc_new w _
  have hRlt : R < w.heap.size := by obtain ⟨_, h, _⟩ := hw; exact (Array.getElem?_eq_some_iff.1 h).1
  have hBw : B ≤ w.heap.size := by obtain ⟨_, _, _, _, _, h⟩ := hw; exact h
  have hz2 := hi.h2
  have hm5 := hi.hm
  have HW : Hid (WI (w.alloc (.cells #[.slice b ys.length cb, .int .i64 m] 40)) B R n0 V0 ∧ Below B w0 (w.alloc (.cells #[.slice b ys.length cb, .int .i64 m] 40))) := ⟨hw.stay HWA.out, hbel.trans (HWA.out.mono hBw)⟩
  have hzA : w.heap.size < (w.alloc (.cells #[.slice b ys.length cb, .int .i64 m] 40)).heap.size := by simp
  have HC1 : Calls Tryz.prog 94 #[.slice a zs.length ca, .int .i64 40] (w.alloc (.cells #[.slice b ys.length cb, .int .i64 m] 40)) _ := implCounts_yes a ca zs 40 _ (hi.hs.below HW.out.2 (by have := hi.hB; omega)) hi.ht
  clear hw hi hbel hle hok1 hok2 HWA
  go_enter Tryz.func86, Tryz.ntmps86
  go_wp2_with fail
  generalize w.alloc (.cells #[.slice b ys.length cb, .int .i64 m] 40) = WA at *
  generalize w.heap.size = Q0 at *
  refine HC1.mono ?_
  clear HC1
  rintro e w1 ⟨rfl, hoc, hb1⟩
  have HL := implLens_yes (some ⟨WA.heap.size, 0, none⟩) 40 (cnts zs 40) 12 w1 hoc.byt (cnts_lens HI.out.ht HI.out.h1)
  rw [cnts_len] at HL
  have HB1 : Hid (Below WA.heap.size WA w1) := hb1
  clear hoc hb1
  go_wp2_with fail
  refine HL.mono ?_
  clear HL
  rintro e w2 ⟨⟨g, rfl, hog⟩, hb2⟩
  have hg := hog.lt
  have hgR : g ≠ R := by have := HB1.out.size; omega
  have HR2 : Hid (RowT w2 g (tL zs)) := hog.rowT
  have hb02 : Below WA.heap.size WA w2 := HB1.out.trans (hb2.mono HB1.out.size)
  have HW2 : Hid (WI w2 B R n0 V0 ∧ Below B w0 w2 ∧ w2.heap[Q0]? = some (.cells #[.slice b ys.length cb, .int .i64 m] 40 (0, 0))) := ⟨HW.out.1.stay hb02, HW.out.2.trans (hb02.mono (by omega)), (hb02.block Q0 hzA).trans HQ0.out⟩
  have hQR : Q0 ≠ R := by omega
  have hP1 := putLens_t g 40 (tL zs) R B n0 V0 w2 HR2.out hgR HW2.out.1 (by omega) (by rw [HTL.out.2.2.1]; omega) (by rw [HTL.out.2.2.1]; omega) (lensB_okH HTL.out.1).2.2
  rw [HTL.out.2.2.1] at hP1
  clear hog hb2 hb02 HW HQ0 HB1 hg hzA
  go_wp2_with fail
  refine hP1.mono ?_
  clear hP1
  rintro e w3 ⟨rfl, hwi3, hb3, hk3⟩
  have HW3 : Hid (WI w3 B R (lpG (tL zs) n0 V0).1 (lpG (tL zs) n0 V0).2 ∧ Below B w0 w3 ∧ RowT w3 g (tL zs) ∧ w3.heap[Q0]? = some (.cells #[.slice b ys.length cb, .int .i64 m] 40 (0, 0))) := ⟨hwi3, HW2.out.2.1.trans hb3, HR2.out.kp hk3 hgR, hk3 Q0 _ _ HW2.out.2.2 (by decide) hQR⟩
  have hP2 := putCodes_t R B (lpG (tL zs) n0 V0).1 (lpG (tL zs) n0 V0).2 g 40 (tL zs) a ca zs w0 w3 HW3.out.1 HW3.out.2.2.1 hgR HI.out.hs HI.out.hB HW3.out.2.1 HTL.out.1 (by omega) (by have := HTL.out.2.2.2.1; omega) (fun k hk => by rw [HTL.out.2.2.1]; exact txtB_get HI.out.ht k hk) HI.out.sE.sC
  rw [HTL.out.2.2.1] at hP2
  clear hwi3 hb3 hk3 HW2 HR2
  go_wp2_with fail
  refine hP2.mono ?_
  clear hP2
  rintro e w4 ⟨⟨hb4, hk4⟩, hyes, -⟩
  obtain ⟨rfl, hwi4⟩ := hyes HTL.out.2.1
  have hQ4 := hk4 Q0 _ _ HW3.out.2.2.2 (by decide) hQR
  have q0 : w4.cell? ⟨Q0, 0, none⟩ = some (.slice b ys.length cb) := cellR (j := 0) hQ4 rfl
  have q1 : w4.cell? ⟨Q0, 1, none⟩ = some (.int .i64 m) := cellR (j := 1) hQ4 rfl
  have hR4 : R < w4.heap.size := by obtain ⟨_, h, _⟩ := hwi4; exact (Array.getElem?_eq_some_iff.1 h).1
  have hB4 : B ≤ w4.heap.size := by obtain ⟨_, _, _, _, _, h⟩ := hwi4; exact h
  have HA5 : Hid (Below w4.heap.size w4 (w4.alloc (.cells #[.slice b ys.length cb, .int .i64 m, .int .i64 0] 109))) := (Below.refl _ _).alloc (Nat.le_refl _) _
  have hbw5 : Below B w0 (w4.alloc (.cells #[.slice b ys.length cb, .int .i64 m, .int .i64 0] 109)) := hb4.trans (HA5.out.mono hB4)
  obtain ⟨pe, hpe⟩ := (HI.out.sE.belowB HI.out.hB hbw5).ov
  have hP3 := pour_w R B w4.heap.size b cb ys ((lpG (tL zs) n0 V0).1 + hN (tL zs) zs zs.length) _ m U pe _ (hwi4.stay HA5.out) (heap_alloc_new w4 _) (HI.out.hb.below hbw5 (by have := HI.out.hB; omega)) HI.out.hy HI.out.hU (by have := HTL.out.2.2.2; omega) (by omega) (by have := HTL.out.2.2.2; omega) hB4 (by have := HI.out.sE.hG.2; have := HI.out.hB; omega) HI.out.blk hpe
  have HB5 : Hid (Below B w0 (w4.alloc (.cells #[.slice b ys.length cb, .int .i64 m, .int .i64 0] 109))) := hbw5
  clear hb4 hk4 hwi4 hQ4 HW3 hbw5 hpe HA5
  go_wp2_with fail
  refine hP3.mono ?_
  clear hP3
  rintro e w6 ⟨rfl, hwi6, hb6, -⟩
  have HF : Hid (WI w6 B R (byL zs m U n0 V0).1 (byL zs m U n0 V0).2 ∧ Below B w0 w6) := ⟨hwi6, HB5.out.trans hb6⟩
  clear hwi6 hb6 HB5 q0 q1
  go_wp2
  go_ret
  exact ⟨rfl, HF.out⟩
set_option maxHeartbeats 1600000 in
theorem putNorm_t (g cap : Nat) (zs : List Int) (R B n0 V0 : Nat) (w0 : World) (hb : RowT w0 g zs) (hgR : g ≠ R) (hw : WI w0 B R n0 V0) (hn0 : n0 ≤ 2000) (hn : normB zs = true) :
    Calls Tryz.prog 100 #[.pointer (some ⟨R, 0, none⟩), .slice (some ⟨g, 0, none⟩) zs.length cap] w0 fun e w' => e = .returned .nilIface ∧ WI w' B R (nbG zs n0 zs.length) (vbG zs n0 V0 zs.length) ∧ Below B w0 w' ∧ Kp R w0 w' := by
  obtain ⟨hn1, hn2⟩ := normB_bnd hn
  have HE : Hid _ := fun k => lft_eq hn k
  have HU : Hid _ := fun k hk => lft_succ hn k hk
  have HNB : Hid _ := fun k => nbG_le hn n0 k
  have HW : Hid (WI w0 B R (nbG zs n0 0) (vbG zs n0 V0 0)) := by unfold Hid; simpa [nbG, vbG, nb, vb] using hw
  clear hn hw
  generalize hlen : zs.length = n at *
  have HL : Hid (zs.length = n) := hlen
  clear hlen
  go_enter Tryz.func100, Tryz.ntmps100
  go_wp2
  go_loopw [5, 11] (fun l i wr => ∃ k : Nat, k ≤ n ∧ i = .int .i64 k ∧ l = .int .i64 (lft zs k : Nat) ∧ WI wr B R (nbG zs n0 k) (vbG zs n0 V0 k) ∧ Below B w0 wr ∧ Kp R w0 wr) (fun _ i _ => n - (intOf i).toNat)
  case atStart => exact ⟨0, Nat.zero_le _, rfl, by simp [lft], HW.out, Below.refl _ _, Kp.refl _ _⟩
  case round =>
    clear HW
    obtain ⟨k, hk, rfl, rfl, hwi, hbel, hkp⟩ := hrel
    have HWI : Hid (WI wr B R (nbG zs n0 k) (vbG zs n0 V0 k)) := hwi
    clear hwi
    by_cases hlt : k < n
    · have hglt : g < wr.heap.size := (hb.kp hkp hgR).lt
      have hs1 := (hb.kp hkp hgR).cell k (by rw [HL.out]; exact hlt)
      have hl := (HE.out k).2
      have hu := HU.out k hlt
      have hnb := HNB.out k
      have HSN : Hid (nbG zs n0 (k + 1) = nbG zs n0 k + bl (lft zs k)) := nbG_step zs n0 k
      have HSV : Hid (vbG zs n0 V0 (k + 1) = vbG zs n0 V0 k + (zs.getD k 0).toNat * 2 ^ nbG zs n0 k) := vbG_step zs n0 V0 k
      have hb7 := bl_le7 (lft zs k) hl
      have hb8 := bl_lt (lft zs k) (by omega)
      generalize zs.getD k 0 = x at *
      generalize lft zs k = l at *
      generalize nbG zs n0 k = N at *
      generalize vbG zs n0 V0 k = V at *
      have hxl : x < 2 ^ bl l := by
        have e : ((2 : Int) ^ bl l) = ((2 ^ bl l : Nat) : Int) := by simp
        rw [e]; omega
      have HXL : Hid (x < 2 ^ ((bl l : Nat) : Int).toNat) := by simpa [Hid] using hxl
      clear hxl hb8
      go_wp2_with fail
      refine (shareWidth_any l wr (by omega)).mono ?_
      rintro e w1 ⟨rfl, rfl⟩
      go_wp2_with fail
      refine (HWI.out.putP x (bl l : Nat) hu.2.1 (by omega) (by omega) HXL.out (by omega) (by omega)).mono ?_
      rintro e w2 ⟨rfl, hwi2, hb2, hk2⟩
      have HWI2 : Hid (WI w2 B R (nbG zs n0 (k + 1)) (vbG zs n0 V0 (k + 1))) := by rw [HSN.out, HSV.out]; simpa [Hid] using hwi2
      have HB2 : Hid (Below B w0 w2 ∧ Kp R w0 w2) := ⟨hbel.trans hb2, hkp.trans hk2⟩
      clear hwi2 hb2 hk2 hbel hkp HWI
      have E1 : Hid ((l : Int) - x = ((lft zs (k + 1) : Nat) : Int)) := by unfold Hid; omega
      have hx2 : 0 ≤ x ∧ x ≤ l := hu.2
      clear HSN HSV HXL hu
      go_wp2
      go_roundw
      case rel => exact ⟨k + 1, by omega, by go_num, by rw [E1.out], HWI2.out, HB2.out⟩
      case measure => simp [intOf]; omega
    · have hkn : k = n := by omega
      subst hkn
      go_wp2
      go_ret
      exact ⟨rfl, HWI.out, hbel, hkp⟩

theorem tb_set (SP zs : List Int) (k : Nat) (hk : k < 64) : (((tb SP zs k ++ zer (192 - k * 3)).set (k * 3) (SP.getD k 0)).set (k * 3 + 1) ((wd ((nx SP zs k).getD (SP.getD k 0).toNat 0).toNat : Nat) : Int)).set (k * 3 + 2) ((((nx SP zs k).getD (SP.getD k 0).toNat 0).toNat * 2 ^ wd ((nx SP zs k).getD (SP.getD k 0).toNat 0).toNat : Nat) - 64) = tb SP zs (k + 1) ++ zer (192 - (k + 1) * 3) := by
  have hl := tb_len SP zs k
  rw [tb, show 192 - k * 3 = (192 - (k + 1) * 3) + 3 from by omega]
  generalize (192 - (k + 1) * 3) = m
  rw [show zer (m + 3) = 0 :: 0 :: 0 :: zer m from rfl]
  rw [List.set_append_right _ _ (by omega), List.set_append_right _ _ (by omega), List.set_append_right _ _ (by omega), hl, Nat.sub_self, Nat.add_sub_cancel_left, Nat.add_sub_cancel_left, List.append_assoc]
  rfl

theorem tabset {w : World} {g : Nat} {T : TypeId} {l : List Int} (i : Nat) (v : Int) (h : w.heap[g]? = some (.cells (cel l) T (0, 0))) : (w.setCell ⟨g, i, none⟩ (.int .i64 v)).heap[g]? = some (.cells (cel (l.set i v)) T (0, 0)) := by
  rw [heap_setCell_same _ _ i _ _ _ h]
  simp [cel, List.map_set]

set_option maxRecDepth 100000 in
set_option maxHeartbeats 4000000 in
theorem cellsOf_any (a : Option Addr) (cap : Nat) (zs : List Int) (w : World) (hb : Ins w a zs) (hn : normB zs = true) :
    Calls Tryz.prog 102 #[.slice a zs.length cap] w fun e w' => ∃ g, e = .returned (.pointer (some ⟨g, 0, none⟩)) ∧ w.heap.size ≤ g ∧ w'.heap[g]? = some (.cells ((tb (pl (fl 0 zs) (plc 64)) zs 64).map (Value.int .i64)).toArray 179 (0, 0)) ∧ Below w.heap.size w w' := by
  have hbd := normB_bnd hn
  have HSY : Hid (∀ p, p < 64 → ∃ s : Nat, (pl (fl 0 zs) (plc 64)).getD p 0 = (s : Int) ∧ s < zs.length ∧ 0 < zs.getD s 0 ∧ zs.getD s 0 ≤ 64) := fun p hp => sp_sym hn p hp
  have HSL : Hid ((pl (fl 0 zs) (plc 64)).length = 64) := pl_len _ _
  have HN : Hid (normB zs = true) := hn
  clear hn
  have HB : Hid (Ins w a zs) := hb
  obtain ⟨b1, o1, rfl, hb1, hcz⟩ := hb.len_pos 0 (by omega)
  have HCZ : Hid (∀ i, i < zs.length → w.cell? ⟨b1, o1 + i, none⟩ = some (.int .i64 (zs.getD i 0))) := hcz
  clear hb hcz
  generalize hL : zs.length = L at *
  have HL : Hid (zs.length = L) := hL
  clear hL
  go_enter Tryz.func102, Tryz.ntmps102
  have hzt := zeroTab
  have hzn := zeroNxt
  generalize hZT : cel (zer 192) = ZT at *
  generalize hZN : cel (zer 80) = ZN at *
  have HZT : Hid (cel (zer 192) = ZT) := hZT
  have HZN : Hid (cel (zer 80) = ZN) := hZN
  have HG1 : Hid (((w.alloc (Obj.cells ZT 179)).alloc (Obj.cells ZN 180)).heap[w.heap.size + 1]? = some (.cells ((zer 80).map (Value.int .i64)).toArray 180 (0, 0))) := by
    have := heap_alloc_new (w.alloc (Obj.cells ZT 179)) (Obj.cells ZN 180)
    rw [World.size_alloc, ← hZN] at this
    rw [← hZN]
    exact this
  have HG0 : Hid (((w.alloc (Obj.cells ZT 179)).alloc (Obj.cells ZN 180)).heap[w.heap.size]? = some (.cells ZT 179 (0, 0))) := (Below.heap_alloc _ _ _ (by simp)).trans (heap_alloc_new w _)
  have HBW : Hid (Below w.heap.size w ((w.alloc (Obj.cells ZT 179)).alloc (Obj.cells ZN 180))) := ((Below.refl _ _).alloc (Nat.le_refl _) _).alloc (by simp) _
  have HPS : Hid (0 < (zs.map (Value.int .i64)).length → (some (⟨w.heap.size + 1, 0, none⟩ : Addr)) = some ⟨w.heap.size + 1, 0, none⟩ ∧ ∃ ad, (some (⟨b1, o1, none⟩ : Addr)) = some ad ∧ ∀ j v, (zs.map (Value.int .i64))[j]? = some v → ((w.alloc (Obj.cells ZT 179)).alloc (Obj.cells ZN 180)).cell? (ad.add j) = some v) := by
    intro _
    refine ⟨rfl, ⟨b1, o1, none⟩, rfl, ?_⟩
    intro j u hu
    rw [List.getElem?_map] at hu
    cases hq : zs[j]? with
    | none => rw [hq] at hu; simp at hu
    | some z =>
      rw [hq] at hu
      simp at hu
      subst hu
      have hj : j < zs.length := (List.getElem?_eq_some_iff.1 hq).1
      have := HCZ.out j (by rw [← HL.out]; exact hj)
      rw [List.getD_eq_getElem?_getD, hq] at this
      have e : (⟨b1, o1, none⟩ : Addr).add j = ⟨b1, o1 + j, none⟩ := by unfold Addr.add; split <;> simp_all
      rw [e]
      exact keep HBW.out hb1 this
  have HLN : Hid ((zs.map (Value.int .i64)).length = Nat.min L 80) := by unfold Hid; rw [List.length_map, HL.out]; exact (Nat.min_eq_left hbd.2).symm
  have HFT : Hid (0 + (zs.map (Value.int .i64)).length ≤ ((zer 80).map (Value.int .i64)).length) := by unfold Hid; rw [List.length_map, HL.out, List.length_map]; simp [zer]; omega
  clear hZT hZN
  go_wp2_with (refine wpList_copy_splice rfl (.tmp 9) (.tmp 10) 38 38 rfl 3 Tryz.underlying38 (by kernel_rfl) (some ⟨w.heap.size + 1, 0, none⟩) (some ⟨b1, o1, none⟩) 80 80 L cap rfl rfl (w.heap.size + 1) 0 _ 180 HG1.out _ HLN.out HPS.out HFT.out (by intro v hv; simp at hv; obtain ⟨z, _, rfl⟩ := hv; rfl) (w.heap.size + 1) _ (Below.refl _ _) (Nat.le_refl _) ?_; intro w3 hg3 hb3)
  have HSP := callsIn_wide.1 (spreadOf_in 3 (by omega) (some ⟨b1, o1, none⟩) cap zs w3 (HB.out.below (HBW.out.trans (hb3.mono (by omega))) (Nat.le_refl _)) HN.out)
  rw [HL.out] at HSP
  generalize hSPE : pl (fl 0 zs) (plc 64) = SP at *
  have HSPE : Hid (pl (fl 0 zs) (plc 64) = SP) := hSPE
  clear hSPE
  have HB3 : Hid (Below w.heap.size w w3) := HBW.out.trans (hb3.mono (by omega))
  have HT3 : Hid (w3.heap[w.heap.size]? = some (.cells (cel (tb SP zs 0 ++ zer (192 - 0 * 3))) 179 (0, 0))) := by
    have := (hb3.block w.heap.size (by omega)).trans HG0.out
    rw [← HZT.out] at this
    exact this
  have HN3 : Hid (w3.heap[w.heap.size + 1]? = some (.cells (cel (nx SP zs 0 ++ zer (80 - L))) 180 (0, 0))) := by
    have := hg3.out
    rw [show splice ((zer 80).map (Value.int .i64)) 0 (zs.map (Value.int .i64)) = (nx SP zs 0 ++ zer (80 - L)).map (Value.int .i64) from by
      exact splice_zer zs L HL.out] at this
    exact this
  have hs3 := HB3.out.size
  have hw3 : w.heap.size + 1 < w3.heap.size := (Array.getElem?_eq_some_iff.1 HN3.out).1
  clear hg3 hb3 HBW HG0 HG1 HPS HLN HFT HZT HZN hzt hzn
  generalize hG : w.heap.size = G at *
  have HG : Hid (w.heap.size = G) := hG
  clear hG
  refine HSP.mono ?_
  clear HSP
  rintro e w4 ⟨rfl, hb4⟩
  have HB4 : Hid (Below G w w4) := HB3.out.trans (hb4.mono hs3)
  have HT4 : Hid (w4.heap[G]? = some (.cells (cel (tb SP zs 0 ++ zer (192 - 0 * 3))) 179 (0, 0))) := (hb4.block G (by omega)).trans HT3.out
  have HN4 : Hid (w4.heap[G + 1]? = some (.cells (cel (nx SP zs 0 ++ zer (80 - L))) 180 (0, 0))) := (hb4.block (G + 1) hw3).trans HN3.out
  have HE : Hid (∀ k s : Nat, k < 64 → SP.getD k 0 = (s : Int) → ((SP.map (Value.int .i64)).toArray)[k]? = some (.int .i64 s)) := by
    intro k s hk hs
    have : k < SP.length := by rw [HSL.out]; exact hk
    rw [List.getD_eq_getElem?_getD, List.getElem?_eq_getElem this] at hs
    simp at hs
    simp [List.getElem?_eq_getElem this, hs]
  have HES : Hid (((SP.map (Value.int .i64)).toArray).size = 64) := by unfold Hid; simp [HSL.out]
  generalize (SP.map (Value.int .i64)).toArray = E at *
  clear hb4 HB3 HT3 HN3 hs3 hw3
  go_wp2_with fail
  go_loopw [14] (fun i wr => ∃ k : Nat, k ≤ 64 ∧ i = .int .i64 k ∧ wr.heap[G]? = some (.cells (cel (tb SP zs k ++ zer (192 - k * 3))) 179 (0, 0)) ∧ wr.heap[G + 1]? = some (.cells (cel (nx SP zs k ++ zer (80 - L))) 180 (0, 0)) ∧ Below G w wr) (fun i _ => 64 - (intOf i).toNat)
  case atStart => exact ⟨0, Nat.zero_le _, rfl, HT4.out, HN4.out, HB4.out⟩
  case round =>
    obtain ⟨k, hk, rfl, ht, hnx, hbel⟩ := hrel
    by_cases hlt : k < 64
    · obtain ⟨s, hs, hsl, hzp, hz64⟩ := HSY.out k hlt
      have hbn := nx_bnd SP zs k s
      obtain ⟨X, hX⟩ := Int.eq_ofNat_of_zero_le (show 0 ≤ (nx SP zs k).getD s 0 by omega)
      have hX1 : 1 ≤ X := by omega
      have hX2 : X ≤ 127 := by omega
      have hEk := HE.out k s hlt hs
      have hix := index_row E k s hlt hEk
      clear hEk
      have hnl := nx_len SP zs k
      rw [HL.out] at hnl
      have q1 : wr.cell? ⟨G + 1, s, none⟩ = some (.int .i64 X) := by
        have := arr_cell (tb := nx SP zs k ++ zer (80 - L)) hnx s (by rw [List.length_append, hnl]; omega)
        rw [List.getD_eq_getElem?_getD, List.getElem?_append_left (by omega), ← List.getD_eq_getElem?_getD, hX] at this
        exact this
      have qf := frozen_of_row wr _ s _ _ hnx
      have HT : Hid _ := ht
      have HNX : Hid _ := hnx
      have HBL : Hid _ := hbel
      have HS : Hid (SP.getD k 0 = (s : Int)) := hs
      have HXE : Hid ((nx SP zs k).getD s 0 = (X : Int)) := hX
      have HX12 : Hid (1 ≤ X ∧ X ≤ 127) := ⟨hX1, hX2⟩
      have hs80 : (s : Int) < 80 := by omega
      have hxi : (X : Int) ≤ 127 := by omega
      have HSL2 : Hid (s < L ∧ True) := ⟨hsl, trivial⟩
      clear ht hnx hbel hs hX hbn hnl hzp hz64 hX1 hX2 hsl
      have HTL : Hid ((tb SP zs k ++ zer (192 - k * 3)).length = 192) := by unfold Hid; rw [List.length_append, tb_len]; simp [zer]; omega
      have t0 := arr_cell (tb := tb SP zs k ++ zer (192 - k * 3)) HT.out (k * 3) (by rw [HTL.out]; omega)
      have t1 := arr_cell (tb := tb SP zs k ++ zer (192 - k * 3)) HT.out (k * 3 + 1) (by rw [HTL.out]; omega)
      have t2 := arr_cell (tb := tb SP zs k ++ zer (192 - k * 3)) HT.out (k * 3 + 2) (by rw [HTL.out]; omega)
      have f0 := frozen_of_row wr _ (k * 3) _ _ HT.out
      have f1 := frozen_of_row wr _ (k * 3 + 1) _ _ HT.out
      have f2 := frozen_of_row wr _ (k * 3 + 2) _ _ HT.out
      generalize (tb SP zs k ++ zer (192 - k * 3)).getD (k * 3) 0 = y0 at *
      generalize (tb SP zs k ++ zer (192 - k * 3)).getD (k * 3 + 1) 0 = y1 at *
      generalize (tb SP zs k ++ zer (192 - k * 3)).getD (k * 3 + 2) 0 = y2 at *
      have HWB : Hid (bl X + wd X = 7) := wd_bl X (by have := HX12.out; omega) HX12.out.1
      have HPK : Hid (_ ∧ _ ∧ _ ∧ _ ∧ _ ∧ _ ∧ _ ∧ _ ∧ _) := ⟨HT.out, HNX.out, HTL.out, HS.out, HXE.out, HWB.out, HSPE.out, HL.out, HG.out⟩
      clear HTL HXE HNX HT HS HWB HSL HL HSPE HG HB4 HT4 HN4 HE HES HCZ HB HSY HN
      go_wp2_with fail
      refine (len_any X _ (by have := HX12.out; omega)).mono ?_
      rintro e wq ⟨rfl, rfl⟩
      obtain ⟨hB1, hB7⟩ : 1 ≤ (bl X : Int) ∧ (bl X : Int) ≤ 7 := by
        have h1 := HPK.out.2.2.2.2.2.1
        have hBw := (wd_rng HX12.out.1 HX12.out.2).1
        omega
      generalize hBX : (bl X : Int) = B at *
      have HBX : Hid ((bl X : Int) = B ∧ True) := ⟨hBX, trivial⟩
      clear hBX
      go_wp2
      go_roundw
      case rel =>
        obtain ⟨pT, pN, pL, pS, pX, pW, pE, pl, pG⟩ := HPK.out
        have hW7 : (7 - B).toNat = wd X := by have := HBX.out.1; omega
        have hwr := wd_rng HX12.out.1 HX12.out.2
        have hv1 : (7 - B) = ((wd X : Nat) : Int) := by have := HBX.out.1; omega
        have hv2 : wrap64 (wrap64 ((X : Int) * 2 ^ (7 - B).toNat) - 64) = ((X * 2 ^ wd X : Nat) : Int) - 64 := by
          rw [hW7, shl_in X (wd X) HX12.out.2 hwr.1]
          exact IntWalk.wrap64_in _ (by omega)
        rw [hv2, hv1]
        refine ⟨k + 1, by omega, by go_num, ?_, ?_, ?_⟩
        · have h0 := (Below.heap_setCell wr ⟨G + 1, s, none⟩ (.int .i64 ((X : Int) + 1)) G (by simp)).trans pT
          have h3 := tabset (k * 3 + 2) (((X * 2 ^ wd X : Nat) : Int) - 64) (tabset (k * 3 + 1) ((wd X : Nat) : Int) (tabset (k * 3) (s : Int) h0))
          have hset := tb_set SP zs k (by omega : k < 64)
          rw [pS, Int.toNat_natCast, pX, Int.toNat_natCast] at hset
          rw [hset] at h3
          exact h3
        · have h0 := tabset s ((X : Int) + 1) pN
          have hsl : s < (nx SP zs k).length := by
            have := nx_len SP zs k
            rw [this, pl]
            exact HSL2.out.1
          rw [List.set_append_left _ _ hsl, show (nx SP zs k).set s ((X : Int) + 1) = nx SP zs (k + 1) from by rw [nx, pS, Int.toNat_natCast, pX]] at h0
          exact (Below.heap_setCell _ _ _ _ (by simp)).trans ((Below.heap_setCell _ _ _ _ (by simp)).trans ((Below.heap_setCell _ _ _ _ (by simp)).trans h0))
        · exact (((HBL.out.setCell (by simp) _).setCell (by simp) _).setCell (by simp) _).setCell (by simp) _
      case measure => simp [intOf]; omega
    · have HK : Hid (k = 64 ∧ True) := ⟨by omega, trivial⟩
      have HFI : Hid (wr.heap[G]? = some (.cells (cel (tb SP zs k)) 179 (0, 0)) ∧ Below G w wr) := by
        refine ⟨?_, hbel⟩
        rw [ht, show 192 - k * 3 = 0 from by omega, show zer 0 = [] from rfl, List.append_nil]
      have HPK : Hid (_ ∧ _) := ⟨HSPE.out, HG.out⟩
      clear ht hnx hbel HSL HL HSPE HG HB4 HT4 HN4 HE HES HCZ HB HSY HN
      go_wp2
      go_ret
      refine ⟨G, rfl, by rw [HPK.out.2]; exact Nat.le_refl _, ?_, by rw [HPK.out.2]; exact HFI.out.2⟩
      rw [HPK.out.1, ← HK.out.1]
      exact HFI.out.1
end Go.Proofs.YtfeokafkhnbdiaaGreatDoor
