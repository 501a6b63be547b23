/-
  What writing marks into a row of bytes does, and that they are found again.
-/
import Derived.BigQuiet
import Derived.Test.YtajhdgnchpbanaaGreatDoorEnR
import Derived.Test.YtajhdgnchpbanaaGreatDoorIBase
namespace Go.Proofs.YtajhdgnchpbanaaGreatDoor
open Go.RowKit
set_option linter.unusedVariables false
set_option linter.unusedSimpArgs false

/-- The blob of a mode, whether or not it may be. -/
def pkV (k : Nat) (ys : List Int) : List Int := if k = 0 then 0 :: ys else if k = 1 then [1, ys.getD 0 0] else (k : Int) :: sqB k ys
theorem pkO_V {ys : List Int} (hn : ys.length = 64) {k : Nat} (hk : k ≤ 3) (h1 : k = 1 → alikeB ys = true) : pkO (k : Int) ys = some (pkV k ys) := by
  unfold pkO pkV
  rw [if_neg (by simpa using hn)]
  match k, hk with
  | 0, _ => rfl
  | 1, _ => simp [h1 rfl]
  | 2, _ => rfl
  | 3, _ => rfl

set_option maxHeartbeats 1600000 in
theorem l5alike_any (a : Option Addr) (c : Nat) (ys : List Int) (w : World) (hb : Byt w a ys) (hn : ys.length = 64) :
    Calls Tryz.prog 14 #[.slice a 64 c] w fun e w' => e = .returned (.bool (alikeB ys)) ∧ Below w.heap.size w w' := by
  obtain ⟨b, o, rfl, hbl, hc0⟩ := hb.2 (by omega)
  have HC : Hid (∀ i, i < 64 → w.cell? ⟨b, o + i, none⟩ = some (.int .u8 (ys.getD i 0))) := fun i hi => hc0 i (by omega)
  have HT : Hid ((∀ j, j < 64 → ys.getD j 0 = ys.getD 0 0) → alikeB ys = true) := fun h => by
    simp only [alikeB, decide_eq_true_eq]
    intro z hz
    obtain ⟨j, hj, rfl⟩ := List.getElem_of_mem hz
    have := h j (by omega)
    rw [List.getD_eq_getElem?_getD, List.getElem?_eq_getElem hj] at this
    exact this
  have HF : Hid (∀ j, j < 64 → ys.getD j 0 ≠ ys.getD 0 0 → alikeB ys = false) := fun j hj h => by
    simp only [alikeB, decide_eq_false_iff_not]
    exact fun h2 => h (h2 _ (getD_mem (by omega)))
  have c00 := HC.out 0 (by omega)
  rw [Nat.add_zero] at c00
  clear hc0 hb
  generalize hy0 : ys.getD 0 0 = y0 at *
  have HY0 : Hid (ys.getD 0 0 = y0 ∧ True) := ⟨hy0, trivial⟩
  clear hy0
  go_enter Tryz.func14, Tryz.ntmps14
  go_wp2
  go_loopw [3] (fun i wr => ∃ k m : Nat, 1 ≤ k ∧ k ≤ 64 ∧ i = .int .i64 k ∧ (∀ j, j < k → ys.getD j 0 = y0) ∧ wr = w.drewN m) (fun i _ => 64 - (intOf i).toNat)
  case atStart => exact ⟨1, 0, Nat.le_refl _, by omega, rfl, fun j hj => by rw [show j = 0 by omega]; exact HY0.out.1, rfl⟩
  case round =>
    obtain ⟨k, m, hk1, hk, rfl, hal, rfl⟩ := hrel
    have HA : Hid (∀ j, j < k → ys.getD j 0 = y0) := hal
    have HBD : Hid (∀ q, Below w.heap.size w (w.drewN q)) := fun q => ⟨rfl, rfl, rfl, Nat.le_refl _, fun _ _ => rfl⟩
    clear hal
    by_cases hlt : k < 64
    · have hc := HC.out k hlt
      obtain ⟨z, hz⟩ : ∃ z, ys.getD k 0 = z := ⟨_, rfl⟩
      have HZ : Hid (ys.getD k 0 = z ∧ True) := ⟨hz, trivial⟩
      rw [hz] at hc
      clear hz
      by_cases he : z = y0
      · subst he
        have hd : (z != z) = false := by simp
        have HN : Hid (∀ j, j < k + 1 → ys.getD j 0 = z) := fun j hj => by
          rcases Nat.lt_or_ge j k with h | h
          · exact HA.out j h
          · rw [show j = k by omega]; exact HZ.out.1
        go_wp2
        go_quiet (fail)
        go_wp2
        go_roundw
        case rel => exact ⟨k + 1, _, by omega, by omega, by go_num, HN.out, rfl⟩
        case measure => simp [intOf]; omega
      · have hd : (z != y0) = true := by simpa using he
        have HE : Hid (alikeB ys = false) := HF.out k hlt (by rw [HZ.out.1]; exact he)
        go_wp2
        go_quiet (fail)
        go_wp2
        go_ret
        exact ⟨by rw [HE.out]; rfl, ⟨rfl, rfl, rfl, Nat.le_refl _, fun _ _ => rfl⟩⟩
    · have hkn : k = 64 := by omega
      subst hkn
      have HE : Hid (alikeB ys = true) := HT.out HA.out
      go_wp2
      go_ret
      exact ⟨by rw [HE.out]; rfl, HBD.out _⟩
/-- What the model hands back. -/
def pkS (w w' : World) (bs : List Int) (e : Ending) : Prop := (∃ a' c', e = .returned (.slice a' bs.length c') ∧ Mine w' w.heap.size w'.heap.size a' c' bs) ∧ Below w.heap.size w w'
theorem mine_two (w : World) (z : Int) (hz : 0 ≤ z ∧ z ≤ 255) : Mine (w.alloc (.cells #[.int .u8 1, .int .u8 z] 5)) w.heap.size (w.alloc (.cells #[.int .u8 1, .int .u8 z] 5)).heap.size (some ⟨w.heap.size, 0, none⟩) 2 [1, z] := by
  have ho : OVB (w.alloc (.cells #[.int .u8 1, .int .u8 z] 5)) w.heap.size (.slice (some ⟨w.heap.size, 0, none⟩) 2 2) [1, z] :=
    ⟨⟨rfl, .inr ⟨w.heap.size, 2, #[.int .u8 1, .int .u8 z], rfl, Nat.le_refl _, heap_alloc_new w _, by simp, by unfold maxLen; omega, rfl, rfl⟩⟩, by intro y hy; simp at hy; rcases hy with rfl | rfl <;> omega⟩
  obtain ⟨a', c', e, hm⟩ := ho.mine
  obtain ⟨rfl, rfl⟩ : some ⟨w.heap.size, 0, none⟩ = a' ∧ 2 = c' := by simpa using e
  exact hm

set_option maxRecDepth 20000 in
set_option maxHeartbeats 8000000 in
theorem l5packed_any (k : Nat) (a : Option Addr) (c : Nat) (ys : List Int) (w : World) (hb : Byt w a ys) (hn : ys.length = 64) (hk : k ≤ 3) :
    Calls Tryz.prog 13 #[.slice a 64 c, .int .i64 (k : Nat)] w fun e w' => pkS w w' (pkV k ys) e := by
  have HL : Hid (ys.length = 64 ∧ Byt w a ys) := ⟨hn, hb⟩
  match k, hk with
  | 0, _ =>
    have HOV := ovb_one w w.heap.size 0 (Nat.le_refl _) (by omega)
    have HWA : Hid (Below w.heap.size w (w.alloc (.cells #[.int .u8 0] 5))) := (Below.refl _ _).alloc (Nat.le_refl _) _
    have HBY := HL.out.2.below HWA.out (Nat.le_refl _)
    clear hb
    go_enter Tryz.func13, Tryz.ntmps13
    go_wp2_with (at_builtin; (refine wpList_append_byt rfl (.tmp 8) (.tmp 9) rfl w.heap.size _ [0] rfl HOV a c ys (by rw [HL.out.1]; rfl) HBY (by rw [HL.out.1]; decide) (by simp) ?_); intro v4 w4 hown hgrow)
    have hF := grown_pk HWA.out (Nat.le_refl _) hown hgrow
    obtain ⟨⟨a4, c4, rfl, hm4⟩, hb4⟩ := hF
    have HF : Hid (Mine w4 w.heap.size w4.heap.size a4 c4 (0 :: ys) ∧ Below w.heap.size w w4) := ⟨hm4, hb4⟩
    clear hown hgrow hm4 hb4 HOV HBY
    go_wp2
    go_ret
    exact ⟨⟨a4, c4, rfl, HF.out.1⟩, HF.out.2⟩
  | 1, _ =>
    obtain ⟨b, o, rfl, hbl, hc0⟩ := hb.2 (by omega)
    have c0 := hc0 0 (by omega)
    rw [Nat.add_zero] at c0
    have hz := hb.1 _ (getD_mem (zs := ys) (k := 0) (by omega))
    have HM := mine_two w (ys.getD 0 0) hz
    have HF : Hid (Mine (w.alloc (.cells #[.int .u8 1, .int .u8 (ys.getD 0 0)] 5)) w.heap.size (w.alloc (.cells #[.int .u8 1, .int .u8 (ys.getD 0 0)] 5)).heap.size (some ⟨w.heap.size, 0, none⟩) 2 [1, ys.getD 0 0] ∧ Below w.heap.size w (w.alloc (.cells #[.int .u8 1, .int .u8 (ys.getD 0 0)] 5))) := ⟨HM, (Below.refl _ _).alloc (Nat.le_refl _) _⟩
    clear HM hc0 hb
    have HP : Hid (pkV 1 ys = [1, ys.getD 0 0] ∧ True) := ⟨rfl, trivial⟩
    generalize ys.getD 0 0 = z at *
    rw [HP.out.1]
    go_enter Tryz.func13, Tryz.ntmps13
    go_wp2
    go_ret
    exact ⟨⟨_, _, rfl, HF.out.1⟩, HF.out.2⟩
  | 2, _ =>
    have HQ := l5squeeze_any 2 a c ys w hb hn (.inl rfl)
    clear hb
    go_enter Tryz.func13, Tryz.ntmps13
    go_wp2_with fail
    refine HQ.mono ?_
    clear HQ
    rintro e w1 ⟨⟨a1, c1, rfl, hm1⟩, hb1⟩
    have HF : Hid (Mine w1 w.heap.size w1.heap.size a1 c1 (((2 : Nat) : Int) :: sqB 2 ys) ∧ Below w.heap.size w w1) := ⟨hm1, hb1⟩
    clear hm1 hb1
    go_wp2
    go_ret
    exact ⟨⟨a1, c1, rfl, HF.out.1⟩, HF.out.2⟩
  | 3, _ =>
    have HQ := l5squeeze_any 3 a c ys w hb hn (.inr rfl)
    clear hb
    go_enter Tryz.func13, Tryz.ntmps13
    go_wp2_with fail
    refine HQ.mono ?_
    clear HQ
    rintro e w1 ⟨⟨a1, c1, rfl, hm1⟩, hb1⟩
    have HF : Hid (Mine w1 w.heap.size w1.heap.size a1 c1 (((3 : Nat) : Int) :: sqB 3 ys) ∧ Below w.heap.size w w1) := ⟨hm1, hb1⟩
    clear hm1 hb1
    go_wp2
    go_ret
    exact ⟨⟨a1, c1, rfl, HF.out.1⟩, HF.out.2⟩

theorem l5block_any (a : Option Addr) (n c : Nat) (w : World) :
    Calls Tryz.prog 10 #[.slice a n c] w fun e w' => e = .returned (.bool (decide (n = 64))) ∧ w' = w := by
  by_cases h : n = 64
  · subst h
    go_enter Tryz.func10, Tryz.ntmps10
    go_wp2
    go_ret
    exact ⟨rfl, rfl⟩
  · have hd : decide (n = 64) = false := decide_eq_false h
    have hi : ((n : Int) == 64) = false := by simp; omega
    rw [hd]
    go_enter Tryz.func10, Tryz.ntmps10
    go_wp2
    go_ret
    exact ⟨rfl, rfl⟩
set_option maxRecDepth 20000 in
set_option maxHeartbeats 8000000 in
theorem l5encode_abs (K P : Nat → List Int) (al : Bool) (a : Option Addr) (c : Nat) (w : World) (h0 : K 0 = P 0) (h1 : K 1 = if al = true then (if (P 1).length < (K 0).length then P 1 else K 0) else K 0) (h2 : ∀ k, 1 ≤ k → k < 3 → K (k + 1) = if (P (k + 1)).length < (K k).length then P (k + 1) else K k) (hKl : ∀ k, (K k).length ≤ 65) (hPl : ∀ k, k ≤ 3 → (P k).length ≤ 601)
    (hP : ∀ (k : Nat) (W : World), k ≤ 3 → Below w.heap.size w W → Calls Tryz.prog 13 #[.slice a 64 c, .int .i64 (k : Nat)] W fun e w' => pkS W w' (P k) e)
    (hA : ∀ W, Below w.heap.size w W → Calls Tryz.prog 14 #[.slice a 64 c] W fun e w' => e = .returned (.bool al) ∧ Below W.heap.size W w') :
    Calls Tryz.prog 11 #[.slice a 64 c] w fun e w' => pkS w w' (K 3) e := by
  have HP : Hid (∀ (k : Nat) (W : World), k ≤ 3 → Below w.heap.size w W → Calls Tryz.prog 13 #[.slice a 64 c, .int .i64 (k : Nat)] W fun e w' => pkS W w' (P k) e) := hP
  have HAL : Hid (∀ W, Below w.heap.size w W → Calls Tryz.prog 14 #[.slice a 64 c] W fun e w' => e = .returned (.bool al) ∧ Below W.heap.size W w') := hA
  have HK : Hid ((K 1 = if al = true then (if (P 1).length < (K 0).length then P 1 else K 0) else K 0) ∧ (∀ k, 1 ≤ k → k < 3 → K (k + 1) = if (P (k + 1)).length < (K k).length then P (k + 1) else K k) ∧ (∀ k, (K k).length ≤ 65) ∧ (∀ k, k ≤ 3 → (P k).length ≤ 601)) := ⟨h1, h2, hKl, hPl⟩
  have hP0 : Calls Tryz.prog 13 #[.slice a 64 c, .int .i64 0] w fun e w' => pkS w w' (P 0) e := hP 0 w (by omega) (Below.refl _ _)
  rw [← h0] at hP0
  clear hP hA h0 h1 h2 hKl hPl
  go_enter Tryz.func11, Tryz.ntmps11
  go_wp2_with fail
  refine hP0.mono ?_
  clear hP0
  rintro e w1 ⟨⟨a1, c1, rfl, hm1⟩, hb1⟩
  have H1 : Hid (Mine w1 w.heap.size w1.heap.size a1 c1 (K 0) ∧ Below w.heap.size w w1) := ⟨hm1, hb1⟩
  clear hm1 hb1
  go_wp2
  go_loopw [3, 4] (fun bv mv W => ∃ (k : Nat) (a' : Option Addr) (c' : Nat), k ≤ 3 ∧ mv = .int .i64 ((k + 1 : Nat) : Int) ∧ bv = .slice a' (K k).length c' ∧ Mine W w.heap.size W.heap.size a' c' (K k) ∧ Below w.heap.size w W) (fun _ mv _ => 4 - (intOf mv).toNat)
  case atStart => exact ⟨0, a1, c1, by omega, rfl, rfl, H1.out⟩
  case round =>
    clear H1
    obtain ⟨k, a', c', hk, rfl, rfl, hm, hbel⟩ := hrel
    have HR : Hid (Mine wr w.heap.size wr.heap.size a' c' (K k) ∧ Below w.heap.size w wr) := ⟨hm, hbel⟩
    have hlen := HK.out.2.2.1 k
    clear hm hbel
    by_cases hk0 : k = 0
    · subst hk0
      have hA := HAL.out wr HR.out.2
      cases al with
      | false =>
        have HEQ : Hid (K 1 = K 0 ∧ True) := ⟨by rw [HK.out.1]; rfl, trivial⟩
        go_wp2_with fail
        refine hA.mono ?_
        clear hA
        rintro e w2 ⟨rfl, hb2⟩
        have HR2 : Hid (Mine w2 w.heap.size w2.heap.size a' c' (K 1) ∧ Below w.heap.size w w2 ∧ (K 1).length = (K 0).length) := by
          unfold Hid
          rw [HEQ.out.1]
          exact ⟨(HR.out.1.below hb2).mono (Nat.le_refl _) hb2.size, HR.out.2.trans (hb2.mono HR.out.2.size), rfl⟩
        clear hb2 HR
        go_wp2
        go_roundw
        case rel => exact ⟨1, a', c', by omega, by go_num, by rw [HR2.out.2.2], HR2.out.1, HR2.out.2.1⟩
        case measure => simp [intOf]
      | true =>
        have hpl := HK.out.2.2.2 1 (by omega)
        have HE : K 1 = if (P 1).length < (K 0).length then P 1 else K 0 := by rw [HK.out.1, if_pos rfl]
        go_wp2_with fail
        refine hA.mono ?_
        clear hA
        rintro e w2 ⟨rfl, hb2⟩
        have HB2 : Hid (Below wr.heap.size wr w2 ∧ Below w.heap.size w w2) := ⟨hb2, HR.out.2.trans (hb2.mono HR.out.2.size)⟩
        have hP1 : Calls Tryz.prog 13 #[.slice a 64 c, .int .i64 1] w2 fun e w' => pkS w2 w' (P 1) e := HP.out 1 w2 (by omega) HB2.out.2
        clear hb2
        go_wp2_with fail
        refine hP1.mono ?_
        clear hP1
        rintro e w3 ⟨⟨a3, c3, rfl, hm3⟩, hb3⟩
        have HB3 : Hid (Mine w3 w.heap.size w3.heap.size a3 c3 (P 1) ∧ Mine w3 w.heap.size w3.heap.size a' c' (K 0) ∧ Below w.heap.size w w3) := ⟨hm3.mono HB2.out.2.size (Nat.le_refl _), (((HR.out.1.below HB2.out.1).below hb3).mono (Nat.le_refl _) (Nat.le_trans HB2.out.1.size hb3.size)), HB2.out.2.trans (hb3.mono HB2.out.2.size)⟩
        clear hm3 hb3 HB2 HR
        by_cases hl : (P 1).length < (K 0).length
        · rw [if_pos hl] at HE
          have HEQ : Hid (K 1 = P 1 ∧ True) := ⟨HE, trivial⟩
          have hd : ((P 1).length : Int) < ((K 0).length : Int) := by omega
          clear HE
          go_wp2
          go_roundw
          case rel => exact ⟨1, a3, c3, by omega, by go_num, by rw [HEQ.out.1], by rw [HEQ.out.1]; exact HB3.out.1, HB3.out.2.2⟩
          case measure => simp [intOf]
        · rw [if_neg hl] at HE
          have HEQ : Hid (K 1 = K 0 ∧ True) := ⟨HE, trivial⟩
          have hd : ¬ ((P 1).length : Int) < ((K 0).length : Int) := by omega
          clear HE
          go_wp2
          go_roundw
          case rel => exact ⟨1, a', c', by omega, by go_num, by rw [HEQ.out.1], by rw [HEQ.out.1]; exact HB3.out.2.1, HB3.out.2.2⟩
          case measure => simp [intOf]
    · by_cases hlt : k < 3
      · have hlt3 : (k : Int) + 1 ≤ 3 := by omega
        have hne : ¬ (k : Int) + 1 = 1 := by omega
        have hne2 : ((k : Int) + 1 == 1) = false := by simp; omega
        have hpl := HK.out.2.2.2 (k + 1) (by omega)
        have HE := HK.out.2.1 k (by omega) hlt
        have hP1 := HP.out (k + 1) wr (by omega) HR.out.2
        go_wp2_with fail
        refine hP1.mono ?_
        clear hP1
        rintro e w3 ⟨⟨a3, c3, rfl, hm3⟩, hb3⟩
        have HB3 : Hid (Mine w3 w.heap.size w3.heap.size a3 c3 (P (k + 1)) ∧ Mine w3 w.heap.size w3.heap.size a' c' (K k) ∧ Below w.heap.size w w3) := ⟨hm3.mono HR.out.2.size (Nat.le_refl _), (HR.out.1.below hb3).mono (Nat.le_refl _) hb3.size, HR.out.2.trans (hb3.mono HR.out.2.size)⟩
        clear hm3 hb3 HR
        by_cases hl : (P (k + 1)).length < (K k).length
        · rw [if_pos hl] at HE
          have HEQ : Hid (K (k + 1) = P (k + 1) ∧ True) := ⟨HE, trivial⟩
          have hd : ((P (k + 1)).length : Int) < ((K k).length : Int) := by omega
          clear HE
          go_wp2
          go_roundw
          case rel => exact ⟨k + 1, a3, c3, by omega, by go_num, by rw [HEQ.out.1], by rw [HEQ.out.1]; exact HB3.out.1, HB3.out.2.2⟩
          case measure => simp [intOf]; omega
        · rw [if_neg hl] at HE
          have HEQ : Hid (K (k + 1) = K k ∧ True) := ⟨HE, trivial⟩
          have hd : ¬ ((P (k + 1)).length : Int) < ((K k).length : Int) := by omega
          clear HE
          go_wp2
          go_roundw
          case rel => exact ⟨k + 1, a', c', by omega, by go_num, by rw [HEQ.out.1], by rw [HEQ.out.1]; exact HB3.out.2.1, HB3.out.2.2⟩
          case measure => simp [intOf]; omega
      · have hk3 : k = 3 := by omega
        subst hk3
        go_wp2
        go_ret
        exact ⟨⟨a', c', rfl, HR.out.1⟩, HR.out.2⟩
theorem pkV_len {ys : List Int} (hn : ys.length = 64) (hr : ∀ z ∈ ys, 0 ≤ z ∧ z ≤ 255) (k : Nat) : (pkV k ys).length ≤ 601 := by
  have hs := sqB_len (syF_all hn hr) k
  unfold pkV
  split
  · simp; omega
  · split
    · simp
    · simp; omega
theorem enK_V {ys : List Int} (hn : ys.length = 64) (k : Nat) (hk : k < 3) (h1 : k = 0 → alikeB ys = true) : enK ys (k + 1) = if (pkV (k + 1) ys).length < (enK ys k).length then pkV (k + 1) ys else enK ys k :=
  enK_some (pkO_V hn (k := k + 1) (by omega) (fun h => h1 (by omega)))
theorem enK_one {ys : List Int} (hn : ys.length = 64) : enK ys 1 = if alikeB ys = true then (if (pkV 1 ys).length < (enK ys 0).length then pkV 1 ys else enK ys 0) else enK ys 0 := by
  by_cases h : alikeB ys = true
  · rw [if_pos h]
    exact enK_V hn 0 (by omega) (fun _ => h)
  · rw [if_neg h]
    refine enK_none ?_
    unfold pkO
    rw [if_neg (by simpa using hn), if_neg (by decide), if_pos (by rfl), if_neg h]

set_option maxHeartbeats 1600000 in
theorem specEncode_any (a : Option Addr) (c : Nat) (ys : List Int) (w : World) (hb : Byt w a ys) :
    Calls Tryz.prog 4 #[.slice a ys.length c] w fun e w' => pkA w w' (enO ys) e := by
  have HBL := l5block_any a ys.length c w
  by_cases hn : ys.length = 64
  · have HE := l5encode_abs (enK ys) (fun k => pkV k ys) (alikeB ys) a c w rfl (enK_one hn) (fun k h1 h2 => enK_V hn k h2 (by omega)) (fun k => enK_len hn k) (fun k _ => pkV_len hn hb.1 k) (fun k W hk hW => l5packed_any k a c ys W (hb.below hW (Nat.le_refl _)) hn hk) (fun W hW => l5alike_any a c ys W (hb.below hW (Nat.le_refl _)) hn)
    have HO : Hid (enO ys = some (enK ys 3) ∧ True) := ⟨by unfold enO; rw [if_pos hn], trivial⟩
    rw [HO.out.1]
    rw [decide_eq_true hn, hn] at HBL
    rw [hn]
    clear hb hn
    generalize enK ys 3 = bs at *
    go_enter Tryz.func4, Tryz.ntmps4
    go_wp2_with fail
    refine HBL.mono ?_
    rintro e w1 ⟨rfl, rfl⟩
    go_wp2_with fail
    refine HE.mono ?_
    clear HE
    rintro e w2 ⟨⟨a2, c2, rfl, hm⟩, hb2⟩
    have HF : Hid (Mine w2 w1.heap.size w2.heap.size a2 c2 bs ∧ Below w1.heap.size w1 w2) := ⟨hm, hb2⟩
    clear hm hb2
    go_wp2
    go_ret2
    exact ⟨⟨a2, c2, rfl, HF.out.1⟩, HF.out.2⟩
  · have HO : Hid (enO ys = none) := by unfold Hid enO; rw [if_neg hn]
    rw [decide_eq_false hn] at HBL
    rw [HO.out]
    clear hb hn
    go_enter Tryz.func4, Tryz.ntmps4
    go_wp2_with fail
    refine HBL.mono ?_
    rintro e w1 ⟨rfl, rfl⟩
    go_wp2
    go_ret2
    exact pkA.no (Below.refl _ _)
/-- P is told by the blocks from lo on, ahead of hi, and by what is below them that nobody writes. -/
def Stab (lo hi : Nat) (P : World → Prop) : Prop := ∀ (T : Nat → Prop) (W W' : World), P W → Only T W W' → (∀ k, lo ≤ k → k < hi → ¬ T k) → hi ≤ W.heap.size → P W'
theorem Stab.true (lo hi : Nat) : Stab lo hi (fun _ => True) := fun _ _ _ _ _ _ _ => trivial
theorem Stab.and {lo hi : Nat} {P Q : World → Prop} (h : Stab lo hi P) (k : Stab lo hi Q) : Stab lo hi (fun W => P W ∧ Q W) := fun T W W' hp ho ht hl => ⟨h T W W' hp.1 ho ht hl, k T W W' hp.2 ho ht hl⟩
theorem Stab.cell {lo hi b o : Nat} {v : Value} (h1 : lo ≤ b) (h2 : b < hi) : Stab lo hi (fun W => W.cell? ⟨b, o, none⟩ = some v) := fun T W W' hp ho ht hl => ho.cell (by omega) (ht b h1 h2) hp
theorem Stab.minI {lo hi B U : Nat} {a : Option Addr} {c : Nat} {zs : List Int} (h1 : lo ≤ B) (h2 : U ≤ hi) : Stab lo hi (fun W => MinI W B U a c zs) := fun T W W' hp ho ht hl => hp.only ho (fun k hk1 hk2 => ht k (by omega) (by omega))
theorem Stab.mine {lo hi B U : Nat} {a : Option Addr} {c : Nat} {zs : List Int} (h1 : lo ≤ B) (h2 : U ≤ hi) : Stab lo hi (fun W => Mine W B U a c zs) := fun T W W' hp ho ht hl => hp.only ho (fun k hk1 hk2 => ht k (by omega) (by omega))
theorem Stab.mono {lo hi lo' hi' : Nat} {P : World → Prop} (h : Stab lo hi P) (h1 : lo' ≤ lo) (h2 : hi ≤ hi') : Stab lo' hi' P := fun T W W' hp ho ht hl => h T W W' hp ho (fun k h3 h4 => ht k (by omega) (by omega)) (by omega)
theorem Stab.below {lo hi : Nat} {P : World → Prop} (h : Stab lo hi P) {W W' : World} (hp : P W) (hb : Below W.heap.size W W') (hl : hi ≤ W.heap.size) : P W' := h _ _ _ hp (Only.ofBelow (S := fun _ => False) hb (Nat.le_refl _)) (by simp) hl
/-- Marks from k on. -/
def marks (k : Int) : Nat → List Int
  | 0 => []
  | n + 1 => marks k n ++ [(k + n) % 256]
theorem marks_len (k : Int) (n : Nat) : (marks k n).length = n := by
  induction n with
  | zero => rfl
  | succ n ih => simp [marks, ih]
theorem marks_rng (k : Int) (n : Nat) : ∀ z ∈ marks k n, 0 ≤ z ∧ z ≤ 255 := by
  induction n with
  | zero => intro z hz; cases hz
  | succ n ih =>
    intro z hz
    simp only [marks, List.mem_append, List.mem_singleton] at hz
    rcases hz with hz | rfl
    · exact ih z hz
    · omega
theorem marks_get (k : Int) (n i : Nat) (h : i < n) : (marks k n).getD i 0 = (k + i) % 256 := by
  induction n with
  | zero => omega
  | succ n ih =>
    simp only [marks, List.getD_eq_getElem?_getD, List.getElem?_append, marks_len]
    by_cases hi : i < n
    · rw [if_pos hi, ← List.getD_eq_getElem?_getD]; exact ih hi
    · have : i = n := by omega
      subst this
      simp
theorem marks_step (k : Int) (zs : List Int) (j : Nat) (h : j < zs.length) : (marks k j ++ zs.drop j).set j ((k + j) % 256) = marks k (j + 1) ++ zs.drop (j + 1) := by
  rw [List.set_append_right _ _ (by rw [marks_len]; exact Nat.le_refl _), marks_len, Nat.sub_self, List.drop_eq_getElem_cons h, List.set_cons_zero]
  simp [marks]

theorem wrap_u8_mod (k : Int) : IntKind.u8.wrap k = k % 256 := by simp [IntKind.wrap, IntKind.bits, IntKind.signed]

set_option maxHeartbeats 400000 in
theorem markByteS_own (B g cap : Nat) (zs : List Int) (k : Int) (w : World) (h : Own w B g cap zs) (hn : zs.length ≤ 2097152) (h0 : 0 ≤ k) (h1 : k ≤ 2097152) :
    Calls Tryz.prog 8 #[.slice (some ⟨g, 0, none⟩) zs.length cap, .int .i64 k] w fun e w' => e = .returned (.int .i64 (k + zs.length)) ∧ Own w' B g cap (marks k zs.length) ∧ Only (· = g) w w' := by
  generalize hlen : zs.length = n at *
  have HL : Hid (zs.length = n) := hlen
  clear hlen
  have HO : Hid (Own w B g cap zs) := h
  clear h
  go_enter Tryz.func8, Tryz.ntmps8
  go_wp2
  go_loopw [1, 5] (fun q i wr => ∃ j : Nat, j ≤ n ∧ i = .int .i64 j ∧ q = .int .i64 (k + j) ∧ Own wr B g cap (marks k j ++ zs.drop j) ∧ Only (· = g) w wr) (fun _ i _ => n - (intOf i).toNat)
  case atStart => exact ⟨0, Nat.zero_le _, rfl, by simp, by simpa [marks] using HO.out, Only.refl _ _⟩
  case round =>
    obtain ⟨j, hj, rfl, rfl, hown, honly⟩ := hrel
    by_cases hlt : j < n
    · have hl : (marks k j ++ zs.drop j).length = n := by rw [List.length_append, marks_len, List.length_drop, HL.out]; omega
      have hdst := hown.cell j (by omega)
      have hfz := hown.frozen j
      have R := hown.store j ((k + j) % 256) (by omega)
      rw [marks_step k zs j (by rw [HL.out]; exact hlt)] at R
      have HR : Hid (Own (wr.setCell ⟨g, j, none⟩ (.int .u8 ((k + j) % 256))) B g cap (marks k (j + 1) ++ zs.drop (j + 1))) := R
      have HB : Hid (Only (· = g) w (wr.setCell ⟨g, j, none⟩ (.int .u8 ((k + j) % 256)))) := honly.setCell (.inl rfl) _
      generalize (marks k j ++ zs.drop j).getD j 0 = old at *
      clear R hown honly hl
      go_wp2
      go_roundw
      case rel => exact ⟨j + 1, by omega, by go_num, by go_num, HR.out, HB.out⟩
      case measure => simp [intOf]; omega
    · have hjn : j = n := by omega
      subst hjn
      have hown' := hown
      rw [List.drop_of_length_le (by rw [HL.out]; exact Nat.le_refl _), List.append_nil] at hown'
      have HF : Hid (Own wr B g cap (marks k j)) := hown'
      clear hown hown'
      go_wp2
      go_ret
      exact ⟨rfl, HF.out, honly⟩

theorem markByteS_any (a : Option Addr) (B U cap : Nat) (zs : List Int) (k : Int) (w : World) (h : Mine w B U a cap zs) (hn : zs.length ≤ 2097152) (h0 : 0 ≤ k) (h1 : k ≤ 2097152) :
    Calls Tryz.prog 8 #[.slice a zs.length cap, .int .i64 k] w fun e w' => e = .returned (.int .i64 (k + zs.length)) ∧ Mine w' B U a cap (marks k zs.length) ∧ Only (rowOf a) w w' := by
  rcases h with ⟨rfl, rfl, rfl⟩ | ⟨g, rfl, g1, g2, h⟩
  · go_enter Tryz.func8, Tryz.ntmps8
    go_wp2
    refine wp_loop_rounds 1 ?_
    rw [rounds_succ]
    go_wp2
    go_ret
    exact ⟨by simp, .inl ⟨rfl, rfl, rfl⟩, Only.refl _ _⟩
  · refine (markByteS_own B g cap zs k w h hn h0 h1).mono ?_
    rintro e w' ⟨rfl, ho, hy⟩
    exact ⟨rfl, .inr ⟨g, rfl, g1, g2, ho⟩, hy.mono (fun k _ hk => ⟨_, rfl, hk.symm⟩)⟩
end Go.Proofs.YtajhdgnchpbanaaGreatDoor
