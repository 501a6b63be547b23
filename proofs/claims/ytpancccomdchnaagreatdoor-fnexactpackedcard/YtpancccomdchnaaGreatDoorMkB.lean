/-
  What writing marks into a row of bytes does, and that they are found again.
-/
import Derived.BigQuiet
import Derived.Test.YtpancccomdchnaaGreatDoorEnS
import Derived.Test.YtpancccomdchnaaGreatDoorIBase
namespace Go.Proofs.YtpancccomdchnaaGreatDoor
open Go.RowKit
set_option linter.unusedVariables false
set_option linter.unusedSimpArgs false

/-- The shortest blob of the modes up to k, of alike ones the first. -/
def enK (ys : List Int) : Nat → List Int
  | 0 => 0 :: ys
  | k + 1 => match pkO ((k + 1 : Nat) : Int) ys with
    | some b => if b.length < (enK ys k).length then b else enK ys k
    | none => enK ys k
/-- What Encode answers. -/
def enO (ys : List Int) : Option (List Int) := if ys.length = 64 then some (enK ys 3) else none
theorem enK_none {ys : List Int} {k : Nat} (h : pkO ((k + 1 : Nat) : Int) ys = none) : enK ys (k + 1) = enK ys k := by
  rw [enK, h]
theorem enK_some {ys : List Int} {k : Nat} {b : List Int} (h : pkO ((k + 1 : Nat) : Int) ys = some b) : enK ys (k + 1) = if b.length < (enK ys k).length then b else enK ys k := by
  rw [enK, h]
theorem enK_len {ys : List Int} (hn : ys.length = 64) : ∀ k, (enK ys k).length ≤ 65
  | 0 => by simp [enK]; omega
  | k + 1 => by
    have ih := enK_len hn k
    cases h : pkO ((k + 1 : Nat) : Int) ys with
    | none => rw [enK_none h]; exact ih
    | some b =>
      rw [enK_some h]
      split <;> omega
theorem pkO_len {ys : List Int} {x : Int} {b : List Int} (hr : ∀ z ∈ ys, 0 ≤ z ∧ z ≤ 255) (h : pkO x ys = some b) : b.length ≤ 601 := by
  unfold pkO at h
  split at h
  · cases h
  · rename_i hn
    have hn' : ys.length = 64 := by omega
    have hs := syF_all hn' hr
    have h2 := sqB_len hs 2
    have h3 := sqB_len hs 3
    split at h
    · simp only [Option.some.injEq] at h; subst h; simp; omega
    · split at h
      · split at h
        · simp only [Option.some.injEq] at h; subst h; simp
        · cases h
      · split at h
        · simp only [Option.some.injEq] at h; subst h; simp; omega
        · split at h
          · simp only [Option.some.injEq] at h; subst h; simp; omega
          · cases h

/-- The blob of a mode, whether or not it may be. -/
def pkV (k : Nat) (ys : List Int) : List Int := if k = 0 then 0 :: ys else if k = 1 then [1, ys.getD 0 0] else (k : Int) :: sqB k ys
theorem pkO_V {ys : List Int} (hn : ys.length = 64) {k : Nat} (hk : k ≤ 3) (h1 : k = 1 → alikeB ys = true) : pkO (k : Int) ys = some (pkV k ys) := by
  unfold pkO pkV
  rw [if_neg (by simpa using hn)]
  match k, hk with
  | 0, _ => rfl
  | 1, _ => simp [h1 rfl]
  | 2, _ => rfl
  | 3, _ => rfl

set_option maxHeartbeats 1600000 in
theorem l5alike_any (a : Option Addr) (c : Nat) (ys : List Int) (w : World) (hb : Byt w a ys) (hn : ys.length = 64) :
    Calls Tryz.prog 11 #[.slice a 64 c] w fun e w' => e = .returned (.bool (alikeB ys)) ∧ Below w.heap.size w w' := by
  obtain ⟨b, o, rfl, hbl, hc0⟩ := hb.2 (by omega)
  have HC : Hid (∀ i, i < 64 → w.cell? ⟨b, o + i, none⟩ = some (.int .u8 (ys.getD i 0))) := fun i hi => hc0 i (by omega)
  have HT : Hid ((∀ j, j < 64 → ys.getD j 0 = ys.getD 0 0) → alikeB ys = true) := fun h => by
    simp only [alikeB, decide_eq_true_eq]
    intro z hz
    obtain ⟨j, hj, rfl⟩ := List.getElem_of_mem hz
    have := h j (by omega)
    rw [List.getD_eq_getElem?_getD, List.getElem?_eq_getElem hj] at this
    exact this
  have HF : Hid (∀ j, j < 64 → ys.getD j 0 ≠ ys.getD 0 0 → alikeB ys = false) := fun j hj h => by
    simp only [alikeB, decide_eq_false_iff_not]
    exact fun h2 => h (h2 _ (getD_mem (by omega)))
  have c00 := HC.out 0 (by omega)
  rw [Nat.add_zero] at c00
  clear hc0 hb
  generalize hy0 : ys.getD 0 0 = y0 at *
  have HY0 : Hid (ys.getD 0 0 = y0 ∧ True) := ⟨hy0, trivial⟩
  clear hy0
  go_enter Tryz.func11, Tryz.ntmps11
  go_wp2
  go_loopw [3] (fun i wr => ∃ k m : Nat, 1 ≤ k ∧ k ≤ 64 ∧ i = .int .i64 k ∧ (∀ j, j < k → ys.getD j 0 = y0) ∧ wr = w.drewN m) (fun i _ => 64 - (intOf i).toNat)
  case atStart => exact ⟨1, 0, Nat.le_refl _, by omega, rfl, fun j hj => by rw [show j = 0 by omega]; exact HY0.out.1, rfl⟩
  case round =>
    obtain ⟨k, m, hk1, hk, rfl, hal, rfl⟩ := hrel
    have HA : Hid (∀ j, j < k → ys.getD j 0 = y0) := hal
    have HBD : Hid (∀ q, Below w.heap.size w (w.drewN q)) := fun q => ⟨rfl, rfl, rfl, Nat.le_refl _, fun _ _ => rfl⟩
    clear hal
    by_cases hlt : k < 64
    · have hc := HC.out k hlt
      obtain ⟨z, hz⟩ : ∃ z, ys.getD k 0 = z := ⟨_, rfl⟩
      have HZ : Hid (ys.getD k 0 = z ∧ True) := ⟨hz, trivial⟩
      rw [hz] at hc
      clear hz
      by_cases he : z = y0
      · subst he
        have hd : (z != z) = false := by simp
        have HN : Hid (∀ j, j < k + 1 → ys.getD j 0 = z) := fun j hj => by
          rcases Nat.lt_or_ge j k with h | h
          · exact HA.out j h
          · rw [show j = k by omega]; exact HZ.out.1
        go_wp2
        go_quiet (fail)
        go_wp2
        go_roundw
        case rel => exact ⟨k + 1, _, by omega, by omega, by go_num, HN.out, rfl⟩
        case measure => simp [intOf]; omega
      · have hd : (z != y0) = true := by simpa using he
        have HE : Hid (alikeB ys = false) := HF.out k hlt (by rw [HZ.out.1]; exact he)
        go_wp2
        go_quiet (fail)
        go_wp2
        go_ret
        exact ⟨by rw [HE.out]; rfl, ⟨rfl, rfl, rfl, Nat.le_refl _, fun _ _ => rfl⟩⟩
    · have hkn : k = 64 := by omega
      subst hkn
      have HE : Hid (alikeB ys = true) := HT.out HA.out
      go_wp2
      go_ret
      exact ⟨by rw [HE.out]; rfl, HBD.out _⟩
/-- What the model hands back. -/
def pkS (w w' : World) (bs : List Int) (e : Ending) : Prop := (∃ a' c', e = .returned (.slice a' bs.length c') ∧ Mine w' w.heap.size w'.heap.size a' c' bs) ∧ Below w.heap.size w w'
theorem mine_two (w : World) (z : Int) (hz : 0 ≤ z ∧ z ≤ 255) : Mine (w.alloc (.cells #[.int .u8 1, .int .u8 z] 5)) w.heap.size (w.alloc (.cells #[.int .u8 1, .int .u8 z] 5)).heap.size (some ⟨w.heap.size, 0, none⟩) 2 [1, z] := by
  have ho : OVB (w.alloc (.cells #[.int .u8 1, .int .u8 z] 5)) w.heap.size (.slice (some ⟨w.heap.size, 0, none⟩) 2 2) [1, z] :=
    ⟨⟨rfl, .inr ⟨w.heap.size, 2, #[.int .u8 1, .int .u8 z], rfl, Nat.le_refl _, heap_alloc_new w _, by simp, by unfold maxLen; omega, rfl, rfl⟩⟩, by intro y hy; simp at hy; rcases hy with rfl | rfl <;> omega⟩
  obtain ⟨a', c', e, hm⟩ := ho.mine
  obtain ⟨rfl, rfl⟩ : some ⟨w.heap.size, 0, none⟩ = a' ∧ 2 = c' := by simpa using e
  exact hm

set_option maxRecDepth 20000 in
set_option maxHeartbeats 8000000 in
theorem l5packed_any (k : Nat) (a : Option Addr) (c : Nat) (ys : List Int) (w : World) (hb : Byt w a ys) (hn : ys.length = 64) (hk : k ≤ 3) :
    Calls Tryz.prog 12 #[.slice a 64 c, .int .i64 (k : Nat)] w fun e w' => pkS w w' (pkV k ys) e := by
  have HL : Hid (ys.length = 64 ∧ Byt w a ys) := ⟨hn, hb⟩
  match k, hk with
  | 0, _ =>
    have HOV := ovb_one w w.heap.size 0 (Nat.le_refl _) (by omega)
    have HWA : Hid (Below w.heap.size w (w.alloc (.cells #[.int .u8 0] 5))) := (Below.refl _ _).alloc (Nat.le_refl _) _
    have HBY := HL.out.2.below HWA.out (Nat.le_refl _)
    clear hb
    go_enter Tryz.func12, Tryz.ntmps12
    go_wp2_with (at_builtin; (refine wpList_append_byt rfl (.tmp 8) (.tmp 9) rfl w.heap.size _ [0] rfl HOV a c ys (by rw [HL.out.1]; rfl) HBY (by rw [HL.out.1]; decide) (by simp) ?_); intro v4 w4 hown hgrow)
    have hF := grown_pk HWA.out (Nat.le_refl _) hown hgrow
    obtain ⟨⟨a4, c4, rfl, hm4⟩, hb4⟩ := hF
    have HF : Hid (Mine w4 w.heap.size w4.heap.size a4 c4 (0 :: ys) ∧ Below w.heap.size w w4) := ⟨hm4, hb4⟩
    clear hown hgrow hm4 hb4 HOV HBY
    go_wp2
    go_ret
    exact ⟨⟨a4, c4, rfl, HF.out.1⟩, HF.out.2⟩
  | 1, _ =>
    obtain ⟨b, o, rfl, hbl, hc0⟩ := hb.2 (by omega)
    have c0 := hc0 0 (by omega)
    rw [Nat.add_zero] at c0
    have hz := hb.1 _ (getD_mem (zs := ys) (k := 0) (by omega))
    have HM := mine_two w (ys.getD 0 0) hz
    have HF : Hid (Mine (w.alloc (.cells #[.int .u8 1, .int .u8 (ys.getD 0 0)] 5)) w.heap.size (w.alloc (.cells #[.int .u8 1, .int .u8 (ys.getD 0 0)] 5)).heap.size (some ⟨w.heap.size, 0, none⟩) 2 [1, ys.getD 0 0] ∧ Below w.heap.size w (w.alloc (.cells #[.int .u8 1, .int .u8 (ys.getD 0 0)] 5))) := ⟨HM, (Below.refl _ _).alloc (Nat.le_refl _) _⟩
    clear HM hc0 hb
    have HP : Hid (pkV 1 ys = [1, ys.getD 0 0] ∧ True) := ⟨rfl, trivial⟩
    generalize ys.getD 0 0 = z at *
    rw [HP.out.1]
    go_enter Tryz.func12, Tryz.ntmps12
    go_wp2
    go_ret
    exact ⟨⟨_, _, rfl, HF.out.1⟩, HF.out.2⟩
  | 2, _ =>
    have HQ := l5squeeze_any 2 a c ys w hb hn (.inl rfl)
    clear hb
    go_enter Tryz.func12, Tryz.ntmps12
    go_wp2_with fail
    refine HQ.mono ?_
    clear HQ
    rintro e w1 ⟨⟨a1, c1, rfl, hm1⟩, hb1⟩
    have HF : Hid (Mine w1 w.heap.size w1.heap.size a1 c1 (((2 : Nat) : Int) :: sqB 2 ys) ∧ Below w.heap.size w w1) := ⟨hm1, hb1⟩
    clear hm1 hb1
    go_wp2
    go_ret
    exact ⟨⟨a1, c1, rfl, HF.out.1⟩, HF.out.2⟩
  | 3, _ =>
    have HQ := l5squeeze_any 3 a c ys w hb hn (.inr rfl)
    clear hb
    go_enter Tryz.func12, Tryz.ntmps12
    go_wp2_with fail
    refine HQ.mono ?_
    clear HQ
    rintro e w1 ⟨⟨a1, c1, rfl, hm1⟩, hb1⟩
    have HF : Hid (Mine w1 w.heap.size w1.heap.size a1 c1 (((3 : Nat) : Int) :: sqB 3 ys) ∧ Below w.heap.size w w1) := ⟨hm1, hb1⟩
    clear hm1 hb1
    go_wp2
    go_ret
    exact ⟨⟨a1, c1, rfl, HF.out.1⟩, HF.out.2⟩

theorem l5block_any (a : Option Addr) (n c : Nat) (w : World) :
    Calls Tryz.prog 10 #[.slice a n c] w fun e w' => e = .returned (.bool (decide (n = 64))) ∧ w' = w := by
  by_cases h : n = 64
  · subst h
    go_enter Tryz.func10, Tryz.ntmps10
    go_wp2
    go_ret
    exact ⟨rfl, rfl⟩
  · have hd : decide (n = 64) = false := decide_eq_false h
    have hi : ((n : Int) == 64) = false := by simp; omega
    rw [hd]
    go_enter Tryz.func10, Tryz.ntmps10
    go_wp2
    go_ret
    exact ⟨rfl, rfl⟩
set_option maxRecDepth 20000 in
set_option maxHeartbeats 8000000 in
theorem specPacked_any (a : Option Addr) (c : Nat) (ys : List Int) (x : Int) (w : World) (hb : Byt w a ys) :
    Calls Tryz.prog 4 #[.slice a ys.length c, .int .i64 x] w fun e w' => pkA w w' (pkO x ys) e := by
  have HBL := l5block_any a ys.length c w
  by_cases hn : ys.length = 64
  · have HP : Hid (∀ (k : Nat) (W : World), k ≤ 3 → Below w.heap.size w W → Calls Tryz.prog 12 #[.slice a 64 c, .int .i64 (k : Nat)] W fun e w' => pkS W w' (pkV k ys) e) := fun k W hk hW => l5packed_any k a c ys W (hb.below hW (Nat.le_refl _)) hn hk
    have hA := l5alike_any a c ys w hb hn
    have HN : Hid (ys.length = 64 ∧ True) := ⟨hn, trivial⟩
    rw [decide_eq_true hn, hn] at HBL
    rw [hn]
    clear hb hn
    by_cases hx0 : x < 0
    · have HO : Hid (pkO x ys = none) := by
        unfold Hid pkO
        rw [if_neg (by simpa using HN.out.1), if_neg (by omega), if_neg (by omega), if_neg (by omega), if_neg (by omega)]
      rw [HO.out]
      go_enter Tryz.func4, Tryz.ntmps4
      go_wp2_with fail
      refine HBL.mono ?_
      rintro e w1 ⟨rfl, rfl⟩
      go_wp2
      go_ret2
      exact pkA.no (Below.refl _ _)
    · by_cases hx3 : 3 < x
      · have HO : Hid (pkO x ys = none) := by
          unfold Hid pkO
          rw [if_neg (by simpa using HN.out.1), if_neg (by omega), if_neg (by omega), if_neg (by omega), if_neg (by omega)]
        rw [HO.out]
        go_enter Tryz.func4, Tryz.ntmps4
        go_wp2_with fail
        refine HBL.mono ?_
        rintro e w1 ⟨rfl, rfl⟩
        go_wp2
        go_ret2
        exact pkA.no (Below.refl _ _)
      · obtain ⟨k, rfl⟩ := Int.eq_ofNat_of_zero_le (show 0 ≤ x by omega)
        have hk3 : k ≤ 3 := by omega
        by_cases hk1 : k = 1
        · subst hk1
          cases hal : alikeB ys with
          | false =>
            have HO : Hid (pkO 1 ys = none) := by
              unfold Hid pkO
              rw [if_neg (by simpa using HN.out.1), if_neg (by omega), if_pos rfl, if_neg (by rw [hal]; simp)]
            rw [hal] at hA
            show Calls _ _ _ _ fun e w' => pkA w w' (pkO 1 ys) e
            rw [HO.out]
            go_enter Tryz.func4, Tryz.ntmps4
            go_wp2_with fail
            refine HBL.mono ?_
            rintro e w1 ⟨rfl, rfl⟩
            go_wp2_with fail
            refine hA.mono ?_
            clear hA
            rintro e w2 ⟨rfl, hb2⟩
            have HF : Hid (Below w1.heap.size w1 w2) := hb2
            clear hb2
            go_wp2
            go_ret2
            exact pkA.no HF.out
          | true =>
            have HO : Hid (pkO 1 ys = some (pkV 1 ys)) := pkO_V (k := 1) HN.out.1 (by omega) (fun _ => hal)
            rw [hal] at hA
            show Calls _ _ _ _ fun e w' => pkA w w' (pkO 1 ys) e
            rw [HO.out]
            go_enter Tryz.func4, Tryz.ntmps4
            go_wp2_with fail
            refine HBL.mono ?_
            rintro e w1 ⟨rfl, rfl⟩
            go_wp2_with fail
            refine hA.mono ?_
            clear hA
            rintro e w2 ⟨rfl, hb2⟩
            have HB2 : Hid (Below w1.heap.size w1 w2) := hb2
            have hP1 : Calls Tryz.prog 12 #[.slice a 64 c, .int .i64 1] w2 fun e w' => pkS w2 w' (pkV 1 ys) e := HP.out 1 w2 (by omega) hb2
            clear hb2
            go_wp2_with fail
            refine hP1.mono ?_
            clear hP1
            rintro e w3 ⟨⟨a3, c3, rfl, hm⟩, hb3⟩
            have HF : Hid (Mine w3 w1.heap.size w3.heap.size a3 c3 (pkV 1 ys) ∧ Below w1.heap.size w1 w3) := ⟨hm.mono HB2.out.size (Nat.le_refl _), HB2.out.trans (hb3.mono HB2.out.size)⟩
            clear hm hb3
            go_wp2
            go_ret2
            exact ⟨⟨a3, c3, rfl, HF.out.1⟩, HF.out.2⟩
        · have HO : Hid (pkO (k : Int) ys = some (pkV k ys)) := pkO_V HN.out.1 hk3 (fun h => absurd h hk1)
          rw [HO.out]
          have hk0 : ¬ (k : Int) < 0 := by omega
          have hki : ((k : Int) == 1) = false := by simp; omega
          have hki2 : ¬ (k : Int) = 1 := by omega
          go_enter Tryz.func4, Tryz.ntmps4
          go_wp2_with fail
          refine HBL.mono ?_
          rintro e w1 ⟨rfl, rfl⟩
          have hP1 := HP.out k w1 hk3 (Below.refl _ _)
          go_wp2_with fail
          refine hP1.mono ?_
          clear hP1
          rintro e w3 ⟨⟨a3, c3, rfl, hm⟩, hb3⟩
          have HF : Hid (Mine w3 w1.heap.size w3.heap.size a3 c3 (pkV k ys) ∧ Below w1.heap.size w1 w3) := ⟨hm, hb3⟩
          clear hm hb3
          go_wp2
          go_ret2
          exact ⟨⟨a3, c3, rfl, HF.out.1⟩, HF.out.2⟩
  · have HO : Hid (pkO x ys = none) := by unfold Hid pkO; rw [if_pos hn]
    rw [decide_eq_false hn] at HBL
    rw [HO.out]
    clear hb hn
    go_enter Tryz.func4, Tryz.ntmps4
    go_wp2_with fail
    refine HBL.mono ?_
    rintro e w1 ⟨rfl, rfl⟩
    go_wp2
    go_ret2
    exact pkA.no (Below.refl _ _)
/-- P is told by the blocks from lo on, ahead of hi, and by what is below them that nobody writes. -/
def Stab (lo hi : Nat) (P : World → Prop) : Prop := ∀ (T : Nat → Prop) (W W' : World), P W → Only T W W' → (∀ k, lo ≤ k → k < hi → ¬ T k) → hi ≤ W.heap.size → P W'
theorem Stab.true (lo hi : Nat) : Stab lo hi (fun _ => True) := fun _ _ _ _ _ _ _ => trivial
theorem Stab.and {lo hi : Nat} {P Q : World → Prop} (h : Stab lo hi P) (k : Stab lo hi Q) : Stab lo hi (fun W => P W ∧ Q W) := fun T W W' hp ho ht hl => ⟨h T W W' hp.1 ho ht hl, k T W W' hp.2 ho ht hl⟩
theorem Stab.cell {lo hi b o : Nat} {v : Value} (h1 : lo ≤ b) (h2 : b < hi) : Stab lo hi (fun W => W.cell? ⟨b, o, none⟩ = some v) := fun T W W' hp ho ht hl => ho.cell (by omega) (ht b h1 h2) hp
theorem Stab.minI {lo hi B U : Nat} {a : Option Addr} {c : Nat} {zs : List Int} (h1 : lo ≤ B) (h2 : U ≤ hi) : Stab lo hi (fun W => MinI W B U a c zs) := fun T W W' hp ho ht hl => hp.only ho (fun k hk1 hk2 => ht k (by omega) (by omega))
theorem Stab.mine {lo hi B U : Nat} {a : Option Addr} {c : Nat} {zs : List Int} (h1 : lo ≤ B) (h2 : U ≤ hi) : Stab lo hi (fun W => Mine W B U a c zs) := fun T W W' hp ho ht hl => hp.only ho (fun k hk1 hk2 => ht k (by omega) (by omega))
theorem Stab.mono {lo hi lo' hi' : Nat} {P : World → Prop} (h : Stab lo hi P) (h1 : lo' ≤ lo) (h2 : hi ≤ hi') : Stab lo' hi' P := fun T W W' hp ho ht hl => h T W W' hp ho (fun k h3 h4 => ht k (by omega) (by omega)) (by omega)
theorem Stab.below {lo hi : Nat} {P : World → Prop} (h : Stab lo hi P) {W W' : World} (hp : P W) (hb : Below W.heap.size W W') (hl : hi ≤ W.heap.size) : P W' := h _ _ _ hp (Only.ofBelow (S := fun _ => False) hb (Nat.le_refl _)) (by simp) hl
/-- Marks from k on. -/
def marks (k : Int) : Nat → List Int
  | 0 => []
  | n + 1 => marks k n ++ [(k + n) % 256]
theorem marks_len (k : Int) (n : Nat) : (marks k n).length = n := by
  induction n with
  | zero => rfl
  | succ n ih => simp [marks, ih]
theorem marks_rng (k : Int) (n : Nat) : ∀ z ∈ marks k n, 0 ≤ z ∧ z ≤ 255 := by
  induction n with
  | zero => intro z hz; cases hz
  | succ n ih =>
    intro z hz
    simp only [marks, List.mem_append, List.mem_singleton] at hz
    rcases hz with hz | rfl
    · exact ih z hz
    · omega
theorem marks_get (k : Int) (n i : Nat) (h : i < n) : (marks k n).getD i 0 = (k + i) % 256 := by
  induction n with
  | zero => omega
  | succ n ih =>
    simp only [marks, List.getD_eq_getElem?_getD, List.getElem?_append, marks_len]
    by_cases hi : i < n
    · rw [if_pos hi, ← List.getD_eq_getElem?_getD]; exact ih hi
    · have : i = n := by omega
      subst this
      simp
theorem marks_step (k : Int) (zs : List Int) (j : Nat) (h : j < zs.length) : (marks k j ++ zs.drop j).set j ((k + j) % 256) = marks k (j + 1) ++ zs.drop (j + 1) := by
  rw [List.set_append_right _ _ (by rw [marks_len]; exact Nat.le_refl _), marks_len, Nat.sub_self, List.drop_eq_getElem_cons h, List.set_cons_zero]
  simp [marks]

theorem wrap_u8_mod (k : Int) : IntKind.u8.wrap k = k % 256 := by simp [IntKind.wrap, IntKind.bits, IntKind.signed]

set_option maxHeartbeats 400000 in
theorem markByteS_own (B g cap : Nat) (zs : List Int) (k : Int) (w : World) (h : Own w B g cap zs) (hn : zs.length ≤ 2097152) (h0 : 0 ≤ k) (h1 : k ≤ 2097152) :
    Calls Tryz.prog 8 #[.slice (some ⟨g, 0, none⟩) zs.length cap, .int .i64 k] w fun e w' => e = .returned (.int .i64 (k + zs.length)) ∧ Own w' B g cap (marks k zs.length) ∧ Only (· = g) w w' := by
  generalize hlen : zs.length = n at *
  have HL : Hid (zs.length = n) := hlen
  clear hlen
  have HO : Hid (Own w B g cap zs) := h
  clear h
  go_enter Tryz.func8, Tryz.ntmps8
  go_wp2
  go_loopw [1, 5] (fun q i wr => ∃ j : Nat, j ≤ n ∧ i = .int .i64 j ∧ q = .int .i64 (k + j) ∧ Own wr B g cap (marks k j ++ zs.drop j) ∧ Only (· = g) w wr) (fun _ i _ => n - (intOf i).toNat)
  case atStart => exact ⟨0, Nat.zero_le _, rfl, by simp, by simpa [marks] using HO.out, Only.refl _ _⟩
  case round =>
    obtain ⟨j, hj, rfl, rfl, hown, honly⟩ := hrel
    by_cases hlt : j < n
    · have hl : (marks k j ++ zs.drop j).length = n := by rw [List.length_append, marks_len, List.length_drop, HL.out]; omega
      have hdst := hown.cell j (by omega)
      have hfz := hown.frozen j
      have R := hown.store j ((k + j) % 256) (by omega)
      rw [marks_step k zs j (by rw [HL.out]; exact hlt)] at R
      have HR : Hid (Own (wr.setCell ⟨g, j, none⟩ (.int .u8 ((k + j) % 256))) B g cap (marks k (j + 1) ++ zs.drop (j + 1))) := R
      have HB : Hid (Only (· = g) w (wr.setCell ⟨g, j, none⟩ (.int .u8 ((k + j) % 256)))) := honly.setCell (.inl rfl) _
      generalize (marks k j ++ zs.drop j).getD j 0 = old at *
      clear R hown honly hl
      go_wp2
      go_roundw
      case rel => exact ⟨j + 1, by omega, by go_num, by go_num, HR.out, HB.out⟩
      case measure => simp [intOf]; omega
    · have hjn : j = n := by omega
      subst hjn
      have hown' := hown
      rw [List.drop_of_length_le (by rw [HL.out]; exact Nat.le_refl _), List.append_nil] at hown'
      have HF : Hid (Own wr B g cap (marks k j)) := hown'
      clear hown hown'
      go_wp2
      go_ret
      exact ⟨rfl, HF.out, honly⟩

theorem markByteS_any (a : Option Addr) (B U cap : Nat) (zs : List Int) (k : Int) (w : World) (h : Mine w B U a cap zs) (hn : zs.length ≤ 2097152) (h0 : 0 ≤ k) (h1 : k ≤ 2097152) :
    Calls Tryz.prog 8 #[.slice a zs.length cap, .int .i64 k] w fun e w' => e = .returned (.int .i64 (k + zs.length)) ∧ Mine w' B U a cap (marks k zs.length) ∧ Only (rowOf a) w w' := by
  rcases h with ⟨rfl, rfl, rfl⟩ | ⟨g, rfl, g1, g2, h⟩
  · go_enter Tryz.func8, Tryz.ntmps8
    go_wp2
    refine wp_loop_rounds 1 ?_
    rw [rounds_succ]
    go_wp2
    go_ret
    exact ⟨by simp, .inl ⟨rfl, rfl, rfl⟩, Only.refl _ _⟩
  · refine (markByteS_own B g cap zs k w h hn h0 h1).mono ?_
    rintro e w' ⟨rfl, ho, hy⟩
    exact ⟨rfl, .inr ⟨g, rfl, g1, g2, ho⟩, hy.mono (fun k _ hk => ⟨_, rfl, hk.symm⟩)⟩
end Go.Proofs.YtpancccomdchnaaGreatDoor
