/-
  The model's packs in memory: what each weighs, and the symbols that it has.
-/
import Derived.Test.YtpancccomdchnaaGreatDoorEnQ
import Derived.Test.YtpancccomdchnaaGreatDoorBCut
import Derived.Test.YtpancccomdchnaaGreatDoorPcL
import Derived.Test.YtpancccomdchnaaGreatDoorEnL
import Derived.Maps.AppendAt
import Derived.Test.YtpancccomdchnaaGreatDoorPmA
namespace Go.Proofs.YtpancccomdchnaaGreatDoor
open Go.RowKit
set_option linter.unusedVariables false
set_option linter.unusedSimpArgs false

/-- All letters are the first one. -/
def alikeB (ys : List Int) : Bool := decide (∀ z ∈ ys, z = ys.getD 0 0)
/-- The blob of a mode, where there is one. -/
def pkO (x : Int) (ys : List Int) : Option (List Int) :=
  if ys.length ≠ 64 then none else if x = 0 then some (0 :: ys) else if x = 1 then (if alikeB ys = true then some [1, ys.getD 0 0] else none) else if x = 2 then some (2 :: sqB 2 ys) else if x = 3 then some (3 :: sqB 3 ys) else none
theorem go_mem (ys : List Int) : ∀ (n f q : Nat) (cs : List Ct), (∀ c ∈ cs, ∀ z ∈ c.1, z ∈ ys) → ∀ c ∈ (go ys n f q cs).2, ∀ z ∈ c.1, z ∈ ys
  | 0, f, q, cs, h => h
  | n + 1, f, q, cs, h => by
    simp only [go]
    split
    · split
      · refine go_mem ys n _ _ _ (fun c hc => ?_)
        rcases List.mem_append.1 hc with hc | hc
        · exact h c hc
        · obtain rfl : c = _ := by simpa using hc
          exact fun z hz => cutL_mem hz
      · exact go_mem ys n _ _ _ h
    · exact h
theorem found_mem (ys : List Int) : ∀ c ∈ found ys, ∀ z ∈ c.1, z ∈ ys := by
  intro c hc
  have hg := go_mem ys ys.length 0 0 [] (by simp)
  unfold found fin at hc
  split at hc
  · rcases List.mem_append.1 hc with hc | hc
    · exact hg c hc
    · obtain rfl : c = _ := by simpa using hc
      exact fun z hz => cutL_mem hz
  · exact hg c hc
theorem syF_all {ys : List Int} (hn : ys.length = 64) (hr : ∀ z ∈ ys, 0 ≤ z ∧ z ≤ 255) : SyF ys := by
  have e : ((found ys).map (fun c => (⟨none, 0, c.1, c.2.1, c.2.2⟩ : Sq))).map Sq.ct = found ys := by
    rw [List.map_map]
    exact List.map_id _
  refine (syF_of hn e (fun s hs z hz => ?_)).2
  obtain ⟨c, hc, rfl⟩ := List.mem_map.1 hs
  exact hr z (found_mem ys c hc z hz)
theorem sqB_len {ys : List Int} (h : SyF ys) (mode : Nat) : (sqB mode ys).length ≤ 600 := by
  have := enB_bnd h.ht h.h1 h.h2 h.hm mode (syB ys).2.2
  unfold sqB
  rw [enc_len]
  omega
/-- What is answered: bytes of the call's own and a bool. -/
def pkA (w w' : World) (o : Option (List Int)) (e : Ending) : Prop := (∃ a' c', e = .returned (.tuple #[.slice a' (o.getD []).length c', .bool o.isSome]) ∧ Mine w' w.heap.size w'.heap.size a' c' (o.getD [])) ∧ Below w.heap.size w w'
theorem pkA.no {w w' : World} (h : Below w.heap.size w w') : pkA w w' none (.returned (.tuple #[.slice none 0 0, .bool false])) := ⟨⟨none, 0, rfl, .inl ⟨rfl, rfl, rfl⟩⟩, h⟩
theorem ovb_one (w : World) (B : Nat) (z : Int) (hB : B ≤ w.heap.size) (hz : 0 ≤ z ∧ z ≤ 255) : OVB (w.alloc (.cells #[.int .u8 z] 5)) B (.slice (some ⟨w.heap.size, 0, none⟩) 1 1) [z] :=
  ⟨⟨rfl, .inr ⟨w.heap.size, 1, #[.int .u8 z], rfl, hB, heap_alloc_new w _, by simp, by unfold maxLen; omega, rfl, rfl⟩⟩, by intro y hy; simp at hy; subst hy; exact hz⟩
/-- A row that grew: what is told of the call. -/
theorem grown_pk {w W w' : World} {g : Nat} {v : Value} {bs : List Int} (hb : Below w.heap.size w W) (hg : w.heap.size ≤ g) (hown : OVB w' w.heap.size v bs) (hgr : W.grownBy w' (some g)) : (∃ a' c', v = .slice a' bs.length c' ∧ Mine w' w.heap.size w'.heap.size a' c' bs) ∧ Below w.heap.size w w' := by
  obtain ⟨a', c', e, hm⟩ := hown.mine
  have ho : Only (fun _ => False) w w' := Only.grown (Only.ofBelow hb (Nat.le_refl _)) hgr (fun k hk => .inr (by simp at hk; omega))
  exact ⟨⟨a', c', e, hm⟩, ho.below (Nat.le_refl _) (by simp)⟩

set_option maxHeartbeats 1600000 in
theorem allAlike_any (a : Option Addr) (c : Nat) (ys : List Int) (w : World) (hb : Byt w a ys) (hn : ys.length = 64) :
    Calls Tryz.prog 13 #[.slice a 64 c] w fun e w' => e = .returned (.bool (alikeB ys)) ∧ Below w.heap.size w w' := by
  obtain ⟨b, o, rfl, hbl, hc0⟩ := hb.2 (by omega)
  have HC : Hid (∀ i, i < 64 → w.cell? ⟨b, o + i, none⟩ = some (.int .u8 (ys.getD i 0))) := fun i hi => hc0 i (by omega)
  have HT : Hid ((∀ j, j < 64 → ys.getD j 0 = ys.getD 0 0) → alikeB ys = true) := fun h => by
    simp only [alikeB, decide_eq_true_eq]
    intro z hz
    obtain ⟨j, hj, rfl⟩ := List.getElem_of_mem hz
    have := h j (by omega)
    rw [List.getD_eq_getElem?_getD, List.getElem?_eq_getElem hj] at this
    exact this
  have HF : Hid (∀ j, j < 64 → ys.getD j 0 ≠ ys.getD 0 0 → alikeB ys = false) := fun j hj h => by
    simp only [alikeB, decide_eq_false_iff_not]
    exact fun h2 => h (h2 _ (getD_mem (by omega)))
  have c00 := HC.out 0 (by omega)
  rw [Nat.add_zero] at c00
  clear hc0 hb
  generalize hy0 : ys.getD 0 0 = y0 at *
  go_enter Tryz.func13, Tryz.ntmps13
  go_wp2
  go_loopw [7] (fun i wr => ∃ k m : Nat, k ≤ 64 ∧ i = .int .i64 k ∧ (∀ j, j < k → ys.getD j 0 = y0) ∧ wr = w.drewN m) (fun i _ => 64 - (intOf i).toNat)
  case atStart => exact ⟨0, 0, Nat.zero_le _, rfl, fun j hj => by omega, rfl⟩
  case round =>
    obtain ⟨k, m, hk, rfl, hal, rfl⟩ := hrel
    have HA : Hid (∀ j, j < k → ys.getD j 0 = y0) := hal
    have HBD : Hid (∀ q, Below w.heap.size w (w.drewN q)) := fun q => ⟨rfl, rfl, rfl, Nat.le_refl _, fun _ _ => rfl⟩
    clear hal
    by_cases hlt : k < 64
    · have hc := HC.out k hlt
      obtain ⟨z, hz⟩ : ∃ z, ys.getD k 0 = z := ⟨_, rfl⟩
      have HZ : Hid (ys.getD k 0 = z ∧ True) := ⟨hz, trivial⟩
      rw [hz] at hc
      clear hz
      by_cases he : z = y0
      · subst he
        have hd : (z != z) = false := by simp
        have HN : Hid (∀ j, j < k + 1 → ys.getD j 0 = z) := fun j hj => by
          rcases Nat.lt_or_ge j k with h | h
          · exact HA.out j h
          · rw [show j = k by omega]; exact HZ.out.1
        go_wp2
        go_roundw
        case rel => exact ⟨k + 1, _, by omega, by go_num, HN.out, rfl⟩
        case measure => simp [intOf]; omega
      · have hd : (z != y0) = true := by simpa using he
        have HE : Hid (alikeB ys = false) := HF.out k hlt (by rw [HZ.out.1]; exact he)
        go_wp2
        go_ret
        exact ⟨by rw [HE.out]; rfl, HBD.out _⟩
    · have hkn : k = 64 := by omega
      subst hkn
      have HE : Hid (alikeB ys = true) := HT.out HA.out
      go_wp2
      go_ret
      exact ⟨by rw [HE.out]; rfl, HBD.out _⟩

set_option maxRecDepth 20000 in
set_option maxHeartbeats 8000000 in
theorem implPacked_any (a : Option Addr) (c : Nat) (ys : List Int) (x : Int) (w : World) (hb : Byt w a ys) (hcap : ys.length ≤ c) (hs : SentE w) :
    Calls Tryz.prog 6 #[.slice a ys.length c, .int .i64 x] w fun e w' => pkA w w' (pkO x ys) e := by
  by_cases hn : ys.length = 64
  · have HL : Hid (ys.length = 64 ∧ Byt w a ys) := ⟨hn, hb⟩
    have HAL := allAlike_any a c ys w hb hn
    have hsq : ∀ mode : Nat, mode = 2 ∨ mode = 3 → Calls Tryz.prog 14 #[.int .i64 mode, .slice a 64 c] w fun e w' => (∃ a' cp, e = .returned (.tuple #[.slice a' (sqB mode ys).length cp, .bool true]) ∧ Mine w' w.heap.size w'.heap.size a' cp (sqB mode ys)) ∧ Below w.heap.size w w' := fun mode hm => sealedSymbols_any mode a c ys w hb hn (by omega) hs hm
    have HPK : Hid (pkO x ys = if x = 0 then some (0 :: ys) else if x = 1 then (if alikeB ys = true then some [1, ys.getD 0 0] else none) else if x = 2 then some (2 :: sqB 2 ys) else if x = 3 then some (3 :: sqB 3 ys) else none) := by
      unfold Hid pkO
      rw [if_neg (by simpa using hn)]
    rw [HPK.out]
    rw [hn]
    rw [hn] at hcap
    clear hb hs HPK
    by_cases h0 : x = 0
    · subst h0
      rw [if_pos rfl]
      clear hsq HAL
      have HOV := ovb_one w w.heap.size 0 (Nat.le_refl _) (by omega)
      have HWA : Hid (Below w.heap.size w (w.alloc (.cells #[.int .u8 0] 5))) := (Below.refl _ _).alloc (Nat.le_refl _) _
      have HBY := HL.out.2.below HWA.out (Nat.le_refl _)
      go_enter Tryz.func6, Tryz.ntmps6
      go_wp2_with (at_builtin; (refine wpList_append_byt rfl (.tmp 37) (.tmp 38) rfl w.heap.size _ [0] rfl HOV a c ys (by rw [HL.out.1]; rfl) HBY (by rw [HL.out.1]; decide) (by simp) ?_); intro v4 w4 hown hgrow)
      have hF := grown_pk HWA.out (Nat.le_refl _) hown hgrow
      obtain ⟨⟨a4, c4, rfl, hm4⟩, hb4⟩ := hF
      have HF : Hid (Mine w4 w.heap.size w4.heap.size a4 c4 (0 :: ys) ∧ Below w.heap.size w w4) := ⟨hm4, hb4⟩
      clear hown hgrow hm4 hb4 HOV HBY
      go_wp2
      go_ret2
      exact ⟨⟨a4, c4, rfl, HF.out.1⟩, HF.out.2⟩
    · rw [if_neg h0]
      by_cases h1 : x = 1
      · subst h1
        rw [if_pos rfl]
        clear hsq
        cases hal : alikeB ys with
        | false =>
          rw [hal] at HAL
          rw [if_neg (by simp)]
          go_enter Tryz.func6, Tryz.ntmps6
          go_wp2_with fail
          refine HAL.mono ?_
          clear HAL
          rintro e w1 ⟨rfl, hb1⟩
          have HF : Hid (Below w.heap.size w w1) := hb1
          clear hb1
          go_wp2
          go_ret2
          exact pkA.no HF.out
        | true =>
          rw [hal] at HAL
          rw [if_pos rfl]
          have HT1 : Hid (ys.take 1 = [ys.getD 0 0]) := by
            unfold Hid
            have := HL.out.1
            match ys, this with
            | y :: t, _ => rfl
          go_enter Tryz.func6, Tryz.ntmps6
          go_wp2_with fail
          refine HAL.mono ?_
          clear HAL
          rintro e w1 ⟨rfl, hb1⟩
          have HOV := ovb_one w1 w.heap.size 1 hb1.size (by omega)
          have HWA : Hid (Below w.heap.size w (w1.alloc (.cells #[.int .u8 1] 5))) := hb1.alloc hb1.size _
          have HBY : Byt (w1.alloc (.cells #[.int .u8 1] 5)) a [ys.getD 0 0] := by
            have h9 := HL.out.2.below HWA.out (Nat.le_refl _)
            rw [← HT1.out]
            refine ⟨fun z hz => h9.1 z (List.mem_of_mem_take hz), fun _ => ?_⟩
            obtain ⟨b', o', e', hb', hc'⟩ := h9.2 (by have := HL.out.1; omega)
            refine ⟨b', o', e', hb', fun i hi => ?_⟩
            rw [HT1.out] at hi
            have hi0 : i = 0 := by simpa using hi
            subst hi0
            rw [HT1.out]
            exact hc' 0 (by have := HL.out.1; omega)
          have hg1 := hb1.size
          clear hb1
          go_wp2_with (at_builtin; (refine wpList_append_byt rfl (.tmp 37) (.tmp 38) rfl w.heap.size _ [1] rfl HOV a c [ys.getD 0 0] rfl HBY (by simp) (by simp; omega) ?_); intro v4 w4 hown hgrow)
          have hF := grown_pk HWA.out hg1 hown hgrow
          obtain ⟨⟨a4, c4, rfl, hm4⟩, hb4⟩ := hF
          have HF : Hid (Mine w4 w.heap.size w4.heap.size a4 c4 [1, ys.getD 0 0] ∧ Below w.heap.size w w4) := ⟨hm4, hb4⟩
          clear hown hgrow hm4 hb4 HOV HBY
          go_wp2
          go_ret2
          exact ⟨⟨a4, c4, rfl, HF.out.1⟩, HF.out.2⟩
      · rw [if_neg h1]
        clear HAL
        by_cases h23 : x = 2 ∨ x = 3
        · obtain ⟨md, hmd, hx⟩ : ∃ md : Nat, (md = 2 ∨ md = 3) ∧ x = (md : Int) := by
            rcases h23 with rfl | rfl
            · exact ⟨2, .inl rfl, rfl⟩
            · exact ⟨3, .inr rfl, rfl⟩
          have HV : Hid ((if x = 2 then some (2 :: sqB 2 ys) else if x = 3 then some (3 :: sqB 3 ys) else none) = some ((md : Int) :: sqB md ys)) := by
            unfold Hid
            rcases hmd with rfl | rfl
            · rw [hx]; rfl
            · rw [hx]; rfl
          rw [HV.out]
          have HSQ := hsq md hmd
          have HLQ : Hid ((sqB md ys).length ≤ 600) := sqB_len (syF_all HL.out.1 HL.out.2.1) md
          subst hx
          clear hsq h23 h0 h1 HV
          rcases hmd with rfl | rfl
          · go_enter Tryz.func6, Tryz.ntmps6
            go_wp2_with fail
            refine HSQ.mono ?_
            clear HSQ
            rintro e w1 ⟨⟨a1, c1, rfl, hm1⟩, hb1⟩
            have HOV := ovb_one w1 w.heap.size 2 hb1.size (by omega)
            have HWA : Hid (Below w.heap.size w (w1.alloc (.cells #[.int .u8 2] 5))) := hb1.alloc hb1.size _
            have HBY : Byt (w1.alloc (.cells #[.int .u8 2] 5)) a1 (sqB 2 ys) := hm1.byt.below ((Below.refl _ _).alloc (Nat.le_refl _) _) (Nat.le_refl _)
            have hg1 := hb1.size
            clear hb1 hm1
            have hlq := HLQ.out
            go_wp2_with (at_builtin; (refine wpList_append_byt rfl (.tmp 37) (.tmp 38) rfl w.heap.size _ [2] rfl HOV a1 c1 (sqB 2 ys) rfl HBY (by simp; omega) (by simp; omega) ?_); intro v4 w4 hown hgrow)
            have hF := grown_pk HWA.out hg1 hown hgrow
            obtain ⟨⟨a4, c4, rfl, hm4⟩, hb4⟩ := hF
            have HF : Hid (Mine w4 w.heap.size w4.heap.size a4 c4 (2 :: sqB 2 ys) ∧ Below w.heap.size w w4) := ⟨hm4, hb4⟩
            clear hown hgrow hm4 hb4 HOV HBY
            go_wp2
            go_ret2
            exact ⟨⟨a4, c4, rfl, HF.out.1⟩, HF.out.2⟩
          · go_enter Tryz.func6, Tryz.ntmps6
            go_wp2_with fail
            refine HSQ.mono ?_
            clear HSQ
            rintro e w1 ⟨⟨a1, c1, rfl, hm1⟩, hb1⟩
            have HOV := ovb_one w1 w.heap.size 3 hb1.size (by omega)
            have HWA : Hid (Below w.heap.size w (w1.alloc (.cells #[.int .u8 3] 5))) := hb1.alloc hb1.size _
            have HBY : Byt (w1.alloc (.cells #[.int .u8 3] 5)) a1 (sqB 3 ys) := hm1.byt.below ((Below.refl _ _).alloc (Nat.le_refl _) _) (Nat.le_refl _)
            have hg1 := hb1.size
            clear hb1 hm1
            have hlq := HLQ.out
            go_wp2_with (at_builtin; (refine wpList_append_byt rfl (.tmp 37) (.tmp 38) rfl w.heap.size _ [3] rfl HOV a1 c1 (sqB 3 ys) rfl HBY (by simp; omega) (by simp; omega) ?_); intro v4 w4 hown hgrow)
            have hF := grown_pk HWA.out hg1 hown hgrow
            obtain ⟨⟨a4, c4, rfl, hm4⟩, hb4⟩ := hF
            have HF : Hid (Mine w4 w.heap.size w4.heap.size a4 c4 (3 :: sqB 3 ys) ∧ Below w.heap.size w w4) := ⟨hm4, hb4⟩
            clear hown hgrow hm4 hb4 HOV HBY
            go_wp2
            go_ret2
            exact ⟨⟨a4, c4, rfl, HF.out.1⟩, HF.out.2⟩
        · have h2 : x ≠ 2 := fun h => h23 (.inl h)
          have h3 : x ≠ 3 := fun h => h23 (.inr h)
          rw [if_neg h2, if_neg h3]
          clear hsq h23
          go_enter Tryz.func6, Tryz.ntmps6
          go_wp2
          go_ret2
          exact pkA.no (Below.refl _ _)
  · have HPK : Hid (pkO x ys = none) := by
      unfold Hid pkO
      rw [if_pos hn]
    rw [HPK.out]
    have hni : ((ys.length : Int) != 64) = true := by simp; omega
    go_enter Tryz.func6, Tryz.ntmps6
    go_wp2
    go_ret2
    exact pkA.no (Below.refl _ _)
set_option maxHeartbeats 800000 in
theorem l2counts_any (a : Option Addr) (cap : Nat) (zs : List Int) (n : Nat) (w : World) (hb : Ins w a zs) (ht : txtB zs n = true) :
    Calls Tryz.prog 23 #[.slice a zs.length cap, .int .i64 n] w fun e w' =>
      e = .returned (.slice (some ⟨w.heap.size, 0, none⟩) n n) ∧ OwI w' w.heap.size w.heap.size n (cnts zs n) ∧ Below w.heap.size w w' := by
  obtain ⟨i0, hi, hz0, hz1, hz2⟩ := info_parts Tryz.infoI64
  obtain ⟨hn1, hn2, hn3⟩ := txtB_bnd ht
  have HTX : Hid (txtB zs n = true) := ht
  clear ht
  generalize hlen : zs.length = L at *
  have HL : Hid (zs.length = L) := hlen
  clear hlen
  go_enter Tryz.func23, Tryz.ntmps23
  go_wp2_with (at_make; refine wpList_make_full _ rfl _ _ 35 rfl w.heap.size 3 i0 (.int .i64 0) 1 Tryz.underlying35 hi hz0 hz1 .i64 .i64 _ _ n rfl rfl rfl rfl (by rw [hz2]; omega) (by unfold maxLen; omega) (Nat.le_refl _) ?_; intro w1 hown hgrow)
  have h0 : OwI w1 w.heap.size w.heap.size n (cnts (zs.take 0) n) := by
    have e : cnts (zs.take 0) n = List.replicate n 0 := by simp [cnts]
    rw [e]
    refine ⟨?_, by intro z hz; simp at hz; omega⟩
    rw [made_zeroI] at hown
    simpa using hown
  have hbw : Below w.heap.size w w1 := (Below.refl _ _).grown hgrow (Nat.le_refl _) (by intro k hk; cases hk)
  have H0 : Hid (OwI w1 w.heap.size w.heap.size n (cnts (zs.take 0) n)) := h0
  clear h0 hown hgrow hi hz0 hz1 hz2
  go_loopw [6] (fun i wr => ∃ k : Nat, k ≤ L ∧ i = .int .i64 k ∧ OwI wr w.heap.size w.heap.size n (cnts (zs.take k) n) ∧ Below w.heap.size w wr) (fun i _ => L - (intOf i).toNat)
  case atStart => exact ⟨0, Nat.zero_le _, rfl, H0.out, hbw⟩
  case round =>
    obtain ⟨k, hk, rfl, hown, hbel⟩ := hrel
    have HO : Hid (OwI wr w.heap.size w.heap.size n (cnts (zs.take k) n)) := hown
    clear hown hbw
    by_cases hlt : k < L
    · obtain ⟨b, off, rfl, hbl, hcells⟩ := hb.len_pos k (by rw [HL.out]; exact hlt)
      have hsrc : wr.cell? ⟨b, off + k, none⟩ = some (.int .i64 (zs.getD k 0)) := (hbel.cell (p := ⟨b, off + k, none⟩) hbl).trans (hcells k (by rw [HL.out]; exact hlt))
      have hx := txtB_get HTX.out k (by rw [HL.out]; exact hlt)
      have HST : Hid (bump (cnts (zs.take k) n) (zs.getD k 0) = cnts (zs.take (k + 1)) n) := cnts_take_succ zs n k (by rw [HL.out]; exact hlt)
      generalize hxx : zs.getD k 0 = x at *
      obtain ⟨x, rfl⟩ : ∃ j : Nat, x = j := ⟨x.toNat, by omega⟩
      have hdst := HO.out.cell x (by rw [cnts_len]; omega)
      have hfz := HO.out.frozen x
      have hv : 0 ≤ (cnts (zs.take k) n).getD x 0 ∧ (cnts (zs.take k) n).getD x 0 ≤ 300 := by
        have := cnts_rng (zs.take k) n _ (getD_mem (zs := cnts (zs.take k) n) (k := x) (by rw [cnts_len]; omega))
        have h3 : (zs.take k).length ≤ 300 := by rw [List.length_take, HL.out]; omega
        omega
      have R := HO.out.store x ((cnts (zs.take k) n).getD x 0 + 1) (by omega)
      have e : (cnts (zs.take k) n).set x ((cnts (zs.take k) n).getD x 0 + 1) = cnts (zs.take (k + 1)) n := by rw [← HST.out]; simp [bump]
      rw [e] at R
      generalize (cnts (zs.take k) n).getD x 0 = v at *
      have HR : Hid (OwI (wr.setCell ⟨w.heap.size, x, none⟩ (.int .i64 (v + 1))) w.heap.size w.heap.size n (cnts (zs.take (k + 1)) n)) := R
      have HB : Hid (Below w.heap.size w (wr.setCell ⟨w.heap.size, x, none⟩ (.int .i64 (v + 1)))) := hbel.setCell (p := ⟨w.heap.size, x, none⟩) (Nat.le_refl _) (.int .i64 (v + 1))
      clear R e hcells hb hxx
      go_wp2
      go_roundw
      case rel => exact ⟨k + 1, by omega, by go_num, by simpa using HR.out, by simpa using HB.out⟩
      case measure => simp [intOf]; omega
    · have hkn : k = L := by omega
      subst hkn
      have hall := HO.out
      rw [List.take_of_length_le (by rw [HL.out]; exact Nat.le_refl _)] at hall
      have HA : Hid (OwI wr w.heap.size w.heap.size n (cnts zs n)) := hall
      clear hall
      go_wp2
      go_ret
      exact ⟨rfl, HA.out, hbel⟩

def Pc.sy : Pc → List Int
  | .coin s c => [(s : Int)]
  | .pack a b n => a.sy ++ b.sy
theorem sy_len (p : Pc) : p.sy.length = p.sz := by
  induction p with
  | coin s c => rfl
  | pack a b n iha ihb => simp [Pc.sy, Pc.sz, iha, ihb]
/-- A pack, and where its symbols lie. -/
structure Ek where
  p : Pc
  a : Option Addr
  c : Nat
def dek : Ek := ⟨dpc, none, 0⟩
def Ek.cells (e : Ek) : List Value := [.int .i64 e.p.wt, .slice e.a e.p.sy.length e.c]
theorem ek_flat (es : List Ek) (i : Nat) (hi : i < es.length) (j : Nat) (hj : j < 2) : (es.flatMap Ek.cells)[i * 2 + j]? = ((es.getD i dek).cells)[j]? := by
  induction es generalizing i with
  | nil => simp at hi
  | cons e es ih =>
    cases i with
    | zero =>
      simp only [List.flatMap_cons, Nat.zero_mul, Nat.zero_add]
      rw [List.getElem?_append_left (by simp [Ek.cells]; exact hj)]
      rfl
    | succ i =>
      simp only [List.flatMap_cons]
      rw [List.getElem?_append_right (by simp [Ek.cells]; omega)]
      have h := ih i (by simpa using hi)
      rw [show (i + 1) * 2 + j - e.cells.length = i * 2 + j by simp [Ek.cells]; omega, h]
      rfl
theorem ek_flen (es : List Ek) : (es.flatMap Ek.cells).length = es.length * 2 := by
  induction es with
  | nil => rfl
  | cons e es ih => simp [List.flatMap_cons, ih, Ek.cells]; omega
theorem ek_one (es : List Ek) : ∀ u ∈ es.flatMap Ek.cells, u.oneCell' = true := fun u hu => by
  obtain ⟨e, _, he⟩ := List.mem_flatMap.1 hu
  simp only [Ek.cells, List.mem_cons, List.not_mem_nil, or_false] at he
  rcases he with rfl | rfl <;> rfl
/-- The slice at a has the packs es. -/
def Eks (w : World) (a : Option Addr) (es : List Ek) : Prop :=
  0 < es.length → ∃ b off, a = some ⟨b, off, none⟩ ∧ b < w.heap.size ∧ ∀ i, i < es.length → w.cell? ⟨b, off + i * 2, none⟩ = some (.int .i64 (es.getD i dek).p.wt) ∧ w.cell? ⟨b, off + i * 2 + 1, none⟩ = some (.slice (es.getD i dek).a (es.getD i dek).p.sy.length (es.getD i dek).c)
theorem Eks.below {w w' : World} {a : Option Addr} {es : List Ek} (h : Eks w a es) (hb : Below w.heap.size w w') : Eks w' a es := fun h0 => by
  obtain ⟨b, o, e, hl, hc⟩ := h h0
  exact ⟨b, o, e, Nat.lt_of_lt_of_le hl hb.size, fun i hi => ⟨keep hb hl (hc i hi).1, keep hb hl (hc i hi).2⟩⟩
/-- A slice value (nil, or a row of the call's own from block B on) that has the packs es. -/
def OVk (w : World) (B : Nat) (v : Value) (es : List Ek) : Prop := w.ownsRow B 82 2 v es.length (es.flatMap Ek.cells)
theorem OVk.nil (w : World) (B : Nat) : OVk w B (.slice none 0 0) [] := ⟨rfl, .inl ⟨rfl, rfl⟩⟩
theorem OVk.slice {w : World} {B : Nat} {v : Value} {es : List Ek} (h : OVk w B v es) : ∃ a c, v = .slice a es.length c ∧ Eks w a es ∧ es.length ≤ c ∧ ((a = none ∧ es = [] ∧ c = 0) ∨ ∃ g, a = some ⟨g, 0, none⟩) := by
  rcases h.2 with ⟨rfl, h1⟩ | ⟨g, cap, cur, rfl, hg, hh, h4, h5, h6, h7⟩
  · have : es = [] := List.length_eq_zero_iff.1 h1
    subst this
    exact ⟨none, 0, rfl, fun h => by simp at h, Nat.le_refl _, .inl ⟨rfl, rfl, rfl⟩⟩
  · refine ⟨_, cap, rfl, fun h0 => ⟨g, 0, rfl, (Array.getElem?_eq_some_iff.1 hh).1, fun i hi => ?_⟩, h4, .inr ⟨g, rfl⟩⟩
    have e0 := ek_flat es i hi 0 (by omega)
    have e1 := ek_flat es i hi 1 (by omega)
    have c0 := World.ownsRow.cellAt h (i * 2 + 0) (by omega)
    have c1 := World.ownsRow.cellAt h (i * 2 + 1) (by omega)
    rw [e0] at c0
    rw [e1] at c1
    simp only [Nat.zero_add, Nat.add_zero] at c0 c1 ⊢
    exact ⟨by rw [c0]; rfl, by rw [c1]; rfl⟩
theorem OVk.below {w w' : World} {B : Nat} {v : Value} {es : List Ek} (h : OVk w B v es) (hb : Below w.heap.size w w') : OVk w' B v es := by
  have hg : w.grownBy w' none := ⟨hb.os, hb.tape, hb.output, hb.size, fun k hk _ => hb.block k hk⟩
  exact World.ownsRow.kept h hg (by cases v.ownBlock <;> simp)
theorem OVk.mono {w : World} {B B' : Nat} {v : Value} {es : List Ek} (h : OVk w B v es) (hB : B' ≤ B) : OVk w B' v es := by
  refine ⟨h.1, ?_⟩
  rcases h.2 with h' | ⟨g, cap, cur, h', hg, r⟩
  · exact .inl h'
  · exact .inr ⟨g, cap, cur, h', by omega, r⟩
theorem OVk.onlyS {S : Nat → Prop} {w w' : World} {B : Nat} {v : Value} {es : List Ek} (h : OVk w B v es) (ho : Only S w w') (hs : ∀ k, v.ownBlock = some k → ¬ S k) : OVk w' B v es := by
  refine ⟨h.1, ?_⟩
  rcases h.2 with h' | ⟨g, cap, cur, rfl, hg, hh, r⟩
  · exact .inl h'
  · exact .inr ⟨g, cap, cur, rfl, hg, (ho.block g (Array.getElem?_eq_some_iff.1 hh).1 (hs g rfl)).trans hh, r⟩
theorem OVk.tag {w : World} {B : Nat} {v : Value} {es : List Ek} (h : OVk w B v es) {k : Nat} (hk : v.ownBlock = some k) : ∃ cur, w.heap[k]? = some (.cells cur 82 (0, 0)) := by
  rcases h.2 with ⟨rfl, _⟩ | ⟨g, cap, cur, rfl, hg, hh, r⟩
  · simp [Value.ownBlock] at hk
  · simp [Value.ownBlock] at hk
    subst hk
    exact ⟨cur, hh⟩
theorem Tryz.infoEk : (Tryz.prog.info? 82).map (fun i => (i.zero, i.size, i.bytes)) = some (some (.agg #[.int .i64 0, .slice none 0 0]), 2, 32) := by kernel_rfl
theorem run_append_ek {w : World} {ty : TypeId} {B : Nat} {v : Value} {es fs : List Ek} {a : Option Addr} {c : Nat} (h : OVk w B v es) (hq : Eks w a fs) (hl : es.length + fs.length ≤ 100000) (hB : B ≤ w.heap.size) :
    ∃ v' w', (Builtin.append_ #[80, 80] ty #[v, .slice a fs.length c]).run Tryz.prog w = .ok v' w' ∧ OVk w' B v' (es ++ fs) ∧ w.grownBy w' v.ownBlock ∧ (v'.ownBlock = v.ownBlock ∨ v'.ownBlock = some w.heap.size) := by
  obtain ⟨i0, hi, hz0, hz1, hz2⟩ := info_parts Tryz.infoEk
  have h1 := Tryz.underlying80
  by_cases h0 : fs.length = 0
  · obtain rfl : fs = [] := List.length_eq_zero_iff.1 h0
    refine ⟨v, w, ?_, by simpa using h, ⟨rfl, rfl, rfl, Nat.le_refl _, fun _ _ _ => rfl⟩, .inl rfl⟩
    obtain ⟨a', c', rfl, _, hc, _⟩ := h.slice
    simp [Builtin.append_, run_underlying h1, sizeOf, typeInfo, hi, Builtin.lenOf, Builtin.firstCells, loadCells, loadCellsFrom, hc]
    cases a <;> cases a' <;> simp [Result.andThen, storeCells]
  · obtain ⟨b, off, rfl, hbl, hc⟩ := hq (by omega)
    obtain ⟨v', w', hr, ho, hg, _, hat⟩ := run_append_own_at (P := Tryz.prog) w B 80 ty 82 i0 _ 2 32 h1 hi hz0 hz1 hz2 rfl (by decide) v es.length (es.flatMap Ek.cells) h ⟨b, off, none⟩ fs.length c (fs.flatMap Ek.cells) (ek_flen fs) (by
      intro j u hu
      have hj : j < fs.length * 2 := by rw [← ek_flen fs]; exact (List.getElem?_eq_some_iff.1 hu).1
      have h2 : (⟨b, off, none⟩ : Addr).add j = ⟨b, off + j, none⟩ := by
        cases j with
        | zero => simp [Addr.add]
        | succ j => simp [Addr.add]
      rw [h2]
      have hcj := hc (j / 2) (by omega)
      have hf := ek_flat fs (j / 2) (by omega) (j % 2) (by omega)
      rw [show j / 2 * 2 + j % 2 = j by omega, hu] at hf
      rcases Nat.mod_two_eq_zero_or_one j with hm | hm
      · rw [hm] at hf
        rw [show off + j = off + j / 2 * 2 by omega, hcj.1]
        simpa [Ek.cells] using hf.symm
      · rw [hm] at hf
        rw [show off + j = off + j / 2 * 2 + 1 by omega, hcj.2]
        simpa [Ek.cells] using hf.symm) (ek_one fs) (by unfold maxLen; omega) (by omega) hB
    refine ⟨v', w', hr, ?_, hg, hat⟩
    unfold OVk
    rw [List.length_append, List.flatMap_append]
    exact ho
theorem wp_append_ek {o : Oper} {act : Act} {w : World} {K : Act → World → Prop} {Q : Exit → Act → World → Prop} (s x : Operand) (ho : o.op = .call { callee := .builtin .append, args := #[s, x], argTypes := #[80, 80] })
    {B : Nat} {v : Value} {es fs : List Ek} {a : Option Addr} {c n : Nat} (hs : act.eval s = v) (hx : act.eval x = .slice a n c) (hn : n = fs.length) (h : OVk w B v es) (hq : Eks w a fs) (hl : es.length + fs.length ≤ 100000) (hB : B ≤ w.heap.size)
    (hk : ∀ v' w', OVk w' B v' (es ++ fs) → w.grownBy w' v.ownBlock → (v'.ownBlock = v.ownBlock ∨ v'.ownBlock = some w.heap.size) → K (act.put o.dst v') w') : o.wp Tryz.prog act w K Q := by
  subst hn
  obtain ⟨v', w', hr, r1, r2, r3⟩ := run_append_ek (ty := o.type) (c := c) h hq hl hB
  unfold Oper.wp execOp
  simp only [ho, resolve, invoke, builtin, Sem.run_bind, Sem.run_pure, Result.andThen_ok, List.map_toArray, List.map_cons, List.map_nil, hs, hx, hr]
  exact hk v' w' r1 r2 r3
theorem wpList_append_ek {ops : Array Oper} {rest : List Oper} {o : Oper} {act : Act} {w : World} {Q : Exit → Act → World → Prop} (hgd : o.guard = none) (s x : Operand) (ho : o.op = .call { callee := .builtin .append, args := #[s, x], argTypes := #[80, 80] })
    {B : Nat} {v : Value} {es fs : List Ek} {a : Option Addr} {c n : Nat} (hs : act.eval s = v) (hx : act.eval x = .slice a n c) (hn : n = fs.length) (h : OVk w B v es) (hq : Eks w a fs) (hl : es.length + fs.length ≤ 100000) (hB : B ≤ w.heap.size)
    (hk : ∀ v' w', OVk w' B v' (es ++ fs) → w.grownBy w' v.ownBlock → (v'.ownBlock = v.ownBlock ∨ v'.ownBlock = some w.heap.size) → wpList Tryz.prog ops Q rest (act.put o.dst v') w') : wpList Tryz.prog ops Q (o :: rest) act w := by
  refine wpList_plain hgd fun K hK => ?_
  exact wp_append_ek s x ho hs hx hn h hq hl hB (fun v' w' r1 r2 r3 => hK _ _ (hk v' w' r1 r2 r3))
theorem eks_one (w : World) (e : Ek) : Eks (w.alloc (Obj.cells #[.int .i64 e.p.wt, .slice e.a e.p.sy.length e.c] 82)) (some ⟨w.heap.size, 0, none⟩) [e] := fun _ =>
  ⟨w.heap.size, 0, rfl, by simp, fun i hi => by
    have hi0 : i = 0 := by simpa using hi
    subst hi0
    exact ⟨cell_blk (heap_alloc_new w _) rfl, cell_blk (heap_alloc_new w _) rfl⟩⟩
end Go.Proofs.YtpancccomdchnaaGreatDoor
