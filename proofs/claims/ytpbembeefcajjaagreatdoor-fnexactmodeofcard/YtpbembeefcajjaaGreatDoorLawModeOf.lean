/-
  The law on ModeOf returns true, whatever is handed in, and writes nothing that was there.
-/
import Derived.Test.YtpbembeefcajjaaGreatDoorDcY
import Derived.Test.YtpbembeefcajjaaGreatDoorL5R
import Derived.Test.YtpbembeefcajjaaGreatDoorOnly
import Derived.Test.YtpbembeefcajjaaGreatDoorSqA
namespace Go.Proofs.YtpbembeefcajjaaGreatDoor
open Go.RowKit
set_option linter.unusedVariables false
set_option linter.unusedSimpArgs false

/-- What is told of bytes: a block, or none. -/
def DcA (Y : Option (List Int)) (w : World) (e : Ending) (w' : World) : Prop := Below w.heap.size w w' ∧
  ((∃ bs v, Y = some bs ∧ OVB w' w.heap.size v bs ∧ e = .returned (.tuple #[v, .bool true])) ∨ (Y = none ∧ ∃ v, e = .returned (.tuple #[v, .bool false])))
/-- The same; beside a false there is nothing. -/
def DcE (Y : Option (List Int)) (w : World) (e : Ending) (w' : World) : Prop := Below w.heap.size w w' ∧
  ((∃ bs v, Y = some bs ∧ OVB w' w.heap.size v bs ∧ e = .returned (.tuple #[v, .bool true])) ∨ (Y = none ∧ e = .returned (.tuple #[.slice none 0 0, .bool false])))
/-- What the model and the program tell of the bytes xs. -/
def DecW (xs : List Int) (Y : Option (List Int)) : Prop := (∀ bs, Y = some bs → bs.length = 64 ∧ 2 ≤ xs.length ∧ xs.length ≤ 65) ∧
  (∀ (a : Option Addr) (cap : Nat) (w : World), xs.length ≤ cap → Byt w a xs → Calls Tryz.prog 8 #[.slice a xs.length cap] w (DcA Y w)) ∧
  (∀ (a : Option Addr) (cap : Nat) (w : World), xs.length ≤ cap → Byt w a xs → SentB w → Calls Tryz.prog 9 #[.slice a xs.length cap] w (DcE Y w))

theorem rbY_unique {o : Option (Nat × Nat)} {m : Nat} {zs bs bs' : List Int} (h : RbY o m zs bs) (h' : RbY o m zs bs') : bs = bs' := by
  obtain ⟨-, h⟩ := h
  obtain ⟨-, h'⟩ := h'
  rcases h with ⟨e0, rfl⟩ | ⟨e0, -, rfl⟩ | ⟨e0, q, rfl, hy⟩
  · rcases h' with ⟨-, rfl⟩ | ⟨e1, -⟩ | ⟨e1, -⟩
    · rfl
    · omega
    · omega
  · rcases h' with ⟨e1, -⟩ | ⟨-, -, rfl⟩ | ⟨e1, -⟩
    · omega
    · rfl
    · omega
  · rcases h' with ⟨e1, -⟩ | ⟨e1, -⟩ | ⟨-, q', hq, hy'⟩
    · omega
    · omega
    · cases hq
      exact hy.unique hy'

theorem DcP.ans {o : Option (Nat × Nat)} {m : Nat} {zs : List Int} {w w' : World} {e : Ending} {Y : Option (List Int)} (hy : ∀ bs, RbY o m zs bs → Y = some bs) (hn : (¬ ∃ bs, RbY o m zs bs) → Y = none) (h : DcP o m zs w e w') : DcA Y w e w' := by
  obtain ⟨hb, ⟨bs, v, h1, h2, h3⟩ | ⟨h1, v, h3⟩⟩ := h
  · exact ⟨hb, .inl ⟨bs, v, hy bs h1, h2, h3⟩⟩
  · exact ⟨hb, .inr ⟨hn h1, v, h3⟩⟩

theorem decW (xs : List Int) (hl : xs.length ≤ 1048576) (hr : ∀ z ∈ xs, 0 ≤ z ∧ z ≤ 255) : ∃ Y, DecW xs Y := by
  by_cases h2 : xs.length < 2 ∨ 65 < xs.length
  · refine ⟨none, ⟨fun bs h => (by cases h), ?_, ?_⟩⟩
    · intro a cap w hc hb
      refine (l5decode_no a cap xs.length w h2).mono ?_
      rintro e w' ⟨rfl, rfl⟩
      exact ⟨Below.refl _ _, .inr ⟨rfl, _, rfl⟩⟩
    · intro a cap w hc hb hS
      refine (decodeI_no a cap xs.length w h2 hS).mono ?_
      rintro e w' ⟨hb', rfl⟩
      exact ⟨hb', .inr ⟨rfl, rfl⟩⟩
  · cases xs with
    | nil => simp at h2
    | cons x zs =>
      simp only [List.length_cons] at h2
      have h1 : 1 ≤ zs.length := by omega
      have h64 : zs.length ≤ 64 := by omega
      obtain ⟨m, rfl⟩ := Int.eq_ofNat_of_zero_le (hr x (by simp)).1
      obtain ⟨o, hO⟩ := opnW zs (by omega) (fun z hz => hr z (by simp [hz]))
      obtain ⟨Y, hY, hN, hYr⟩ : ∃ Y : Option (List Int), (∀ bs, RbY o m zs bs → Y = some bs) ∧ ((¬ ∃ bs, RbY o m zs bs) → Y = none) ∧ (∀ bs, Y = some bs → RbY o m zs bs) := by
        by_cases h : ∃ bs, RbY o m zs bs
        · obtain ⟨bs, hbs⟩ := h
          exact ⟨some bs, fun b hb => by rw [rbY_unique hbs hb], fun hn => absurd ⟨bs, hbs⟩ hn, fun b hb => by cases hb; exact hbs⟩
        · exact ⟨none, fun b hb => absurd ⟨b, hb⟩ h, fun _ => rfl, fun b hb => by cases hb⟩
      refine ⟨Y, ⟨fun bs hbs => ⟨(hYr bs hbs).1, by simp only [List.length_cons]; omega, by simp only [List.length_cons]; omega⟩, ?_, ?_⟩⟩
      · intro a cap w hc hb
        simp only [List.length_cons] at hc ⊢
        have key : Calls Tryz.prog 8 #[.slice a (zs.length + 1) cap] w (DcP o m zs w) := by
          have cs : m = 0 ∨ m = 1 ∨ m = 2 ∨ m = 3 ∨ 4 ≤ m := by omega
          rcases cs with rfl | rfl | rfl | rfl | h4
          · exact l5decode_raw a cap zs o w hb h1 h64 hc
          · exact l5decode_run a cap zs o w hb h1 h64 hc
          · cases o with
            | none => exact l5decode_symN a cap 2 zs w (.inl rfl) hb h1 h64 hc hO
            | some q => exact l5decode_sym2 a cap zs q.1 q.2 w hb h1 h64 hc hO rdC
          · cases o with
            | none => exact l5decode_symN a cap 3 zs w (.inr rfl) hb h1 h64 hc hO
            | some q => exact l5decode_sym3 a cap zs q.1 q.2 w hb h1 h64 hc hO rdC
          · exact l5decode_other a cap m zs o w hb h1 h64 h4
        exact key.mono fun e w' h => h.ans hY hN
      · intro a cap w hc hb hS
        simp only [List.length_cons] at hc ⊢
        refine (decodeI_any a cap m zs o w hb h1 h64 hc hO hS).mono ?_
        rintro e w' ⟨hb', ⟨bs, v, h1, h2, h3⟩ | ⟨h1, h3⟩⟩
        · exact ⟨hb', .inl ⟨bs, v, hY bs h1, h2, h3⟩⟩
        · exact ⟨hb', .inr ⟨hN h1, h3⟩⟩
end Go.Proofs.YtpbembeefcajjaaGreatDoor
namespace Go.Proofs.YtpbembeefcajjaaGreatDoor
open Go.RowKit
set_option linter.unusedVariables false

set_option maxHeartbeats 800000 in
theorem eqByteS_any (a b : Option Addr) (ca cb : Nat) (xs ys : List Int) (w : World) (ha : Byt w a xs) (hb : Byt w b ys) (hx : xs.length ≤ 281474976710656) (hy : ys.length ≤ 281474976710656) :
    Calls Tryz.prog 7 #[.slice a xs.length ca, .slice b ys.length cb] w fun e w' => e = .returned (.bool (decide (xs = ys))) ∧ ∃ n, w' = w.drewN n := by
  by_cases hl : xs.length = ys.length
  · generalize hlx : xs.length = n at *
    have HX : Hid (xs.length = n) := hlx
    have HY : Hid (ys.length = n) := hl.symm
    rw [← hl]
    have hnn : ((n : Int) != (n : Int)) = false := by simp
    clear hlx hl hy
    go_enter Tryz.func7, Tryz.ntmps7
    go_wp2
    go_loopw [5] (fun i wr => ∃ k m : Nat, k ≤ n ∧ i = .int .i64 k ∧ wr = w.drewN m ∧ xs.take k = ys.take k) (fun i _ => n - (intOf i).toNat)
    case atStart => exact ⟨0, 0, Nat.zero_le _, rfl, rfl, by simp⟩
    case round =>
      obtain ⟨k, m, hk, rfl, rfl, htk⟩ := hrel
      have HT : Hid (xs.take k = ys.take k) := htk
      clear htk
      by_cases hlt : k < n
      · obtain ⟨b1, o1, rfl, hb1, hc1⟩ := ha.len_pos k (by rw [HX.out]; exact hlt)
        obtain ⟨b2, o2, rfl, hb2, hc2⟩ := hb.len_pos k (by rw [HY.out]; exact hlt)
        have hs1 := hc1 k (by rw [HX.out]; exact hlt)
        have hs2 := hc2 k (by rw [HY.out]; exact hlt)
        have g1 := getD_rng ha.1 k
        have g2 := getD_rng hb.1 k
        clear hc1 hc2 ha hb
        generalize hx1 : xs.getD k 0 = x1 at *
        generalize hy1 : ys.getD k 0 = y1 at *
        have HX1 : Hid (xs.getD k 0 = x1) := hx1
        have HY1 : Hid (ys.getD k 0 = y1) := hy1
        clear hx1 hy1
        by_cases hxy : x1 = y1
        · subst hxy
          have hq : (x1 != x1) = false := by simp
          have HT' : Hid (xs.take (k + 1) = ys.take (k + 1)) := take_eq_succ HT.out (by rw [HX.out]; exact hlt) (by rw [HY.out]; exact hlt) (by rw [HX1.out, HY1.out])
          go_wp2
          go_quiet (fail)
          go_wp2
          go_roundw
          case rel => exact ⟨k + 1, _, by omega, by go_num, rfl, HT'.out⟩
          case measure => simp [intOf]; omega
        · have hq : (x1 != y1) = true := by rw [bne_iff_ne]; exact hxy
          have HN : Hid (decide (xs = ys) = false) := by
            have : xs ≠ ys := ne_of_getD (k := k) (by rw [HX1.out, HY1.out]; exact hxy)
            simpa [Hid] using this
          clear hxy
          go_wp2
          go_quiet (fail)
          go_wp2
          go_ret
          exact ⟨by rw [HN.out]; rfl, _, World.drewN_drewN ..⟩
      · have HE : Hid (decide (xs = ys) = true) := by
          have h1 := HT.out
          rw [List.take_of_length_le (by rw [HX.out]; omega), List.take_of_length_le (by rw [HY.out]; omega)] at h1
          simpa [Hid] using h1
        go_wp2
        go_ret
        exact ⟨by rw [HE.out]; rfl, _, rfl⟩
  · have hne : decide (xs = ys) = false := by simp; intro h; exact hl (by rw [h])
    have hl' : ((xs.length : Int) != (ys.length : Int)) = true := by rw [bne_iff_ne]; omega
    rw [hne]
    go_enter Tryz.func7, Tryz.ntmps7
    go_wp2
    go_ret
    exact ⟨rfl, 0, rfl⟩

theorem eqByteS_yes (a b : Option Addr) (ca cb : Nat) (xs : List Int) (w : World) (ha : Byt w a xs) (hb : Byt w b xs) (hx : xs.length ≤ 281474976710656) :
    Calls Tryz.prog 7 #[.slice a xs.length ca, .slice b xs.length cb] w fun e w' => e = .returned (.bool true) ∧ ∃ n, w' = w.drewN n := by
  refine (eqByteS_any a b ca cb xs xs w ha hb hx hx).mono ?_
  rintro e w' ⟨rfl, h⟩
  exact ⟨by simp, h⟩

end Go.Proofs.YtpbembeefcajjaaGreatDoor
namespace Go.Proofs.YtpbembeefcajjaaGreatDoor
open Go.RowKit
set_option linter.unusedVariables false
set_option linter.unusedSimpArgs false

/-- What ModeOf tells of the bytes xs. -/
def moI (xs : List Int) (Y : Option (List Int)) : Int := if Y.isSome then xs.getD 0 0 else -1
theorem moI_some (xs bs : List Int) : moI xs (some bs) = xs.getD 0 0 := rfl
theorem moI_none (xs : List Int) : moI xs none = -1 := rfl

set_option maxRecDepth 20000 in
set_option maxHeartbeats 1000000 in
theorem specModeOf_any (xs : List Int) (Y : Option (List Int)) (h : DecW xs Y) (a : Option Addr) (cap : Nat) (w : World) (hc : xs.length ≤ cap) (hb : Byt w a xs) :
    Calls Tryz.prog 4 #[.slice a xs.length cap] w fun e w' => e = .returned (.int .i64 (moI xs Y)) ∧ Below w.heap.size w w' := by
  have HR := h.2.1 a cap w hc hb
  have HL : Hid (∀ bs, Y = some bs → 2 ≤ xs.length) := fun bs hy => (h.1 bs hy).2.1
  have HB : Hid (Byt w a xs) := hb
  clear hb h
  go_enter Tryz.func4, Tryz.ntmps4
  go_wp2_with fail
  refine HR.mono ?_
  clear HR
  rintro e w1 ⟨hb1, ⟨bs, v, hy, hov, rfl⟩ | ⟨hy, v, rfl⟩⟩
  · have h2 := HL.out bs hy
    obtain ⟨b, off, rfl, hbl, hcl⟩ := HB.out.len_pos 0 (by omega)
    have c0 := hcl 0 (by omega)
    have hr := getD_rng HB.out.1 0
    rw [Nat.add_zero] at c0
    have c1 := keep hb1 hbl c0
    have HM : Hid (moI xs Y = xs.getD 0 0 ∧ Below w.heap.size w w1) := ⟨by rw [hy]; rfl, hb1⟩
    generalize xs.getD 0 0 = x at *
    have hwx : IntKind.i64.wrap x = x := by rw [IntKind.wrap_i64]; omega
    have hl0 : (0 : Int) < (xs.length : Int) := by omega
    obtain ⟨va, vc, rfl⟩ := hov.form
    clear hy hov hb1 hcl c0
    go_wp2
    go_ret
    exact ⟨by rw [HM.out.1]; simp [hwx], HM.out.2⟩
  · have HM : Hid (moI xs Y = -1 ∧ Below w.heap.size w w1) := ⟨by rw [hy]; rfl, hb1⟩
    clear hy hb1
    go_wp2
    go_ret
    exact ⟨by rw [HM.out.1]; rfl, HM.out.2⟩

set_option maxRecDepth 20000 in
set_option maxHeartbeats 1000000 in
theorem implModeOf_any (xs : List Int) (Y : Option (List Int)) (h : DecW xs Y) (a : Option Addr) (cap : Nat) (w : World) (hc : xs.length ≤ cap) (hb : Byt w a xs) (hS : SentB w) :
    Calls Tryz.prog 6 #[.slice a xs.length cap] w fun e w' => e = .returned (.int .i64 (moI xs Y)) ∧ Below w.heap.size w w' := by
  have HR := h.2.2 a cap w hc hb hS
  have HL : Hid (∀ bs, Y = some bs → 2 ≤ xs.length) := fun bs hy => (h.1 bs hy).2.1
  have HB : Hid (Byt w a xs) := hb
  clear hb h hS
  go_enter Tryz.func6, Tryz.ntmps6
  go_wp2_with fail
  refine HR.mono ?_
  clear HR
  rintro e w1 ⟨hb1, ⟨bs, v, hy, hov, rfl⟩ | ⟨hy, rfl⟩⟩
  · have h2 := HL.out bs hy
    obtain ⟨b, off, rfl, hbl, hcl⟩ := HB.out.len_pos 0 (by omega)
    have c0 := hcl 0 (by omega)
    have hr := getD_rng HB.out.1 0
    rw [Nat.add_zero] at c0
    have c1 := keep hb1 hbl c0
    have HM : Hid (moI xs Y = xs.getD 0 0 ∧ Below w.heap.size w w1) := ⟨by rw [hy]; rfl, hb1⟩
    generalize xs.getD 0 0 = x at *
    have hwx : IntKind.i64.wrap x = x := by rw [IntKind.wrap_i64]; omega
    have hl0 : (0 : Int) < (xs.length : Int) := by omega
    obtain ⟨va, vc, rfl⟩ := hov.form
    clear hy hov hb1 hcl c0
    go_wp2
    go_ret
    exact ⟨by rw [HM.out.1]; simp [hwx], HM.out.2⟩
  · have HM : Hid (moI xs Y = -1 ∧ Below w.heap.size w w1) := ⟨by rw [hy]; rfl, hb1⟩
    clear hy hb1
    go_wp2
    go_ret
    exact ⟨by rw [HM.out.1]; rfl, HM.out.2⟩

set_option maxRecDepth 20000 in
set_option maxHeartbeats 4000000 in
theorem lawModeOf_any (a : Option Addr) (cap : Nat) (xs : List Int) (w : World) (hb : Byt w a xs) (hm : xs.length ≤ maxLen) (hS : SentB w) :
    Calls Tryz.prog 3 #[.slice a xs.length cap] w fun e w' => e = .returned (.bool true) ∧ Below w.heap.size w w' := by
  by_cases hn : xs.length ≤ 1048576
  · obtain ⟨Y, hW⟩ := decW xs hn hb.1
    have HW : Hid (DecW xs Y ∧ SentB w) := ⟨hW, hS⟩
    have HB : Hid (Byt w a xs) := hb
    clear hb hS hW
    have hn1 : ¬ ((1048576 : Int) < (xs.length : Int)) := by omega
    have HC1 := toByteS_any a cap xs w HB.out hn
    go_enter Tryz.func3, Tryz.ntmps3
    go_wp2_with fail
    refine HC1.mono ?_
    clear HC1
    rintro e w2 ⟨rfl, ho2, hb2⟩
    have HB2 : Hid (Below w.heap.size w w2) := hb2
    have HSP := specModeOf_any xs Y HW.out.1 (some ⟨w.heap.size, 0, none⟩) xs.length w2 (Nat.le_refl _) ho2.byt
    have z2 := hb2.size
    clear hb2 ho2
    go_wp2_with fail
    refine HSP.mono ?_
    clear HSP
    rintro e w3 ⟨rfl, hb3⟩
    have HB3 : Hid (Below w.heap.size w w3) := HB2.out.trans (hb3.mono z2)
    have HC1 := toByteS_any a cap xs w3 (HB.out.below HB3.out (Nat.le_refl _)) hn
    clear hb3 HB2
    go_wp2_with fail
    refine HC1.mono ?_
    clear HC1
    rintro e w4 ⟨rfl, ho4, hb4⟩
    have HB4 : Hid (Below w.heap.size w w4 ∧ Byt w4 (some ⟨w3.heap.size, 0, none⟩) xs) := ⟨HB3.out.trans (hb4.mono HB3.out.size), ho4.byt⟩
    have HIM := implModeOf_any xs Y HW.out.1 (some ⟨w3.heap.size, 0, none⟩) xs.length w4 (Nat.le_refl _) ho4.byt (HW.out.2.below HB4.out.1)
    clear hb4 ho4 HB3
    go_wp2_with fail
    refine HIM.mono ?_
    clear HIM
    rintro e w6 ⟨rfl, hb6⟩
    have HB6 : Hid (Below w.heap.size w w6 ∧ Byt w6 (some ⟨w3.heap.size, 0, none⟩) xs) := ⟨HB4.out.1.trans (hb6.mono HB4.out.1.size), HB4.out.2.below hb6 (Nat.le_refl _)⟩
    clear hb6 HB4
    generalize moI xs Y = M at *
    have hMM : (M != M) = false := by simp
    have HC1 := toByteS_any a cap xs w6 (HB.out.below HB6.out.1 (Nat.le_refl _)) hn
    go_wp2_with fail
    refine HC1.mono ?_
    clear HC1
    rintro e w8 ⟨rfl, ho8, hb8⟩
    have HB8 : Hid (Below w.heap.size w w8) := HB6.out.1.trans (hb8.mono HB6.out.1.size)
    have HEQ := eqByteS_yes (some ⟨w3.heap.size, 0, none⟩) (some ⟨w6.heap.size, 0, none⟩) xs.length xs.length xs w8 (HB6.out.2.below hb8 (Nat.le_refl _)) ho8.byt (by omega)
    clear ho8 hb8
    go_wp2_with fail
    refine HEQ.mono ?_
    clear HEQ
    rintro e w9 ⟨rfl, n9, rfl⟩
    go_wp2
    go_ret
    exact ⟨rfl, below_drewN HB8.out n9⟩
  · have hn1 : ((1048576 : Int) < (xs.length : Int)) := by omega
    go_enter Tryz.func3, Tryz.ntmps3
    go_wp2
    go_ret
    exact ⟨rfl, Below.refl _ _⟩
end Go.Proofs.YtpbembeefcajjaaGreatDoor
