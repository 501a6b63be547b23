/-
  FnExactEncode, for every input: the call returns true and leaves its arguments as they were, where the named variables hold what the program's own text lays there (the card ties them to it).
-/
import Derived.Test.YtajhdgnchpbanaaGreatDoorMkB
import Derived.Test.YtajhdgnchpbanaaGreatDoorIBase
import Derived.Test.YtajhdgnchpbanaaGreatDoorBApp
import Derived.Test.YtajhdgnchpbanaaGreatDoorEqS
namespace Go.Proofs.YtajhdgnchpbanaaGreatDoor
open Go.RowKit
set_option linter.unusedVariables false

structure Snp (w W : World) (N U V Z : Nat) (PB PW PX PG : World → Prop) : Prop where
  bel : Below w.heap.size w W
  ord : w.heap.size ≤ N ∧ N ≤ U ∧ U ≤ V ∧ V ≤ Z ∧ Z ≤ W.heap.size
  sb : Stab w.heap.size N PB
  hb : PB W
  sw : Stab N U PW
  hw : PW W
  sx : Stab U V PX
  hx : PX W
  sg : Stab V Z PG
  hg : PG W
section
variable {w W W' : World} {N U V Z : Nat} {PB PW PX PG : World → Prop}
theorem Snp.step (h : Snp w W N U V Z PB PW PX PG) (hb : Below W.heap.size W W') : Snp w W' N U V Z PB PW PX PG := by
  have o := h.ord; have hs := hb.size
  have ho : Only (fun _ => False) W W' := Only.ofBelow hb (Nat.le_refl _)
  exact ⟨h.bel.trans (hb.mono (by omega)), by omega, h.sb, h.sb _ _ _ h.hb ho (by simp) (by omega), h.sw, h.sw _ _ _ h.hw ho (by simp) (by omega), h.sx, h.sx _ _ _ h.hx ho (by simp) (by omega), h.sg, h.sg _ _ _ h.hg ho (by simp) (by omega)⟩
theorem Snp.drew (h : Snp w W N U V Z PB PW PX PG) (n : Nat) : Snp w (W.drewN n) N U V Z PB PW PX PG := h.step ⟨rfl, rfl, rfl, Nat.le_refl _, fun _ _ => rfl⟩
theorem Snp.markX {T : Nat → Prop} {PX' : World → Prop} (h : Snp w W N U V Z PB PW PX PG) (ho : Only T W W') (hT : ∀ k, T k → U ≤ k ∧ k < V) (sx : Stab U V PX') (hx : PX' W') : Snp w W' N U V Z PB PW PX' PG := by
  have o := h.ord; have hs := ho.size
  have hbel : Below w.heap.size W W' := ho.below (by omega) (fun k hk => by have := hT k hk; omega)
  exact ⟨h.bel.trans hbel, by omega, h.sb, h.sb _ _ _ h.hb ho (fun k h1 h2 hk => by have := hT k hk; omega) (by omega), h.sw, h.sw _ _ _ h.hw ho (fun k h1 h2 hk => by have := hT k hk; omega) (by omega), sx, hx, h.sg, h.sg _ _ _ h.hg ho (fun k h1 h2 hk => by have := hT k hk; omega) (by omega)⟩
theorem Snp.markG {T : Nat → Prop} {PG' : World → Prop} (h : Snp w W N U V Z PB PW PX PG) (ho : Only T W W') (hT : ∀ k, T k → V ≤ k ∧ k < Z) (sg : Stab V Z PG') (hg : PG' W') : Snp w W' N U V Z PB PW PX PG' := by
  have o := h.ord; have hs := ho.size
  have hbel : Below w.heap.size W W' := ho.below (by omega) (fun k hk => by have := hT k hk; omega)
  exact ⟨h.bel.trans hbel, by omega, h.sb, h.sb _ _ _ h.hb ho (fun k h1 h2 hk => by have := hT k hk; omega) (by omega), h.sw, h.sw _ _ _ h.hw ho (fun k h1 h2 hk => by have := hT k hk; omega) (by omega), h.sx, h.sx _ _ _ h.hx ho (fun k h1 h2 hk => by have := hT k hk; omega) (by omega), sg, hg⟩
end
theorem MinI.rowT {W : World} {B D : Nat} {a : Option Addr} {c : Nat} {zs : List Int} (h : MinI W B D a c zs) {k : Nat} (hk : rowOf a k) : B ≤ k ∧ k < D := by
  obtain ⟨x, hx, rfl⟩ := hk
  rcases h with ⟨h', _⟩ | ⟨g, h', g1, g2, _⟩
  · rw [h'] at hx; cases hx
  · rw [h'] at hx
    simp at hx
    rw [← hx]
    exact ⟨g1, g2⟩
theorem Mine.rowT {W : World} {B D : Nat} {a : Option Addr} {c : Nat} {zs : List Int} (h : Mine W B D a c zs) {k : Nat} (hk : rowOf a k) : B ≤ k ∧ k < D := by
  obtain ⟨x, hx, rfl⟩ := hk
  rcases h with ⟨h', _⟩ | ⟨g, h', g1, g2, _⟩
  · rw [h'] at hx; cases hx
  · rw [h'] at hx
    simp at hx
    rw [← hx]
    exact ⟨g1, g2⟩
set_option maxHeartbeats 400000 in
theorem heldByteS_any (a : Option Addr) (cap n : Nat) (k : Int) (w : World) (h : Byt w a (marks k n)) (hn : n ≤ 2097152) (h0 : 0 ≤ k) (h1 : k ≤ 2097152) :
    Calls Tryz.prog 9 #[.slice a n cap, .int .i64 k] w fun e w' => e = .returned (.int .i64 (k + n)) ∧ w' = w := by
  have hl := marks_len k n
  have HB : Hid (Byt w a (marks k n)) := h
  clear h
  go_enter Tryz.func9, Tryz.ntmps9
  go_wp2
  go_loop [1, 5] (fun q i => ∃ j : Nat, j ≤ n ∧ i = .int .i64 j ∧ q = .int .i64 (k + j)) (fun _ i => n - (intOf i).toNat)
  case atStart => exact ⟨0, Nat.zero_le _, rfl, by simp⟩
  case round =>
    obtain ⟨j, hj, rfl, rfl⟩ := hrel
    by_cases hlt : j < n
    · obtain ⟨b, off, rfl, hbl, hc⟩ := HB.out.len_pos j (by rw [hl]; exact hlt)
      have hs := hc j (by rw [hl]; exact hlt)
      rw [marks_get k n j hlt] at hs
      have hq : ((k + j) % 256 != (k + j) % 256) = false := by simp
      clear hc hl
      go_wp2
      go_round
      case rel => exact ⟨j + 1, by omega, by go_num, by go_num⟩
      case measure => simp [intOf]; omega
    · have hjn : j = n := by omega
      subst hjn
      go_wp2
      go_ret
      exact ⟨rfl, rfl⟩
set_option linter.unusedSimpArgs false
theorem optLen_Encode {ys : List Int} (hr : ∀ z ∈ ys, 0 ≤ z ∧ z ≤ 255) : ((enO ys).getD []).length ≤ 601 := by
  unfold enO
  split
  · rename_i hn
    have := enK_len hn 3
    simp only [Option.getD_some]
    omega
  · simp
theorem optLen_Packed {x : Int} {ys : List Int} (hr : ∀ z ∈ ys, 0 ≤ z ∧ z ≤ 255) : ((pkO x ys).getD []).length ≤ 601 := by
  cases h : pkO x ys with
  | none => simp
  | some b => exact pkO_len hr h

set_option maxRecDepth 20000 in
set_option maxHeartbeats 8000000 in
theorem lawEncode_any (a : Option Addr) (cap : Nat) (xs : List Int) (w : World) (hb : Byt w a xs) (hm : xs.length ≤ maxLen) (hS : SentE w) :
    Calls Tryz.prog 3 #[.slice a xs.length cap] w fun e w' => e = .returned (.bool true) ∧ Below w.heap.size w w' := by
  by_cases hn : xs.length ≤ 1048576
  · have hll : ((enO xs).getD []).length ≤ 601 := optLen_Encode hb.1
    have HSPEC : Hid (∀ (a : Option Addr) (w : World), Byt w a xs → Calls Tryz.prog 4 #[.slice a xs.length xs.length] w fun e w' => (∃ a c, e = .returned (.tuple #[.slice a ((enO xs).getD []).length c, .bool (enO xs).isSome]) ∧ Mine w' w.heap.size w'.heap.size a c ((enO xs).getD [])) ∧ Below w.heap.size w w') := fun a w h => specEncode_any a xs.length xs w h
    have HIMPL : Hid (∀ (a : Option Addr) (W : World), Byt W a xs → Below w.heap.size w W → Calls Tryz.prog 6 #[.slice a xs.length xs.length] W fun e w' => (∃ a c, e = .returned (.tuple #[.slice a ((enO xs).getD []).length c, .bool (enO xs).isSome]) ∧ Mine w' W.heap.size w'.heap.size a c ((enO xs).getD [])) ∧ Below W.heap.size W w') := fun a W h hW => implEncode_any a xs.length xs W h (Nat.le_refl _) (hS.below hW)
    have HB : Hid (Byt w a xs) := hb
    clear hb hS
    generalize (enO xs).getD [] = ls at *
    generalize (enO xs).isSome = R at *
    have hRR : (R != R) = false := by simp
    have hn1 : ¬ ((1048576 : Int) < (xs.length : Int)) := by omega
    have HN : Hid (xs.length ≤ 1048576 ∧ True) := ⟨hn, trivial⟩
    have HC1 := toByteS_any a cap xs w HB.out hn
    go_enter Tryz.func3, Tryz.ntmps3
    go_wp2_with fail
    refine HC1.mono ?_
    clear HC1
    rintro e w2 ⟨rfl, ho2, hb2⟩
    have HB2 : Hid (Below w.heap.size w w2) := hb2
    have HSP := HSPEC.out (some ⟨w.heap.size, 0, none⟩) w2 ho2.byt
    have z2 := hb2.size
    clear hb2 ho2 HSPEC
    go_wp2_with fail
    refine HSP.mono ?_
    clear HSP
    rintro e w3 ⟨⟨aw, cw, rfl, hmw⟩, hb3⟩
    have HB3 : Hid (Below w.heap.size w w3 ∧ Mine w3 w.heap.size w3.heap.size aw cw ls) := ⟨HB2.out.trans (hb3.mono z2), hmw.mono z2 (Nat.le_refl _)⟩
    have z3 : w.heap.size ≤ w3.heap.size := HB3.out.1.size
    have HC1 := toByteS_any a cap xs w3 (HB.out.below HB3.out.1 (Nat.le_refl _)) hn
    clear hb3 HB2 hmw
    go_wp2_with fail
    refine HC1.mono ?_
    clear HC1
    rintro e w4 ⟨rfl, ho4, hb4⟩
    have HB4 : Hid (Below w.heap.size w w4 ∧ Mine w4 w.heap.size w3.heap.size aw cw ls ∧ Mine w4 w3.heap.size w4.heap.size (some ⟨w3.heap.size, 0, none⟩) xs.length xs ∧ w3.heap.size ≤ w4.heap.size) := ⟨HB3.out.1.trans (hb4.mono z3), HB3.out.2.below hb4, ho4.mine, hb4.size⟩
    have HIM := HIMPL.out (some ⟨w3.heap.size, 0, none⟩) w4 ho4.byt HB4.out.1
    clear hb4 ho4 HB3
    go_wp2_with fail
    refine HIM.mono ?_
    clear HIM
    rintro e w6 ⟨⟨ag, cg, rfl, hmg⟩, hb6⟩
    have HS6 : Hid (Snp w w6 w.heap.size w3.heap.size w4.heap.size w6.heap.size (fun _ => True) (fun W => Mine W w.heap.size w3.heap.size aw cw ls) (fun W => Mine W w3.heap.size w4.heap.size (some ⟨w3.heap.size, 0, none⟩) xs.length xs) (fun W => Mine W w4.heap.size w6.heap.size ag cg ls)) := by
      have hx := HB4.out.2.2.2
      have h6 := hb6.size
      exact ⟨HB4.out.1.trans (hb6.mono (by omega)), by omega, Stab.true _ _, trivial, Stab.mine (Nat.le_refl _) (Nat.le_refl _), HB4.out.2.1.below hb6, Stab.mine (Nat.le_refl _) (Nat.le_refl _), HB4.out.2.2.1.below hb6, Stab.mine (Nat.le_refl _) (Nat.le_refl _), hmg⟩
    clear hmg hb6 HB4
    generalize w6.heap.size = Z at *
    generalize w4.heap.size = X at *
    generalize w3.heap.size = U at *
    go_wp2_with fail
    refine (eqByteS_yes ag aw cg cw ls w6 HS6.out.hg.byt HS6.out.hw.byt (by omega)).mono ?_
    rintro e w7 ⟨rfl, n7, rfl⟩
    have HS7 : Hid _ := HS6.out.drew n7
    clear HS6
    generalize w6.drewN n7 = w7 at *
    have HC1 := toByteS_any a cap xs w7 (HB.out.below HS7.out.bel (Nat.le_refl _)) hn
    go_wp2_with fail
    refine HC1.mono ?_
    clear HC1
    rintro e w8 ⟨rfl, ho8, hb8⟩
    have HS8 : Hid _ := HS7.out.step hb8
    have HEQ := eqByteS_yes (some ⟨U, 0, none⟩) (some ⟨w7.heap.size, 0, none⟩) xs.length xs.length xs w8 HS8.out.hx.byt ho8.byt (by omega)
    clear HS7 ho8 hb8
    go_wp2_with fail
    refine HEQ.mono ?_
    clear HEQ
    rintro e w9 ⟨rfl, n9, rfl⟩
    have HS9 : Hid _ := HS8.out.drew n9
    clear HS8
    generalize w8.drewN n9 = w9 at *
    have HMK := markByteS_any (some ⟨U, 0, none⟩) U X xs.length xs 1 _ HS9.out.hx (by omega) (by omega) (by omega)
    go_wp2_with fail
    refine HMK.mono ?_
    clear HMK
    rintro e w10 ⟨rfl, hm10, ho10⟩
    have HS10 : Hid _ := HS9.out.markX ho10 (fun k hk => hm10.rowT hk) (Stab.mine (B := U) (U := X) (a := some ⟨U, 0, none⟩) (c := xs.length) (zs := marks 1 xs.length) (Nat.le_refl _) (Nat.le_refl _)) hm10
    clear hm10 ho10 HS9
    have hk0 : ¬ ((1 : Int) + (xs.length : Int) < 0) := by omega
    go_wp2_with fail
    refine (eqByteS_yes ag aw cg cw ls w10 HS10.out.hg.byt HS10.out.hw.byt (by omega)).mono ?_
    rintro e w11 ⟨rfl, n11, rfl⟩
    have HS11 : Hid _ := HS10.out.drew n11
    clear HS10
    generalize w10.drewN n11 = w11 at *
    have HMK := markByteS_any ag X Z cg ls 1 _ HS11.out.hg (by omega) (by omega) (by omega)
    go_wp2_with fail
    refine HMK.mono ?_
    clear HMK
    rintro e w12 ⟨rfl, hm12, ho12⟩
    have HS12 : Hid _ := HS11.out.markG ho12 (fun k hk => hm12.rowT hk) (Stab.mine (B := X) (U := Z) (a := ag) (c := cg) (zs := marks 1 ls.length) (Nat.le_refl _) (Nat.le_refl _)) hm12
    clear hm12 ho12 HS11
    go_wp2_with fail
    refine (heldByteS_any ag cg ls.length 1 _ HS12.out.hg.byt (by omega) (by omega) (by omega)).mono ?_
    rintro e w13 ⟨rfl, rfl⟩
    have HC1 := toByteS_any a cap xs w13 (HB.out.below HS12.out.bel (Nat.le_refl _)) hn
    go_wp2_with fail
    refine HC1.mono ?_
    clear HC1
    rintro e w14 ⟨rfl, ho14, hb14⟩
    have HS14 : Hid _ := HS12.out.step hb14
    have HIM := HIMPL.out (some ⟨w13.heap.size, 0, none⟩) w14 ho14.byt HS14.out.bel
    clear hb14 ho14 HS12 HIMPL
    go_wp2_with fail
    refine HIM.mono ?_
    clear HIM
    rintro e w15 ⟨⟨ah, ch, rfl, hmh⟩, hb15⟩
    have HS15 : Hid _ := HS14.out.step hb15
    have HMH : Hid (Byt w15 ah ls) := hmh.byt
    clear hmh hb15 HS14
    go_wp2_with fail
    refine (eqByteS_yes ah aw ch cw ls w15 HMH.out HS15.out.hw.byt (by omega)).mono ?_
    rintro e w16 ⟨rfl, n16, rfl⟩
    have HS16 : Hid _ := HS15.out.drew n16
    clear HS15 HMH
    generalize w15.drewN n16 = w16 at *
    go_wp2_with fail
    refine (heldByteS_any ag cg ls.length 1 _ HS16.out.hg.byt (by omega) (by omega) (by omega)).mono ?_
    rintro e w17 ⟨rfl, rfl⟩
    go_wp2
    go_ret
    exact ⟨rfl, HS16.out.bel⟩
  · have hn1 : ((1048576 : Int) < (xs.length : Int)) := by omega
    go_enter Tryz.func3, Tryz.ntmps3
    go_wp2
    go_ret
    exact ⟨rfl, Below.refl _ _⟩
end Go.Proofs.YtajhdgnchpbanaaGreatDoor
namespace Go.Proofs.YtajhdgnchpbanaaGreatDoor
open Go.ChangeShapes Go.WideShapes Go.ChangeAt Go.RowKit Go.Joins
set_option linter.unusedVariables false

theorem vars_nil {H : Type} (enc : TypeId × Value → H) {P : Program} {W : World} (sp : Nat → Bool) : DataW.TrodVars enc P W sp [] [] [] := rfl
theorem vars_consC {H : Type} (enc : TypeId × Value → H) {P : Program} {W : World} {n : String} {g : Nat} {t : TypeId} {ms : Array (String × TypeId)} {x : Value} {ns : List String} {ds : List (DataW H)} {ps : List MemPlace} {sp : Nat → Bool}
    (hg : P.globalNamed n = some g) (ht : (P.globals[g]?).map (·.type) = some t) (hi : P.underlying t = some (.interface ms)) (h : W.var? P n = some #[x]) (ix : IsIface x) (hr : DataW.TrodVars enc P W sp ns ds ps) :
    DataW.TrodVars enc P W sp (n :: ns) (tok enc x :: ds) (.cell g 0 :: ps) := ⟨g, t, #[x], 1, [], ps, hg, ht, h, trod_held hi ix 0, hr, rfl⟩
end Go.Proofs.YtajhdgnchpbanaaGreatDoor
namespace Go.Proofs.YtajhdgnchpbanaaGreatDoor.cardEncode
open Go.ChangeShapes Go.WideShapes Go.ChangeAt Go.RowKit Go.Joins
set_option linter.unusedVariables false

theorem g_errOver : Tryz.prog.globalNamed "loop.example/g00528/impl.errOver" = some 5 := by kernel_rfl
theorem t_errOver : (Tryz.prog.globals[5]?).map (·.type) = some 43 := by kernel_rfl
theorem g_errFull : Tryz.prog.globalNamed "loop.example/g00528/impl.errFull" = some 1 := by kernel_rfl
theorem t_errFull : (Tryz.prog.globals[1]?).map (·.type) = some 43 := by kernel_rfl
theorem g_errRange : Tryz.prog.globalNamed "loop.example/g00528/impl.errRange" = some 0 := by kernel_rfl
theorem t_errRange : (Tryz.prog.globals[0]?).map (·.type) = some 43 := by kernel_rfl
theorem g_errNoCodes : Tryz.prog.globalNamed "loop.example/g00528/impl.errNoCodes" = some 2 := by kernel_rfl
theorem t_errNoCodes : (Tryz.prog.globals[2]?).map (·.type) = some 43 := by kernel_rfl
theorem g_errNoCode : Tryz.prog.globalNamed "loop.example/g00528/impl.errNoCode" = some 4 := by kernel_rfl
theorem t_errNoCode : (Tryz.prog.globals[4]?).map (·.type) = some 43 := by kernel_rfl
theorem g_errShare : Tryz.prog.globalNamed "loop.example/g00528/impl.errShare" = some 3 := by kernel_rfl
theorem t_errShare : (Tryz.prog.globals[3]?).map (·.type) = some 43 := by kernel_rfl
theorem g_errNoShare : Tryz.prog.globalNamed "loop.example/g00528/impl.errNoShare" = some 6 := by kernel_rfl
theorem t_errNoShare : (Tryz.prog.globals[6]?).map (·.type) = some 43 := by kernel_rfl
theorem door_met (os : Os) (args : Array Value) : laidMetH Tryz.prog Rows.fnExactEncodeRow.laid ((World.doorLaid Tryz.prog 142 os).forCall (fun _ _ => 0) ⟨#[], args, []⟩).memory :=
  laidMetH_of_parts3 (fuel := 8) (laidMet_of_run' 8 (by kernel_rfl) (by kernel_rfl)) (by kernel_rfl) (by kernel_rfl)

set_option maxRecDepth 100000 in
theorem lifted (os : Os) (started : os.Started) (H : Type) (enc : TypeId × Value → H) :
    ReturnsInHanded {} Tryz.checked os 3 .any (fun w args => (Rows.fnExactEncodeSpec.pre enc Tryz.prog Tryz.f3 [] false w args ∧ laidMetH Tryz.prog Rows.fnExactEncodeRow.laid w) ∧ sizedMet enc Tryz.prog Tryz.f3 (OpenSpec.ofChange Rows.fnExactEncodeSpec) false w args)
      (Rows.fnExactEncodeSpec.post enc Tryz.prog Tryz.f3 false true false false) := by
  refine returnsInHanded_of_change_and (C := Tryz.checked) (X := fun w _ => laidMetH Tryz.prog Rows.fnExactEncodeRow.laid w) (fun _ _ _ hh h => h.of_heap hh) Tryz.own started (by kernel_rfl) Tryz.func3
    (ChangeSpec.witness_shaped (enc := enc) (C := Tryz.checked) (os := os) (X := fun w _ => laidMetH Tryz.prog Rows.fnExactEncodeRow.laid w) false (World.doorLaid Tryz.prog 142 os) #[.slice .none 0 0] 8 rfl (World.shaped_of_RefB (by kernel_rfl) (by kernel_rfl)) (by kernel_rfl) (by kernel_rfl) (by kernel_rfl) (door_met os _)) ?_
  intro W base args ds gs before hval0 hW _ _ hL _
  have hval : ∀ (j : Nat) t v, Tryz.f3.params[j]? = some t → args[j]? = some v → Value.okWide Tryz.prog W .any base t v := hval0
  have hW' := hW
  obtain ⟨p, q, hA0, hV0, rfl, hfz, hnd⟩ := hW
  have hA : DataW.TrodAll enc Tryz.prog W 0 (fun _ => true) true Tryz.f3.params.toList args.toList ds p := hA0
  have hV : DataW.TrodVars enc Tryz.prog W (fun _ => true) ["loop.example/g00528/impl.errRange", "loop.example/g00528/impl.errFull", "loop.example/g00528/impl.errNoCodes", "loop.example/g00528/impl.errNoCode", "loop.example/g00528/impl.errOver", "loop.example/g00528/impl.errShare", "loop.example/g00528/impl.errNoShare"] gs q := hV0
  rw [Tryz.params3] at hA hval
  obtain ⟨v0, vs0, d0, ds0, p0, q0, hargs, rfl, rfl, h0, r0⟩ := trodAll_cons hA
  obtain ⟨rfl, rfl, rfl⟩ := trodAll_nil r0
  obtain rfl : args = #[v0] := by cases args; simp_all
  have k0 := h0
  have lt0 : ∀ x ∈ p0, x.block < W.heap.size := by obtain ⟨m, hm⟩ := k0; exact DataW.trod_lt m _ _ _ hm
  obtain ⟨sa0, sl0, sc0, rfl⟩ := okWide_slice Tryz.underlying22 (hval 0 22 v0 rfl rfl)
  obtain ⟨fuel0, hf0⟩ := h0
  obtain ⟨a0, zs0, cap0, hv0, hb0, hm0⟩ := byt_of_trod (v := .slice sa0 sl0 sc0) (by simpa [Value.cells] using hf0)
  rw [hv0] at hW' k0 ⊢
  rw [MakeChecks.laidMetH_plain _ _ _ (by kernel_rfl)] at hL
  obtain ⟨s_errOver, hv_errOver, hc_errOver⟩ := sentinel hL g_errOver t_errOver
  have hG_errOver : 5 < W.heap.size := World.block_lt_of_cell? _ _ hc_errOver
  obtain ⟨s_errFull, hv_errFull, hc_errFull⟩ := sentinel hL.tail g_errFull t_errFull
  have hG_errFull : 1 < W.heap.size := World.block_lt_of_cell? _ _ hc_errFull
  obtain ⟨s_errRange, hv_errRange, hc_errRange⟩ := sentinel hL.tail.tail g_errRange t_errRange
  have hG_errRange : 0 < W.heap.size := World.block_lt_of_cell? _ _ hc_errRange
  obtain ⟨s_errNoCodes, hv_errNoCodes, hc_errNoCodes⟩ := sentinel hL.tail.tail.tail g_errNoCodes t_errNoCodes
  have hG_errNoCodes : 2 < W.heap.size := World.block_lt_of_cell? _ _ hc_errNoCodes
  obtain ⟨s_errNoCode, hv_errNoCode, hc_errNoCode⟩ := sentinel hL.tail.tail.tail.tail g_errNoCode t_errNoCode
  have hG_errNoCode : 4 < W.heap.size := World.block_lt_of_cell? _ _ hc_errNoCode
  obtain ⟨s_errShare, hv_errShare, hc_errShare⟩ := sentinel hL.tail.tail.tail.tail.tail g_errShare t_errShare
  have hG_errShare : 3 < W.heap.size := World.block_lt_of_cell? _ _ hc_errShare
  obtain ⟨s_errNoShare, hv_errNoShare, hc_errNoShare⟩ := sentinel hL.tail.tail.tail.tail.tail.tail g_errNoShare t_errNoShare
  have hG_errNoShare : 6 < W.heap.size := World.block_lt_of_cell? _ _ hc_errNoShare
  have read : ∀ (W' : World) (sp : Nat → Bool), Below W.heap.size W W' → DataW.TrodVars enc Tryz.prog W' sp ["loop.example/g00528/impl.errRange", "loop.example/g00528/impl.errFull", "loop.example/g00528/impl.errNoCodes", "loop.example/g00528/impl.errNoCode", "loop.example/g00528/impl.errOver", "loop.example/g00528/impl.errShare", "loop.example/g00528/impl.errNoShare"] _ _ := fun W' sp bel =>
    vars_consC enc g_errRange t_errRange Tryz.underlying43 (var?_below bel g_errRange hG_errRange hv_errRange) trivial (vars_consC enc g_errFull t_errFull Tryz.underlying43 (var?_below bel g_errFull hG_errFull hv_errFull) trivial (vars_consC enc g_errNoCodes t_errNoCodes Tryz.underlying43 (var?_below bel g_errNoCodes hG_errNoCodes hv_errNoCodes) trivial (vars_consC enc g_errNoCode t_errNoCode Tryz.underlying43 (var?_below bel g_errNoCode hG_errNoCode hv_errNoCode) trivial (vars_consC enc g_errOver t_errOver Tryz.underlying43 (var?_below bel g_errOver hG_errOver hv_errOver) trivial (vars_consC enc g_errShare t_errShare Tryz.underlying43 (var?_below bel g_errShare hG_errShare hv_errShare) trivial (vars_consC enc g_errNoShare t_errNoShare Tryz.underlying43 (var?_below bel g_errNoShare hG_errNoShare hv_errNoShare) trivial (vars_nil enc _)))))))
  obtain ⟨rfl, rfl⟩ := hV.unique (read W _ (Below.refl _ _))
  clear hA0 hV0 hval0
  refine (lawEncode_any a0 cap0 zs0 W hb0 hm0 (SentE.mk (SentC.mk ⟨_, _, hc_errNoCode⟩ hG_errNoCode) ⟨_, _, hc_errNoShare⟩ ⟨_, hc_errOver⟩ ⟨hG_errNoShare, hG_errOver⟩)).mono fun e W' ⟨he, bel⟩ => ?_
  subst he
  exact ⟨_, rfl, _, _, _, [], _, _, hW', trodAll_mk1 (shut_bool Tryz.underlying4 _),
    (trodAll_cons_mk (Below.trod Tryz.laidOut (by kernel_rfl) (of_decide_eq_true (by kernel_rfl)) k0 bel lt0) trodAll_mk0),
    read W' _ bel, bel.frame _, fun h => by cases h⟩

theorem said : Rows.FnExactEncodeSaid :=
  OpenClaim.holds_of_wide 3 Tryz.f3 rfl rfl rfl rfl rfl rfl rfl ⟨rfl, rfl, rfl, rfl, rfl⟩ rfl rfl rfl rfl rfl (by kernel_rfl) Tryz.func3 (by kernel_rfl)
    (of_decide_eq_true (by kernel_rfl)) (by unfold Func.isWrapper; first | (rw [if_pos (by decide +kernel)]; kernel_rfl) | (rw [if_neg (by decide +kernel)]; exact ⟨rfl, rfl⟩))
    (fun os started H enc _ => lifted os started H enc)

theorem plain (f : FuncId) (fn : Func) (hf : Tryz.pinned.checked.prog.funcNamed "loop.example/g00528/laws.FnExactEncode" = some f) (hfn : Tryz.pinned.checked.prog.funcs[f]? = some fn) :
    true = Tryz.pinned.checked.prog.looks [] ∧ ∀ (j : Nat) t, fn.params[j]? = some t → Tryz.pinned.checked.prog.wantsStandIn t = false := by
  obtain rfl : f = 3 := Option.some.inj ((show Tryz.prog.funcNamed "loop.example/g00528/laws.FnExactEncode" = some 3 by kernel_rfl).symm.trans hf) |>.symm
  obtain rfl : fn = Tryz.f3 := (Option.some.inj (Tryz.func3.symm.trans hfn)).symm
  refine ⟨by kernel_rfl, fun j t ht => ?_⟩
  rw [Tryz.params3] at ht
  have hmem := Array.mem_of_getElem? ht
  have h' : t = 22 := by simpa using hmem
  rcases h' with rfl
  · exact (show Tryz.prog.wantsStandIn 22 = false by kernel_rfl)

end cardEncode

theorem encode_card : Rows.FnExactEncodeCardSaid :=
  Claim7.holds_tied_plain_at .later [] _ _ _ _ cardEncode.said (fun _ h => by cases h) (by kernel_rfl) (fun _ h => by cases h) fnExactEncode_row_tie rfl ⟨rfl, rfl⟩ (by kernel_rfl) rfl cardEncode.plain (by kernel_rfl)
#print axioms encode_card
end Go.Proofs.YtajhdgnchpbanaaGreatDoor
