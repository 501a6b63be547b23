/-
  FnDecodes, for every input: the call returns true and leaves its arguments as they were, where the named variables hold what the program's own text lays there (the card ties them to it).
-/
import Derived.Test.YtfeokafkhnbdiaaGreatDoorDcI
import Derived.Test.YtfeokafkhnbdiaaGreatDoorDrBy
import Derived.Test.YtfeokafkhnbdiaaGreatDoorDrBo
import Derived.Test.YtfeokafkhnbdiaaGreatDoorICntI
namespace Go.Proofs.YtfeokafkhnbdiaaGreatDoor
open Go.RowKit
set_option linter.unusedVariables false
set_option linter.unusedSimpArgs false

/-- What is told of bytes: a block, or none; beside a false there is nothing. -/
def DcEP (Y : Option (List Int)) (w : World) (e : Ending) (w' : World) : Prop := Below w.heap.size w w' ∧
  ((∃ bs v, Y = some bs ∧ OVB w' w.heap.size v bs ∧ e = .returned (.tuple #[v, .bool true])) ∨ (Y = none ∧ e = .returned (.tuple #[.slice none 0 0, .bool false])))
/-- What the program tells of the bytes xs. -/
def DecP (xs : List Int) (Y : Option (List Int)) : Prop := (∀ bs, Y = some bs → bs.length = 64 ∧ 2 ≤ xs.length ∧ xs.length ≤ 65) ∧
  (∀ (a : Option Addr) (cap : Nat) (w : World), xs.length ≤ cap → Byt w a xs → SentB w → Calls Tryz.prog 28 #[.slice a xs.length cap] w (DcEP Y w))
theorem rbY_uniqueP {o : Option (Nat × Nat)} {m : Nat} {zs bs bs' : List Int} (h : RbY o m zs bs) (h' : RbY o m zs bs') : bs = bs' := by
  obtain ⟨-, h⟩ := h
  obtain ⟨-, h'⟩ := h'
  rcases h with ⟨e0, rfl⟩ | ⟨e0, -, rfl⟩ | ⟨e0, q, rfl, hy⟩
  · rcases h' with ⟨-, rfl⟩ | ⟨e1, -⟩ | ⟨e1, -⟩
    · rfl
    · omega
    · omega
  · rcases h' with ⟨e1, -⟩ | ⟨-, -, rfl⟩ | ⟨e1, -⟩
    · omega
    · rfl
    · omega
  · rcases h' with ⟨e1, -⟩ | ⟨e1, -⟩ | ⟨-, q', hq, hy'⟩
    · omega
    · omega
    · cases hq
      exact hy.unique hy'

/-- A byte, and behind it what is opened. -/
theorem decP_of {m : Nat} {zs : List Int} {o : Option (Nat × Nat)} (h1 : 1 ≤ zs.length) (h64 : zs.length ≤ 64) (hO : OpnP zs o) : ∃ Y, DecP ((m : Int) :: zs) Y ∧ (∀ bs, Y = some bs ↔ RbY o m zs bs) := by
  obtain ⟨Y, hY, hN, hYr⟩ : ∃ Y : Option (List Int), (∀ bs, RbY o m zs bs → Y = some bs) ∧ ((¬ ∃ bs, RbY o m zs bs) → Y = none) ∧ (∀ bs, Y = some bs → RbY o m zs bs) := by
    by_cases h : ∃ bs, RbY o m zs bs
    · obtain ⟨bs, hbs⟩ := h
      exact ⟨some bs, fun b hb => by rw [rbY_uniqueP hbs hb], fun hn => absurd ⟨bs, hbs⟩ hn, fun b hb => by cases hb; exact hbs⟩
    · exact ⟨none, fun b hb => absurd ⟨b, hb⟩ h, fun _ => rfl, fun b hb => by cases hb⟩
  refine ⟨Y, ⟨fun bs hbs => ⟨(hYr bs hbs).1, by simp only [List.length_cons]; omega, by simp only [List.length_cons]; omega⟩, ?_⟩, fun bs => ⟨hYr bs, hY bs⟩⟩
  intro a cap w hc hb hS
  simp only [List.length_cons] at hc ⊢
  refine (decodeI_any a cap m zs o w hb h1 h64 hc hO hS).mono ?_
  rintro e w' ⟨hb', ⟨bs, v, h1, h2, h3⟩ | ⟨h1, h3⟩⟩
  · exact ⟨hb', .inl ⟨bs, v, hY bs h1, h2, h3⟩⟩
  · exact ⟨hb', .inr ⟨hN h1, h3⟩⟩
theorem decP_no {xs : List Int} (h : xs.length < 2 ∨ 65 < xs.length) : DecP xs none := by
  refine ⟨fun bs h => (by cases h), ?_⟩
  intro a cap w hc hb hS
  refine (decodeI_no a cap xs.length w h hS).mono ?_
  rintro e w' ⟨hb', rfl⟩
  exact ⟨hb', .inr ⟨rfl, rfl⟩⟩
theorem decP (xs : List Int) (hl : xs.length ≤ 1048576) (hr : ∀ z ∈ xs, 0 ≤ z ∧ z ≤ 255) : ∃ Y, DecP xs Y := by
  by_cases h2 : xs.length < 2 ∨ 65 < xs.length
  · exact ⟨none, decP_no h2⟩
  · cases xs with
    | nil => simp at h2
    | cons x zs =>
      simp only [List.length_cons] at h2
      obtain ⟨m, rfl⟩ := Int.eq_ofNat_of_zero_le (hr x (by simp)).1
      obtain ⟨o, hO⟩ := opnP zs (by omega) (fun z hz => hr z (by simp [hz]))
      obtain ⟨Y, h, -⟩ := decP_of (m := m) (by omega) (by omega) hO
      exact ⟨Y, h⟩

/-- What ModeOf tells of the bytes xs. -/
def moP (xs : List Int) (Y : Option (List Int)) : Int := if Y.isSome then xs.getD 0 0 else -1
theorem moP_some (xs bs : List Int) : moP xs (some bs) = xs.getD 0 0 := rfl
theorem moP_none (xs : List Int) : moP xs none = -1 := rfl

set_option maxRecDepth 20000 in
set_option maxHeartbeats 1000000 in
theorem implModeOfP_any (xs : List Int) (Y : Option (List Int)) (h : DecP xs Y) (a : Option Addr) (cap : Nat) (w : World) (hc : xs.length ≤ cap) (hb : Byt w a xs) (hS : SentB w) :
    Calls Tryz.prog 29 #[.slice a xs.length cap] w fun e w' => e = .returned (.int .i64 (moP xs Y)) ∧ Below w.heap.size w w' := by
  have HR := h.2 a cap w hc hb hS
  have HL : Hid (∀ bs, Y = some bs → 2 ≤ xs.length) := fun bs hy => (h.1 bs hy).2.1
  have HB : Hid (Byt w a xs) := hb
  clear hb h hS
  go_enter Tryz.func29, Tryz.ntmps29
  go_wp2_with fail
  refine HR.mono ?_
  clear HR
  rintro e w1 ⟨hb1, ⟨bs, v, hy, hov, rfl⟩ | ⟨hy, rfl⟩⟩
  · have h2 := HL.out bs hy
    obtain ⟨b, off, rfl, hbl, hcl⟩ := HB.out.len_pos 0 (by omega)
    have c0 := hcl 0 (by omega)
    have hr := getD_rng HB.out.1 0
    rw [Nat.add_zero] at c0
    have c1 := keep hb1 hbl c0
    have HM : Hid (moP xs Y = xs.getD 0 0 ∧ Below w.heap.size w w1) := ⟨by rw [hy]; rfl, hb1⟩
    generalize xs.getD 0 0 = x at *
    have hwx : IntKind.i64.wrap x = x := by rw [IntKind.wrap_i64]; omega
    have hl0 : (0 : Int) < (xs.length : Int) := by omega
    obtain ⟨va, vc, rfl⟩ := hov.form
    clear hy hov hb1 hcl c0
    go_wp2
    go_ret
    exact ⟨by rw [HM.out.1]; simp [hwx], HM.out.2⟩
  · have HM : Hid (moP xs Y = -1 ∧ Below w.heap.size w w1) := ⟨by rw [hy]; rfl, hb1⟩
    clear hy hb1
    go_wp2
    go_ret
    exact ⟨by rw [HM.out.1]; rfl, HM.out.2⟩

set_option maxHeartbeats 4000000 in
theorem drawDecode_any (a : Option Addr) (bs : List Int) (cap : Nat) (w : World) (hb : Byt w a bs) (hl : bs.length ≤ maxLen) :
    Calls Tryz.prog 32 #[.slice a bs.length cap] w fun e w' => ∃ (a' : Option Addr) (c : Nat) (zs : List Int), e = .returned (.slice a' zs.length c) ∧ zs.length ≤ 602 ∧ OVB w' w.heap.size (.slice a' zs.length c) zs ∧ Below w.heap.size w w' := by
  go_enter Tryz.func32, Tryz.ntmps32
  go_wp2_with fail
  refine (l1New_any a bs cap w hb hl).mono ?_
  rintro e w1 ⟨rfl, hd1⟩
  have HD1 : Hid (Dr w w1 w.heap.size w.heap.size a bs cap) := hd1
  have hw1 := hd1.bel.size
  have hR1 := hd1.cur.lt
  clear hd1
  go_wp2_with fail
  refine HD1.out.blob.mono ?_
  rintro e w2 ⟨a2, c2, zs, rfl, h1, h2, hov, hd2, ho2⟩
  have HS2 : Hid (OVB w2 w1.heap.size (.slice a2 zs.length c2) zs ∧ Dr w w2 w.heap.size w.heap.size a bs cap) := ⟨hov, hd2⟩
  have hw2 : w1.heap.size ≤ w2.heap.size := ho2.size
  clear hov hd2 ho2 HD1
  go_wp2_with fail
  refine (HS2.out.2.once 2 (by omega) (by omega)).mono ?_
  rintro e w3 ⟨⟨b, rfl⟩, hd3, ho3⟩
  have HS3 : Hid (OVB w3 w1.heap.size (.slice a2 zs.length c2) zs ∧ Dr w w3 w.heap.size w.heap.size a bs cap) := ⟨HS2.out.1.stay ho3 (fun k hk e => by omega), hd3⟩
  have hw3 : w2.heap.size ≤ w3.heap.size := ho3.size
  clear hd3 ho3 HS2
  cases b with
  | false =>
    have HF : Hid (OVB w3 w.heap.size (.slice a2 zs.length c2) zs ∧ Below w.heap.size w w3) := ⟨HS3.out.1.weak hw1, HS3.out.2.bel⟩
    clear HS3
    go_wp2
    go_ret
    exact ⟨a2, c2, zs, rfl, by omega, HF.out⟩
  | true =>
    have HC := HS3.out.2.spoil a2 c2 zs HS3.out.1.byt h1 h2
    go_wp2_with fail
    refine HC.mono ?_
    clear HC
    rintro e w4 ⟨a4, c4, ls, rfl, hl4, hov, hd4, ho4⟩
    have HF : Hid (OVB w4 w.heap.size (.slice a4 ls.length c4) ls ∧ Below w.heap.size w w4) := ⟨hov.weak (by omega), hd4.bel⟩
    clear hov hd4 ho4 HS3
    go_wp2
    go_ret
    exact ⟨a4, c4, ls, rfl, hl4, HF.out⟩

set_option maxRecDepth 20000 in
set_option maxHeartbeats 8000000 in
theorem lawFnDecodes_any (a : Option Addr) (cap : Nat) (bs : List Int) (w : World) (hb : Byt w a bs) (hm : bs.length ≤ maxLen) (hE : SentE w) (hD : SentB w) :
    Calls Tryz.prog 8 #[.slice a bs.length cap] w fun e w' => e = .returned (.bool true) ∧ Below w.heap.size w w' := by
  have HBL : Hid (∀ W, Below w.heap.size w W → Calls Tryz.prog 11 #[] W fun e w' => e = .returned (.bool true) ∧ Below W.heap.size W w') := fun W hW => blobs_any W (hE.below hW) (hD.below hW)
  have HSB : Hid (∀ W, Below w.heap.size w W → SentB W) := fun W hW => hD.below hW
  clear hE hD
  go_enter Tryz.func8, Tryz.ntmps8
  go_wp2_with fail
  refine (drawDecode_any a bs cap w hb hm).mono ?_
  rintro e w1 ⟨a1, c1, zs, rfl, hl, hov, hb1⟩
  obtain ⟨Y, hW⟩ := decP zs (by omega) hov.2
  have HB1 : Hid (Byt w1 a1 zs ∧ Below w.heap.size w w1) := ⟨hov.byt, hb1⟩
  have hcap := hov.cap.1
  have HDC := hW.2 a1 c1 w1 hcap hov.byt (HSB.out w1 hb1)
  have HMO : Hid (∀ W, Below w.heap.size w W → Byt W a1 zs → Calls Tryz.prog 29 #[.slice a1 zs.length c1] W fun e w' => e = .returned (.int .i64 (moP zs Y)) ∧ Below W.heap.size W w') := fun W hWB hby => implModeOfP_any zs Y hW a1 c1 W hcap hby (HSB.out W hWB)
  have HY : Hid (∀ ys, Y = some ys → ys.length = 64 ∧ 0 ≤ moP zs Y) := fun ys hy => ⟨(hW.1 ys hy).1, by
    rw [hy, moP_some]
    exact (getD_rng hov.2 0).1⟩
  have HN : Hid (Y = none → moP zs Y = -1) := fun hy => by rw [hy]; rfl
  clear hb hov hb1 hW
  generalize moP zs Y = mo at *
  go_wp2_with fail
  refine HDC.mono ?_
  clear HDC
  rintro e w2 ⟨hb2, ⟨ys, v, hy, hv, rfl⟩ | ⟨hy, rfl⟩⟩
  · obtain ⟨hl64, hmo⟩ := HY.out ys hy
    obtain ⟨a2, c2, rfl⟩ := hv.form
    have HB2 : Hid (Byt w2 a1 zs ∧ Below w.heap.size w w2) := ⟨HB1.out.1.below hb2 (Nat.le_refl _), HB1.out.2.trans (hb2.mono HB1.out.2.size)⟩
    have hmd : decide (0 ≤ mo) = true := decide_eq_true hmo
    rw [hl64]
    clear hy hv hb2 HB1 HY HN hl64
    have HC := HMO.out w2 HB2.out.2 HB2.out.1
    go_wp2_with fail
    refine HC.mono ?_
    clear HC HMO
    rintro e w3 ⟨rfl, hb3⟩
    have HB3 : Hid (Below w.heap.size w w3) := HB2.out.2.trans (hb3.mono HB2.out.2.size)
    clear hb3 HB2
    have HC := HBL.out w3 HB3.out
    go_wp2_with fail
    refine HC.mono ?_
    clear HC HBL
    rintro e w4 ⟨rfl, hb4⟩
    have HB4 : Hid (Below w.heap.size w w4) := HB3.out.trans (hb4.mono HB3.out.size)
    clear hb4 HB3
    go_wp2
    go_ret
    exact ⟨rfl, HB4.out⟩
  · obtain rfl : mo = -1 := HN.out hy
    have HB2 : Hid (Byt w2 a1 zs ∧ Below w.heap.size w w2) := ⟨HB1.out.1.below hb2 (Nat.le_refl _), HB1.out.2.trans (hb2.mono HB1.out.2.size)⟩
    clear hy hb2 HB1 HY HN
    have HC := HMO.out w2 HB2.out.2 HB2.out.1
    go_wp2_with fail
    refine HC.mono ?_
    clear HC HMO
    rintro e w3 ⟨rfl, hb3⟩
    have HB3 : Hid (Below w.heap.size w w3) := HB2.out.2.trans (hb3.mono HB2.out.2.size)
    clear hb3 HB2
    have HC := HBL.out w3 HB3.out
    go_wp2_with fail
    refine HC.mono ?_
    clear HC HBL
    rintro e w4 ⟨rfl, hb4⟩
    have HB4 : Hid (Below w.heap.size w w4) := HB3.out.trans (hb4.mono HB3.out.size)
    clear hb4 HB3
    go_wp2
    go_ret
    exact ⟨rfl, HB4.out⟩
end Go.Proofs.YtfeokafkhnbdiaaGreatDoor
namespace Go.Proofs.YtfeokafkhnbdiaaGreatDoor
open Go.ChangeShapes Go.WideShapes Go.ChangeAt Go.RowKit Go.Joins
set_option linter.unusedVariables false

theorem vars_nil {H : Type} (enc : TypeId × Value → H) {P : Program} {W : World} (sp : Nat → Bool) : DataW.TrodVars enc P W sp [] [] [] := rfl
theorem vars_consC {H : Type} (enc : TypeId × Value → H) {P : Program} {W : World} {n : String} {g : Nat} {t : TypeId} {ms : Array (String × TypeId)} {x : Value} {ns : List String} {ds : List (DataW H)} {ps : List MemPlace} {sp : Nat → Bool}
    (hg : P.globalNamed n = some g) (ht : (P.globals[g]?).map (·.type) = some t) (hi : P.underlying t = some (.interface ms)) (h : W.var? P n = some #[x]) (ix : IsIface x) (hr : DataW.TrodVars enc P W sp ns ds ps) :
    DataW.TrodVars enc P W sp (n :: ns) (tok enc x :: ds) (.cell g 0 :: ps) := ⟨g, t, #[x], 1, [], ps, hg, ht, h, trod_held hi ix 0, hr, rfl⟩
end Go.Proofs.YtfeokafkhnbdiaaGreatDoor
namespace Go.Proofs.YtfeokafkhnbdiaaGreatDoor.cardFnDecodes
open Go.ChangeShapes Go.WideShapes Go.ChangeAt Go.RowKit Go.Joins
set_option linter.unusedVariables false

theorem g_errOver : Tryz.prog.globalNamed "loop.example/g00528/impl.errOver" = some 11 := by kernel_rfl
theorem t_errOver : (Tryz.prog.globals[11]?).map (·.type) = some 70 := by kernel_rfl
theorem g_errFull : Tryz.prog.globalNamed "loop.example/g00528/impl.errFull" = some 6 := by kernel_rfl
theorem t_errFull : (Tryz.prog.globals[6]?).map (·.type) = some 70 := by kernel_rfl
theorem g_errRange : Tryz.prog.globalNamed "loop.example/g00528/impl.errRange" = some 5 := by kernel_rfl
theorem t_errRange : (Tryz.prog.globals[5]?).map (·.type) = some 70 := by kernel_rfl
theorem g_errSyms : Tryz.prog.globalNamed "loop.example/g00528/impl.errSyms" = some 17 := by kernel_rfl
theorem t_errSyms : (Tryz.prog.globals[17]?).map (·.type) = some 70 := by kernel_rfl
theorem g_errLength : Tryz.prog.globalNamed "loop.example/g00528/impl.errLength" = some 18 := by kernel_rfl
theorem t_errLength : (Tryz.prog.globals[18]?).map (·.type) = some 70 := by kernel_rfl
theorem g_errNoCodes : Tryz.prog.globalNamed "loop.example/g00528/impl.errNoCodes" = some 8 := by kernel_rfl
theorem t_errNoCodes : (Tryz.prog.globals[8]?).map (·.type) = some 70 := by kernel_rfl
theorem g_errShares : Tryz.prog.globalNamed "loop.example/g00528/impl.errShares" = some 19 := by kernel_rfl
theorem t_errShares : (Tryz.prog.globals[19]?).map (·.type) = some 70 := by kernel_rfl
theorem g_errRun : Tryz.prog.globalNamed "loop.example/g00528/impl.errRun" = some 15 := by kernel_rfl
theorem t_errRun : (Tryz.prog.globals[15]?).map (·.type) = some 70 := by kernel_rfl
theorem g_errNoSymbol : Tryz.prog.globalNamed "loop.example/g00528/impl.errNoSymbol" = some 20 := by kernel_rfl
theorem t_errNoSymbol : (Tryz.prog.globals[20]?).map (·.type) = some 70 := by kernel_rfl
theorem g_errNoCode : Tryz.prog.globalNamed "loop.example/g00528/impl.errNoCode" = some 12 := by kernel_rfl
theorem t_errNoCode : (Tryz.prog.globals[12]?).map (·.type) = some 70 := by kernel_rfl
theorem g_errShare : Tryz.prog.globalNamed "loop.example/g00528/impl.errShare" = some 9 := by kernel_rfl
theorem t_errShare : (Tryz.prog.globals[9]?).map (·.type) = some 70 := by kernel_rfl
theorem g_errNoShare : Tryz.prog.globalNamed "loop.example/g00528/impl.errNoShare" = some 14 := by kernel_rfl
theorem t_errNoShare : (Tryz.prog.globals[14]?).map (·.type) = some 70 := by kernel_rfl
theorem g_errOtherText : Tryz.prog.globalNamed "loop.example/g00528/impl.errOtherText" = some 16 := by kernel_rfl
theorem t_errOtherText : (Tryz.prog.globals[16]?).map (·.type) = some 70 := by kernel_rfl
theorem g_errBlobSize : Tryz.prog.globalNamed "loop.example/g00528/impl.errBlobSize" = some 2 := by kernel_rfl
theorem t_errBlobSize : (Tryz.prog.globals[2]?).map (·.type) = some 70 := by kernel_rfl
theorem g_errBlockSize : Tryz.prog.globalNamed "loop.example/g00528/impl.errBlockSize" = some 4 := by kernel_rfl
theorem t_errBlockSize : (Tryz.prog.globals[4]?).map (·.type) = some 70 := by kernel_rfl
theorem g_errMode : Tryz.prog.globalNamed "loop.example/g00528/impl.errMode" = some 3 := by kernel_rfl
theorem t_errMode : (Tryz.prog.globals[3]?).map (·.type) = some 70 := by kernel_rfl
theorem g_errUnsealed : Tryz.prog.globalNamed "loop.example/g00528/impl.errUnsealed" = some 10 := by kernel_rfl
theorem t_errUnsealed : (Tryz.prog.globals[10]?).map (·.type) = some 70 := by kernel_rfl
theorem g_errPiece : Tryz.prog.globalNamed "loop.example/g00528/impl.errPiece" = some 7 := by kernel_rfl
theorem t_errPiece : (Tryz.prog.globals[7]?).map (·.type) = some 70 := by kernel_rfl
theorem g_errLeft : Tryz.prog.globalNamed "loop.example/g00528/impl.errLeft" = some 0 := by kernel_rfl
theorem t_errLeft : (Tryz.prog.globals[0]?).map (·.type) = some 70 := by kernel_rfl
theorem g_errSeqs : Tryz.prog.globalNamed "loop.example/g00528/impl.errSeqs" = some 1 := by kernel_rfl
theorem t_errSeqs : (Tryz.prog.globals[1]?).map (·.type) = some 70 := by kernel_rfl
theorem door_met (os : Os) (args : Array Value) : laidMetH Tryz.prog Rows.fnDecodesRow.laid ((World.doorLaid Tryz.prog 389 os).forCall (fun _ _ => 0) ⟨#[], args, []⟩).memory :=
  laidMetH_of_parts3 (fuel := 8) (laidMet_of_run' 8 (by kernel_rfl) (by kernel_rfl)) (by kernel_rfl) (by kernel_rfl)

set_option maxRecDepth 100000 in
theorem lifted (os : Os) (started : os.Started) (H : Type) (enc : TypeId × Value → H) :
    ReturnsInHanded {} Tryz.checked os 8 .any (fun w args => (Rows.fnDecodesSpec.pre enc Tryz.prog Tryz.f8 [] false w args ∧ laidMetH Tryz.prog Rows.fnDecodesRow.laid w) ∧ sizedMet enc Tryz.prog Tryz.f8 (OpenSpec.ofChange Rows.fnDecodesSpec) false w args)
      (Rows.fnDecodesSpec.post enc Tryz.prog Tryz.f8 false true false false) := by
  refine returnsInHanded_of_change_and (C := Tryz.checked) (X := fun w _ => laidMetH Tryz.prog Rows.fnDecodesRow.laid w) (fun _ _ _ hh h => h.of_heap hh) Tryz.own started (by kernel_rfl) Tryz.func8
    (ChangeSpec.witness_shaped (enc := enc) (C := Tryz.checked) (os := os) (X := fun w _ => laidMetH Tryz.prog Rows.fnDecodesRow.laid w) false (World.doorLaid Tryz.prog 389 os) #[.slice .none 0 0] 8 rfl (World.shaped_of_RefB (by kernel_rfl) (by kernel_rfl)) (by kernel_rfl) (by kernel_rfl) (by kernel_rfl) (door_met os _)) ?_
  intro W base args ds gs before hval0 hW _ _ hL _
  have hval : ∀ (j : Nat) t v, Tryz.f8.params[j]? = some t → args[j]? = some v → Value.okWide Tryz.prog W .any base t v := hval0
  have hW' := hW
  obtain ⟨p, q, hA0, hV0, rfl, hfz, hnd⟩ := hW
  have hA : DataW.TrodAll enc Tryz.prog W 0 (fun _ => true) true Tryz.f8.params.toList args.toList ds p := hA0
  have hV : DataW.TrodVars enc Tryz.prog W (fun _ => true) ["loop.example/g00528/impl.errBlobSize", "loop.example/g00528/impl.errMode", "loop.example/g00528/impl.errBlockSize", "loop.example/g00528/impl.errUnsealed", "loop.example/g00528/impl.errSeqs", "loop.example/g00528/impl.errRange", "loop.example/g00528/impl.errOver", "loop.example/g00528/impl.errRun", "loop.example/g00528/impl.errSyms", "loop.example/g00528/impl.errLength", "loop.example/g00528/impl.errNoCodes", "loop.example/g00528/impl.errShares", "loop.example/g00528/impl.errNoSymbol", "loop.example/g00528/impl.errFull", "loop.example/g00528/impl.errShare", "loop.example/g00528/impl.errOtherText", "loop.example/g00528/impl.errLeft", "loop.example/g00528/impl.errPiece", "loop.example/g00528/impl.errNoCode", "loop.example/g00528/impl.errNoShare"] gs q := hV0
  rw [Tryz.params8] at hA hval
  obtain ⟨v0, vs0, d0, ds0, p0, q0, hargs, rfl, rfl, h0, r0⟩ := trodAll_cons hA
  obtain ⟨rfl, rfl, rfl⟩ := trodAll_nil r0
  obtain rfl : args = #[v0] := by cases args; simp_all
  have k0 := h0
  have lt0 : ∀ x ∈ p0, x.block < W.heap.size := by obtain ⟨m, hm⟩ := k0; exact DataW.trod_lt m _ _ _ hm
  obtain ⟨sa0, sl0, sc0, rfl⟩ := okWide_slice Tryz.underlying22 (hval 0 22 v0 rfl rfl)
  obtain ⟨fuel0, hf0⟩ := h0
  obtain ⟨a0, zs0, cap0, hv0, hb0, hm0⟩ := byt_of_trod (v := .slice sa0 sl0 sc0) (by simpa [Value.cells] using hf0)
  rw [hv0] at hW' k0 ⊢
  rw [MakeChecks.laidMetH_plain _ _ _ (by kernel_rfl)] at hL
  obtain ⟨s_errOver, hv_errOver, hc_errOver⟩ := sentinel hL g_errOver t_errOver
  have hG_errOver : 11 < W.heap.size := World.block_lt_of_cell? _ _ hc_errOver
  obtain ⟨s_errFull, hv_errFull, hc_errFull⟩ := sentinel hL.tail g_errFull t_errFull
  have hG_errFull : 6 < W.heap.size := World.block_lt_of_cell? _ _ hc_errFull
  obtain ⟨s_errRange, hv_errRange, hc_errRange⟩ := sentinel hL.tail.tail g_errRange t_errRange
  have hG_errRange : 5 < W.heap.size := World.block_lt_of_cell? _ _ hc_errRange
  obtain ⟨s_errSyms, hv_errSyms, hc_errSyms⟩ := sentinel hL.tail.tail.tail g_errSyms t_errSyms
  have hG_errSyms : 17 < W.heap.size := World.block_lt_of_cell? _ _ hc_errSyms
  obtain ⟨s_errLength, hv_errLength, hc_errLength⟩ := sentinel hL.tail.tail.tail.tail g_errLength t_errLength
  have hG_errLength : 18 < W.heap.size := World.block_lt_of_cell? _ _ hc_errLength
  obtain ⟨s_errNoCodes, hv_errNoCodes, hc_errNoCodes⟩ := sentinel hL.tail.tail.tail.tail.tail g_errNoCodes t_errNoCodes
  have hG_errNoCodes : 8 < W.heap.size := World.block_lt_of_cell? _ _ hc_errNoCodes
  obtain ⟨s_errShares, hv_errShares, hc_errShares⟩ := sentinel hL.tail.tail.tail.tail.tail.tail g_errShares t_errShares
  have hG_errShares : 19 < W.heap.size := World.block_lt_of_cell? _ _ hc_errShares
  obtain ⟨s_errRun, hv_errRun, hc_errRun⟩ := sentinel hL.tail.tail.tail.tail.tail.tail.tail g_errRun t_errRun
  have hG_errRun : 15 < W.heap.size := World.block_lt_of_cell? _ _ hc_errRun
  obtain ⟨s_errNoSymbol, hv_errNoSymbol, hc_errNoSymbol⟩ := sentinel hL.tail.tail.tail.tail.tail.tail.tail.tail g_errNoSymbol t_errNoSymbol
  have hG_errNoSymbol : 20 < W.heap.size := World.block_lt_of_cell? _ _ hc_errNoSymbol
  obtain ⟨s_errNoCode, hv_errNoCode, hc_errNoCode⟩ := sentinel hL.tail.tail.tail.tail.tail.tail.tail.tail.tail g_errNoCode t_errNoCode
  have hG_errNoCode : 12 < W.heap.size := World.block_lt_of_cell? _ _ hc_errNoCode
  obtain ⟨s_errShare, hv_errShare, hc_errShare⟩ := sentinel hL.tail.tail.tail.tail.tail.tail.tail.tail.tail.tail g_errShare t_errShare
  have hG_errShare : 9 < W.heap.size := World.block_lt_of_cell? _ _ hc_errShare
  obtain ⟨s_errNoShare, hv_errNoShare, hc_errNoShare⟩ := sentinel hL.tail.tail.tail.tail.tail.tail.tail.tail.tail.tail.tail g_errNoShare t_errNoShare
  have hG_errNoShare : 14 < W.heap.size := World.block_lt_of_cell? _ _ hc_errNoShare
  obtain ⟨s_errOtherText, hv_errOtherText, hc_errOtherText⟩ := sentinel hL.tail.tail.tail.tail.tail.tail.tail.tail.tail.tail.tail.tail g_errOtherText t_errOtherText
  have hG_errOtherText : 16 < W.heap.size := World.block_lt_of_cell? _ _ hc_errOtherText
  obtain ⟨s_errBlobSize, hv_errBlobSize, hc_errBlobSize⟩ := sentinel hL.tail.tail.tail.tail.tail.tail.tail.tail.tail.tail.tail.tail.tail g_errBlobSize t_errBlobSize
  have hG_errBlobSize : 2 < W.heap.size := World.block_lt_of_cell? _ _ hc_errBlobSize
  obtain ⟨s_errBlockSize, hv_errBlockSize, hc_errBlockSize⟩ := sentinel hL.tail.tail.tail.tail.tail.tail.tail.tail.tail.tail.tail.tail.tail.tail g_errBlockSize t_errBlockSize
  have hG_errBlockSize : 4 < W.heap.size := World.block_lt_of_cell? _ _ hc_errBlockSize
  obtain ⟨s_errMode, hv_errMode, hc_errMode⟩ := sentinel hL.tail.tail.tail.tail.tail.tail.tail.tail.tail.tail.tail.tail.tail.tail.tail g_errMode t_errMode
  have hG_errMode : 3 < W.heap.size := World.block_lt_of_cell? _ _ hc_errMode
  obtain ⟨s_errUnsealed, hv_errUnsealed, hc_errUnsealed⟩ := sentinel hL.tail.tail.tail.tail.tail.tail.tail.tail.tail.tail.tail.tail.tail.tail.tail.tail g_errUnsealed t_errUnsealed
  have hG_errUnsealed : 10 < W.heap.size := World.block_lt_of_cell? _ _ hc_errUnsealed
  obtain ⟨s_errPiece, hv_errPiece, hc_errPiece⟩ := sentinel hL.tail.tail.tail.tail.tail.tail.tail.tail.tail.tail.tail.tail.tail.tail.tail.tail.tail g_errPiece t_errPiece
  have hG_errPiece : 7 < W.heap.size := World.block_lt_of_cell? _ _ hc_errPiece
  obtain ⟨s_errLeft, hv_errLeft, hc_errLeft⟩ := sentinel hL.tail.tail.tail.tail.tail.tail.tail.tail.tail.tail.tail.tail.tail.tail.tail.tail.tail.tail g_errLeft t_errLeft
  have hG_errLeft : 0 < W.heap.size := World.block_lt_of_cell? _ _ hc_errLeft
  obtain ⟨s_errSeqs, hv_errSeqs, hc_errSeqs⟩ := sentinel hL.tail.tail.tail.tail.tail.tail.tail.tail.tail.tail.tail.tail.tail.tail.tail.tail.tail.tail.tail g_errSeqs t_errSeqs
  have hG_errSeqs : 1 < W.heap.size := World.block_lt_of_cell? _ _ hc_errSeqs
  have read : ∀ (W' : World) (sp : Nat → Bool), Below W.heap.size W W' → DataW.TrodVars enc Tryz.prog W' sp ["loop.example/g00528/impl.errBlobSize", "loop.example/g00528/impl.errMode", "loop.example/g00528/impl.errBlockSize", "loop.example/g00528/impl.errUnsealed", "loop.example/g00528/impl.errSeqs", "loop.example/g00528/impl.errRange", "loop.example/g00528/impl.errOver", "loop.example/g00528/impl.errRun", "loop.example/g00528/impl.errSyms", "loop.example/g00528/impl.errLength", "loop.example/g00528/impl.errNoCodes", "loop.example/g00528/impl.errShares", "loop.example/g00528/impl.errNoSymbol", "loop.example/g00528/impl.errFull", "loop.example/g00528/impl.errShare", "loop.example/g00528/impl.errOtherText", "loop.example/g00528/impl.errLeft", "loop.example/g00528/impl.errPiece", "loop.example/g00528/impl.errNoCode", "loop.example/g00528/impl.errNoShare"] _ _ := fun W' sp bel =>
    vars_consC enc g_errBlobSize t_errBlobSize Tryz.underlying70 (var?_below bel g_errBlobSize hG_errBlobSize hv_errBlobSize) trivial (vars_consC enc g_errMode t_errMode Tryz.underlying70 (var?_below bel g_errMode hG_errMode hv_errMode) trivial (vars_consC enc g_errBlockSize t_errBlockSize Tryz.underlying70 (var?_below bel g_errBlockSize hG_errBlockSize hv_errBlockSize) trivial (vars_consC enc g_errUnsealed t_errUnsealed Tryz.underlying70 (var?_below bel g_errUnsealed hG_errUnsealed hv_errUnsealed) trivial (vars_consC enc g_errSeqs t_errSeqs Tryz.underlying70 (var?_below bel g_errSeqs hG_errSeqs hv_errSeqs) trivial (vars_consC enc g_errRange t_errRange Tryz.underlying70 (var?_below bel g_errRange hG_errRange hv_errRange) trivial (vars_consC enc g_errOver t_errOver Tryz.underlying70 (var?_below bel g_errOver hG_errOver hv_errOver) trivial (vars_consC enc g_errRun t_errRun Tryz.underlying70 (var?_below bel g_errRun hG_errRun hv_errRun) trivial (vars_consC enc g_errSyms t_errSyms Tryz.underlying70 (var?_below bel g_errSyms hG_errSyms hv_errSyms) trivial (vars_consC enc g_errLength t_errLength Tryz.underlying70 (var?_below bel g_errLength hG_errLength hv_errLength) trivial (vars_consC enc g_errNoCodes t_errNoCodes Tryz.underlying70 (var?_below bel g_errNoCodes hG_errNoCodes hv_errNoCodes) trivial (vars_consC enc g_errShares t_errShares Tryz.underlying70 (var?_below bel g_errShares hG_errShares hv_errShares) trivial (vars_consC enc g_errNoSymbol t_errNoSymbol Tryz.underlying70 (var?_below bel g_errNoSymbol hG_errNoSymbol hv_errNoSymbol) trivial (vars_consC enc g_errFull t_errFull Tryz.underlying70 (var?_below bel g_errFull hG_errFull hv_errFull) trivial (vars_consC enc g_errShare t_errShare Tryz.underlying70 (var?_below bel g_errShare hG_errShare hv_errShare) trivial (vars_consC enc g_errOtherText t_errOtherText Tryz.underlying70 (var?_below bel g_errOtherText hG_errOtherText hv_errOtherText) trivial (vars_consC enc g_errLeft t_errLeft Tryz.underlying70 (var?_below bel g_errLeft hG_errLeft hv_errLeft) trivial (vars_consC enc g_errPiece t_errPiece Tryz.underlying70 (var?_below bel g_errPiece hG_errPiece hv_errPiece) trivial (vars_consC enc g_errNoCode t_errNoCode Tryz.underlying70 (var?_below bel g_errNoCode hG_errNoCode hv_errNoCode) trivial (vars_consC enc g_errNoShare t_errNoShare Tryz.underlying70 (var?_below bel g_errNoShare hG_errNoShare hv_errNoShare) trivial (vars_nil enc _))))))))))))))))))))
  obtain ⟨rfl, rfl⟩ := hV.unique (read W _ (Below.refl _ _))
  clear hA0 hV0 hval0
  refine (lawFnDecodes_any a0 cap0 zs0 W hb0 hm0 (SentE.mk (SentC.mk ⟨_, _, hc_errNoCode⟩ hG_errNoCode) ⟨_, _, hc_errNoShare⟩ ⟨_, hc_errOver⟩ ⟨hG_errNoShare, hG_errOver⟩) (SentB.mk (SentD.mk (SentT.mk ⟨_, hc_errOver⟩ ⟨_, _, hc_errFull⟩ ⟨hG_errOver, hG_errFull⟩) (SentF.mk ⟨_, _, hc_errRange⟩ ⟨_, _, hc_errOver⟩ ⟨_, _, hc_errOtherText⟩ ⟨hG_errRange, hG_errOver, hG_errOtherText⟩) ⟨_, _, hc_errRun⟩ ⟨_, _, hc_errNoSymbol⟩ ⟨_, _, hc_errShare⟩ ⟨_, _, hc_errPiece⟩ ⟨_, _, hc_errLeft⟩ ⟨_, _, hc_errSeqs⟩ ⟨⟨_, _, hc_errSyms⟩, ⟨_, _, hc_errLength⟩, ⟨_, _, hc_errNoCodes⟩, ⟨_, _, hc_errShares⟩⟩ ⟨hG_errRun, hG_errNoSymbol, hG_errShare, hG_errPiece, hG_errLeft, hG_errSeqs⟩) ⟨_, _, hc_errUnsealed⟩ ⟨_, _, hc_errMode⟩ ⟨_, _, hc_errBlockSize⟩ ⟨_, _, hc_errBlobSize⟩ ⟨hG_errUnsealed, hG_errMode, hG_errBlockSize, hG_errBlobSize⟩)).mono fun e W' ⟨he, bel⟩ => ?_
  subst he
  exact ⟨_, rfl, _, _, _, [], _, _, hW', trodAll_mk1 (shut_bool Tryz.underlying4 _),
    (trodAll_cons_mk (Below.trod Tryz.laidOut (by kernel_rfl) (of_decide_eq_true (by kernel_rfl)) k0 bel lt0) trodAll_mk0),
    read W' _ bel, bel.frame _, fun h => by cases h⟩

theorem said : Rows.FnDecodesSaid :=
  OpenClaim.holds_of_wide 8 Tryz.f8 rfl rfl rfl rfl rfl rfl rfl ⟨rfl, rfl, rfl, rfl, rfl⟩ rfl rfl rfl rfl rfl (by kernel_rfl) Tryz.func8 (by kernel_rfl)
    (of_decide_eq_true (by kernel_rfl)) (by unfold Func.isWrapper; first | (rw [if_pos (by decide +kernel)]; kernel_rfl) | (rw [if_neg (by decide +kernel)]; exact ⟨rfl, rfl⟩))
    (fun os started H enc _ => lifted os started H enc)

theorem plain (f : FuncId) (fn : Func) (hf : Tryz.pinned.checked.prog.funcNamed "loop.example/g00528/laws.FnDecodes" = some f) (hfn : Tryz.pinned.checked.prog.funcs[f]? = some fn) :
    true = Tryz.pinned.checked.prog.looks [] ∧ ∀ (j : Nat) t, fn.params[j]? = some t → Tryz.pinned.checked.prog.wantsStandIn t = false := by
  obtain rfl : f = 8 := Option.some.inj ((show Tryz.prog.funcNamed "loop.example/g00528/laws.FnDecodes" = some 8 by kernel_rfl).symm.trans hf) |>.symm
  obtain rfl : fn = Tryz.f8 := (Option.some.inj (Tryz.func8.symm.trans hfn)).symm
  refine ⟨by kernel_rfl, fun j t ht => ?_⟩
  rw [Tryz.params8] at ht
  have hmem := Array.mem_of_getElem? ht
  have h' : t = 22 := by simpa using hmem
  rcases h' with rfl
  · exact (show Tryz.prog.wantsStandIn 22 = false by kernel_rfl)

end cardFnDecodes

theorem fnDecodes_card : Rows.FnDecodesCardSaid :=
  Claim7.holds_tied_plain_at .later [] _ _ _ _ cardFnDecodes.said (fun _ h => by cases h) (by kernel_rfl) (fun _ h => by cases h) fnDecodes_row_tie rfl ⟨rfl, rfl⟩ (by kernel_rfl) rfl cardFnDecodes.plain (by kernel_rfl)
#print axioms fnDecodes_card
end Go.Proofs.YtfeokafkhnbdiaaGreatDoor
