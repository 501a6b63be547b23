/-
  FnExecs, for every input: the call returns true and leaves its arguments as they were, where the named variables hold what the program's own text lays there (the card ties them to it).
-/
import Derived.BigQuiet
import Derived.Test.YtojnomdlkihgmaaGreatDoorDraw2
import Derived.Test.YtojnomdlkihgmaaGreatDoorFnI
import Derived.Test.YtojnomdlkihgmaaGreatDoorOsI
import Derived.Test.YtojnomdlkihgmaaGreatDoorDrSqB
import Derived.Test.YtojnomdlkihgmaaGreatDoorITxtI
namespace Go.Proofs.YtojnomdlkihgmaaGreatDoor
open Go.RowKit
set_option linter.unusedVariables false
set_option linter.unusedSimpArgs false

theorem same_cut (a b : Option Addr) (ca cb n1 n2 : Nat) (zs : List Int) (w : World) (ha : Byt w a zs) (hb : Byt w b zs) (h1 : n1 = zs.length) (h2 : n2 = zs.length) :
    Calls Tryz.prog 10 #[.slice a n1 ca, .slice b n2 cb] w fun e w' => e = .returned (.bool true) ∧ w' = w := by
  subst h1 h2
  exact same_yes a b ca cb zs w ha hb

set_option maxHeartbeats 4000000 in
theorem drawExec_any (a : Option Addr) (bs : List Int) (cap : Nat) (w : World) (hb : Byt w a bs) (hl : bs.length ≤ maxLen) :
    Calls Tryz.prog 13 #[.slice a bs.length cap] w fun e w' => ∃ (a' : Option Addr) (c : Nat) (ss : List Sq), e = .returned (.slice a' ss.length c) ∧ SqD w' w.heap.size (.slice a' ss.length c) ss ∧ Below w.heap.size w w' := by
  go_enter Tryz.func13, Tryz.ntmps13
  go_wp2_with fail
  refine (l1New_any a bs cap w hb hl).mono ?_
  rintro e w1 ⟨rfl, hd1⟩
  have HD1 : Hid (Dr w w1 w.heap.size w.heap.size a bs cap) := hd1
  have hw1 := hd1.bel.size
  clear hd1
  go_wp2_with fail
  refine HD1.out.bent4.mono ?_
  rintro e w2 ⟨a2, c2, ss, rfl, hsd, hd2, ho2⟩
  have HF : Hid (SqD w2 w.heap.size (.slice a2 ss.length c2) ss ∧ Below w.heap.size w w2) := ⟨hsd.weak hw1, hd2.bel⟩
  clear hsd hd2 ho2 HD1
  go_wp2
  go_ret
  exact ⟨a2, c2, ss, rfl, HF.out⟩

theorem below_dX {B : Nat} {a b : World} (h : Below B a b) (n : Nat) : Below B a (b.drewN n) := ⟨h.os, h.tape, h.output, h.size, h.block⟩

set_option maxRecDepth 20000 in
set_option maxHeartbeats 8000000 in
theorem lawFnExecs_any (a : Option Addr) (cap : Nat) (bs : List Int) (w : World) (hb : Byt w a bs) (hm : bs.length ≤ maxLen) (hE : SentE w) (hD : SentB w) :
    Calls Tryz.prog 4 #[.slice a bs.length cap] w fun e w' => e = .returned (.bool true) ∧ Below w.heap.size w w' := by
  have HBL : Hid (∀ W, Below w.heap.size w W → Calls Tryz.prog 7 #[] W fun e w' => e = .returned (.bool true) ∧ Below W.heap.size W w') := fun W hW => blobs_any W (hE.below hW) (hD.below hW)
  clear hE hD
  go_enter Tryz.func4, Tryz.ntmps4
  go_wp2_with fail
  refine (drawExec_any a bs cap w hb hm).mono ?_
  rintro e w1 ⟨a1, c1, ss, rfl, hsd, hb1⟩
  have HB1 : Hid (Sqs w1 a1 ss ∧ Below w.heap.size w w1) := ⟨hsd.sqs, hb1⟩
  have hl1 : ss.length ≤ 281474976710656 := by have := hsd.few.1; omega
  have hl2 : ∀ s ∈ ss, s.ls.length ≤ 281474976710656 := fun s hs => by have := (hsd.few.2 s hs).1; omega
  have hl65 := hsd.few.1
  have HEX := implExec_any a1 c1 ss w1 HB1.out.1 hl1 hl2
  have HSB : Hid (∀ W, Sqs W a1 ss → Calls Tryz.prog 11 #[.slice a1 ss.length c1] W fun e w' => e = .returned (.int .i64 (sqz ss)) ∧ Below W.heap.size W w') := fun W h => implSeqBytes_any a1 c1 ss W h hl1 hl2
  have HOK : Hid (∀ W, Sqs W a1 ss → Calls Tryz.prog 9 #[.slice a1 ss.length c1] W fun e w' => e = .returned (.bool (sqn ss).isSome) ∧ Below W.heap.size W w') := fun W h => implSeqsOk_any a1 c1 ss W h hl1 hl2
  have HL2 : Hid (∀ s ∈ ss, s.ls.length ≤ 65) := fun s hs => (hsd.few.2 s hs).1
  clear hb hsd hb1 hl1 hl2
  go_wp2_with fail
  refine HEX.mono ?_
  clear HEX
  rintro e w2 ⟨⟨v, rfl, hov⟩, hb2⟩
  cases hsn : sqn ss with
  | none =>
    rw [hsn] at hov HOK
    rw [sqz_none hsn] at HSB
    simp only [Option.isSome_none, if_false, Bool.false_eq_true] at hov
    obtain ⟨a2, c2, rfl⟩ := hov.form
    simp only [Option.isSome_none, List.length_nil] at *
    have HB2 : Hid (Sqs w2 a1 ss ∧ Below w.heap.size w w2) := ⟨HB1.out.1.below hb2 (Nat.le_refl _), HB1.out.2.trans (hb2.mono HB1.out.2.size)⟩
    clear hov hb2 HB1
    have HC := HSB.out w2 HB2.out.1
    go_wp2_with fail
    refine HC.mono ?_
    clear HC HSB
    rintro e w3 ⟨rfl, hb3⟩
    have HB3 : Hid (Sqs w3 a1 ss ∧ Below w.heap.size w w3) := ⟨HB2.out.1.below hb3 (Nat.le_refl _), HB2.out.2.trans (hb3.mono HB2.out.2.size)⟩
    clear hb3 HB2
    have HC := HOK.out w3 HB3.out.1
    go_wp2_with fail
    refine HC.mono ?_
    clear HC HOK
    rintro e w4 ⟨rfl, hb4⟩
    have HB4 : Hid (Below w.heap.size w w4) := HB3.out.2.trans (hb4.mono HB3.out.2.size)
    clear hb4 HB3
    have HC := HBL.out w4 HB4.out
    go_wp2_with fail
    refine HC.mono ?_
    clear HC HBL
    rintro e w5 ⟨rfl, hb5⟩
    have HB5 : Hid (Below w.heap.size w w5) := HB4.out.trans (hb5.mono HB4.out.size)
    clear hb5 HB4
    go_wp2
    go_ret
    exact ⟨rfl, HB5.out⟩
  | some m =>
    rw [hsn] at hov
    rw [sqz_some hsn] at HSB
    simp only [Option.isSome_some, if_true] at hov
    have HP : Hid (∀ k, k < ss.length → ExP ss (exb ss ss.length) k) := fun k hk => exP hsn k hk
    obtain ⟨-, hm64, hlm, -⟩ := sqn_at hsn
    have H0 : Hid ((exb ss 0).length = 0) := rfl
    have HEND : Hid ((exb ss ss.length).length = m) := hlm
    clear hsn HOK
    generalize hbb : exb ss ss.length = bb at *
    have HBB : Hid ((exb ss ss.length).length = m) := by rw [hbb]; exact hlm
    clear hbb HEND
    obtain ⟨a2, c2, rfl⟩ := hov.form
    have hcap := hov.cap
    have HB2 : Hid (Sqs w2 a1 ss ∧ Byt w2 a2 bb ∧ Below w.heap.size w w2) := ⟨HB1.out.1.below hb2 (Nat.le_refl _), hov.byt, HB1.out.2.trans (hb2.mono HB1.out.2.size)⟩
    have HM : Hid (bb.length = m) := hlm
    have hc2 : bb.length ≤ c2 ∧ c2 ≤ 9223372036854775807 := ⟨hcap.1, by have := hcap.2.1; unfold maxLen at this; omega⟩
    clear hov hb2 HB1 hcap
    have HC := HSB.out w2 HB2.out.1
    go_wp2_with fail
    refine HC.mono ?_
    clear HC HSB
    rintro e w3 ⟨rfl, hb3⟩
    have HB3 : Hid (Sqs w3 a1 ss ∧ Byt w3 a2 bb ∧ Below w.heap.size w w3) := ⟨HB2.out.1.below hb3 (Nat.le_refl _), HB2.out.2.1.below hb3 (Nat.le_refl _), HB2.out.2.2.trans (hb3.mono HB2.out.2.2.size)⟩
    clear hb3 HB2
    rw [hlm] at hc2
    clear hlm
    generalize hlen : ss.length = n at *
    have HN : Hid (ss.length = n) := hlen
    clear hlen
    go_wp2
    go_loopw [7, 8] (fun kv iv wr => ∃ k x : Nat, k ≤ n ∧ kv = .int .i64 (exb ss k).length ∧ iv = .int .i64 k ∧ wr = w3.drewN x) (fun _ iv _ => n - (intOf iv).toNat)
    case atStart => exact ⟨0, 0, Nat.zero_le _, rfl, rfl, rfl⟩
    case round =>
      obtain ⟨k, x, hk, rfl, rfl, rfl⟩ := hrel
      by_cases hlt : k < n
      · obtain ⟨g, off, rfl, hgl, hly⟩ := HB3.out.1.len_pos k (by rw [HN.out]; exact hlt)
        obtain ⟨d0, d1, d2, hby⟩ := hly k (by rw [HN.out]; exact hlt)
        obtain ⟨p1, p2, p3, p4, p5, p6⟩ := HP.out k hlt
        have hsl := HL2.out _ (getD_memS (k := k) (by rw [HN.out]; exact hlt))
        generalize ss.getD k dq = s at *
        obtain ⟨sa, sc, sl, sn, sd⟩ := s
        simp only at d0 d1 d2 hby p1 p3 p4 p5 p6 hsl
        rw [HM.out] at p2
        obtain ⟨N, rfl⟩ := Int.eq_ofNat_of_zero_le p3
        rw [Int.toNat_natCast] at p1 p4 p6
        obtain ⟨b, o, rfl, hbl, hbc⟩ := HB3.out.2.1.2 (by rw [HM.out]; omega)
        have HX : Hid ((exb ss (k + 1)).length = (exb ss k).length + sl.length + N) := p1.symm
        have HPC : Hid _ := p6
        have HCB : Hid (∀ j, j < m → w3.cell? ⟨b, o + j, none⟩ = some (.int .u8 (bb.getD j 0))) := fun j hj => hbc j (by rw [HM.out]; exact hj)
        have hle : (exb ss k).length + sl.length + N ≤ m := by omega
        have hby0 : Byt w3 (some ⟨b, o + (exb ss k).length, none⟩) sl := by
          have h := HB3.out.2.1.cut (exb ss k).length ((exb ss k).length + sl.length) (by omega) (by rw [HM.out]; omega)
          rw [p5] at h
          exact h
        have HBY : Hid (Byt w3 (some ⟨b, o + (exb ss k).length, none⟩) sl ∧ Byt w3 sa sl) := ⟨hby0, hby⟩
        have hcK : ¬ c2 = (exb ss k).length := by omega
        clear p1 p2 p3 p4 p5 p6 hly hby hby0 hbc
        generalize (exb ss k).length = K at *
        obtain ⟨q, hq⟩ : ∃ q : Nat, q = K + sl.length := ⟨_, rfl⟩
        have hqI : (K : Int) + (sl.length : Int) = (q : Int) := by omega
        have hqm : (q : Int) ≤ (c2 : Int) := by omega
        have hKq : (K : Int) ≤ (q : Int) := by omega
        have hqw : IntKind.i64.wrap (q : Int) = q := IntWalk.i64_in _ (by omega)
        have HQ : Hid (q = K + sl.length) := hq
        clear hq
        go_wp2
        go_quiet ((go_at_call 10; exact (same_cut _ _ _ _ _ _ sl _ (HBY.out.1.drewN _) (HBY.out.2.drewN _) (by have := HQ.out; omega) rfl).mono fun e w'' h => ⟨h.1, _, h.2⟩))
        go_wp2
        go_loopw [7, 9] (fun kv jv wr => ∃ j t x : Nat, j ≤ N ∧ t = q + j ∧ kv = .int .i64 t ∧ jv = .int .i64 j ∧ wr = w3.drewN x) (fun _ jv _ => N - (intOf jv).toNat)
        case atStart => exact ⟨0, q, _, Nat.zero_le _, rfl, rfl, rfl, rfl⟩
        case round =>
          obtain ⟨j, t, y, hj, ht, rfl, rfl, rfl⟩ := hrel
          have HT : Hid (t = q + j) := ht
          clear ht
          by_cases hjn : j < N
          · obtain ⟨d, hd, e1, e2, e3⟩ := HPC.out j hjn
            obtain rfl : sd = (d : Int) := hd
            rw [← HQ.out] at e2 e3
            have ht := HT.out
            rw [← ht] at e2 e3
            obtain ⟨u, hu⟩ : ∃ u : Nat, u = t - d := ⟨_, rfl⟩
            rw [← hu] at e3
            have c0 := HCB.out t (by omega)
            have c1 := HCB.out u (by omega)
            rw [e3] at c0
            generalize bb.getD u 0 = z at *
            have g1 : (t : Int) - (d : Int) = (u : Int) := by omega
            have g2 : IntKind.i64.wrap (u : Int) = u := IntWalk.i64_in _ (by omega)
            have g3 : IntKind.i64.wrap (t : Int) = t := IntWalk.i64_in _ (by omega)
            have g4 : (z != z) = false := by simp
            have g5 : t < m := by omega
            have g6 : u < m := by omega
            have g7 : (t : Int) < (m : Int) := by omega
            have g8 : (u : Int) < (m : Int) := by omega
            clear hu e3 e2 ht
            go_wp2
            go_quiet (fail)
            go_wp2
            go_roundw
            case rel => exact ⟨j + 1, t + 1, _, by omega, by have := HT.out; omega, by go_num, by go_num, rfl⟩
            case measure => simp [intOf]; omega
          · have hjI : ¬ (j : Int) < (N : Int) := by omega
            go_wp2
            all_goals exact ⟨⟨k + 1, _, by omega, by rw [HX.out, ← HQ.out, HT.out, show j = N by omega], by go_num, rfl⟩, by simp [intOf]; omega⟩
      · have hkn : k = n := by omega
        subst hkn
        have hKm : (exb ss k).length = m := HBB.out
        rw [hKm]
        have HC := HBL.out (w3.drewN x) (below_dX HB3.out.2.2 x)
        have HB4 : Hid (Below w.heap.size w (w3.drewN x)) := below_dX HB3.out.2.2 x
        clear HB3 hKm
        generalize w3.drewN x = w4 at *
        go_wp2_with fail
        refine HC.mono ?_
        clear HC HBL
        rintro e w5 ⟨rfl, hb5⟩
        have HB5 : Hid (Below w.heap.size w w5) := HB4.out.trans (hb5.mono HB4.out.size)
        clear hb5 HB4
        go_wp2
        go_ret
        exact ⟨rfl, HB5.out⟩
end Go.Proofs.YtojnomdlkihgmaaGreatDoor
namespace Go.Proofs.YtojnomdlkihgmaaGreatDoor
open Go.ChangeShapes Go.WideShapes Go.ChangeAt Go.RowKit Go.Joins
set_option linter.unusedVariables false

theorem vars_nil {H : Type} (enc : TypeId × Value → H) {P : Program} {W : World} (sp : Nat → Bool) : DataW.TrodVars enc P W sp [] [] [] := rfl
theorem vars_consC {H : Type} (enc : TypeId × Value → H) {P : Program} {W : World} {n : String} {g : Nat} {t : TypeId} {ms : Array (String × TypeId)} {x : Value} {ns : List String} {ds : List (DataW H)} {ps : List MemPlace} {sp : Nat → Bool}
    (hg : P.globalNamed n = some g) (ht : (P.globals[g]?).map (·.type) = some t) (hi : P.underlying t = some (.interface ms)) (h : W.var? P n = some #[x]) (ix : IsIface x) (hr : DataW.TrodVars enc P W sp ns ds ps) :
    DataW.TrodVars enc P W sp (n :: ns) (tok enc x :: ds) (.cell g 0 :: ps) := ⟨g, t, #[x], 1, [], ps, hg, ht, h, trod_held hi ix 0, hr, rfl⟩
end Go.Proofs.YtojnomdlkihgmaaGreatDoor
namespace Go.Proofs.YtojnomdlkihgmaaGreatDoor.cardFnExecs
open Go.ChangeShapes Go.WideShapes Go.ChangeAt Go.RowKit Go.Joins
set_option linter.unusedVariables false

theorem g_errOver : Tryz.prog.globalNamed "loop.example/g00528/impl.errOver" = some 12 := by kernel_rfl
theorem t_errOver : (Tryz.prog.globals[12]?).map (·.type) = some 68 := by kernel_rfl
theorem g_errFull : Tryz.prog.globalNamed "loop.example/g00528/impl.errFull" = some 6 := by kernel_rfl
theorem t_errFull : (Tryz.prog.globals[6]?).map (·.type) = some 68 := by kernel_rfl
theorem g_errRange : Tryz.prog.globalNamed "loop.example/g00528/impl.errRange" = some 5 := by kernel_rfl
theorem t_errRange : (Tryz.prog.globals[5]?).map (·.type) = some 68 := by kernel_rfl
theorem g_errSyms : Tryz.prog.globalNamed "loop.example/g00528/impl.errSyms" = some 17 := by kernel_rfl
theorem t_errSyms : (Tryz.prog.globals[17]?).map (·.type) = some 68 := by kernel_rfl
theorem g_errLength : Tryz.prog.globalNamed "loop.example/g00528/impl.errLength" = some 18 := by kernel_rfl
theorem t_errLength : (Tryz.prog.globals[18]?).map (·.type) = some 68 := by kernel_rfl
theorem g_errNoCodes : Tryz.prog.globalNamed "loop.example/g00528/impl.errNoCodes" = some 7 := by kernel_rfl
theorem t_errNoCodes : (Tryz.prog.globals[7]?).map (·.type) = some 68 := by kernel_rfl
theorem g_errShares : Tryz.prog.globalNamed "loop.example/g00528/impl.errShares" = some 19 := by kernel_rfl
theorem t_errShares : (Tryz.prog.globals[19]?).map (·.type) = some 68 := by kernel_rfl
theorem g_errRun : Tryz.prog.globalNamed "loop.example/g00528/impl.errRun" = some 14 := by kernel_rfl
theorem t_errRun : (Tryz.prog.globals[14]?).map (·.type) = some 68 := by kernel_rfl
theorem g_errNoSymbol : Tryz.prog.globalNamed "loop.example/g00528/impl.errNoSymbol" = some 20 := by kernel_rfl
theorem t_errNoSymbol : (Tryz.prog.globals[20]?).map (·.type) = some 68 := by kernel_rfl
theorem g_errNoCode : Tryz.prog.globalNamed "loop.example/g00528/impl.errNoCode" = some 11 := by kernel_rfl
theorem t_errNoCode : (Tryz.prog.globals[11]?).map (·.type) = some 68 := by kernel_rfl
theorem g_errShare : Tryz.prog.globalNamed "loop.example/g00528/impl.errShare" = some 8 := by kernel_rfl
theorem t_errShare : (Tryz.prog.globals[8]?).map (·.type) = some 68 := by kernel_rfl
theorem g_errNoShare : Tryz.prog.globalNamed "loop.example/g00528/impl.errNoShare" = some 13 := by kernel_rfl
theorem t_errNoShare : (Tryz.prog.globals[13]?).map (·.type) = some 68 := by kernel_rfl
theorem g_errOtherText : Tryz.prog.globalNamed "loop.example/g00528/impl.errOtherText" = some 15 := by kernel_rfl
theorem t_errOtherText : (Tryz.prog.globals[15]?).map (·.type) = some 68 := by kernel_rfl
theorem g_errBlobSize : Tryz.prog.globalNamed "loop.example/g00528/impl.errBlobSize" = some 0 := by kernel_rfl
theorem t_errBlobSize : (Tryz.prog.globals[0]?).map (·.type) = some 68 := by kernel_rfl
theorem g_errBlockSize : Tryz.prog.globalNamed "loop.example/g00528/impl.errBlockSize" = some 2 := by kernel_rfl
theorem t_errBlockSize : (Tryz.prog.globals[2]?).map (·.type) = some 68 := by kernel_rfl
theorem g_errMode : Tryz.prog.globalNamed "loop.example/g00528/impl.errMode" = some 1 := by kernel_rfl
theorem t_errMode : (Tryz.prog.globals[1]?).map (·.type) = some 68 := by kernel_rfl
theorem g_errUnsealed : Tryz.prog.globalNamed "loop.example/g00528/impl.errUnsealed" = some 3 := by kernel_rfl
theorem t_errUnsealed : (Tryz.prog.globals[3]?).map (·.type) = some 68 := by kernel_rfl
theorem g_errPiece : Tryz.prog.globalNamed "loop.example/g00528/impl.errPiece" = some 16 := by kernel_rfl
theorem t_errPiece : (Tryz.prog.globals[16]?).map (·.type) = some 68 := by kernel_rfl
theorem g_errLeft : Tryz.prog.globalNamed "loop.example/g00528/impl.errLeft" = some 10 := by kernel_rfl
theorem t_errLeft : (Tryz.prog.globals[10]?).map (·.type) = some 68 := by kernel_rfl
theorem g_errSeqs : Tryz.prog.globalNamed "loop.example/g00528/impl.errSeqs" = some 4 := by kernel_rfl
theorem t_errSeqs : (Tryz.prog.globals[4]?).map (·.type) = some 68 := by kernel_rfl
theorem door_met (os : Os) (args : Array Value) : laidMetH Tryz.prog Rows.fnExecsRow.laid ((World.doorLaid Tryz.prog 389 os).forCall (fun _ _ => 0) ⟨#[], args, []⟩).memory :=
  laidMetH_of_parts3 (fuel := 8) (laidMet_of_run' 8 (by kernel_rfl) (by kernel_rfl)) (by kernel_rfl) (by kernel_rfl)

set_option maxRecDepth 100000 in
theorem lifted (os : Os) (started : os.Started) (H : Type) (enc : TypeId × Value → H) :
    ReturnsInHanded {} Tryz.checked os 4 .any (fun w args => (Rows.fnExecsSpec.pre enc Tryz.prog Tryz.f4 [] false w args ∧ laidMetH Tryz.prog Rows.fnExecsRow.laid w) ∧ sizedMet enc Tryz.prog Tryz.f4 (OpenSpec.ofChange Rows.fnExecsSpec) false w args)
      (Rows.fnExecsSpec.post enc Tryz.prog Tryz.f4 false true false false) := by
  refine returnsInHanded_of_change_and (C := Tryz.checked) (X := fun w _ => laidMetH Tryz.prog Rows.fnExecsRow.laid w) (fun _ _ _ hh h => h.of_heap hh) Tryz.own started (by kernel_rfl) Tryz.func4
    (ChangeSpec.witness_shaped (enc := enc) (C := Tryz.checked) (os := os) (X := fun w _ => laidMetH Tryz.prog Rows.fnExecsRow.laid w) false (World.doorLaid Tryz.prog 389 os) #[.slice .none 0 0] 8 rfl (World.shaped_of_RefB (by kernel_rfl) (by kernel_rfl)) (by kernel_rfl) (by kernel_rfl) (by kernel_rfl) (door_met os _)) ?_
  intro W base args ds gs before hval0 hW _ _ hL _
  have hval : ∀ (j : Nat) t v, Tryz.f4.params[j]? = some t → args[j]? = some v → Value.okWide Tryz.prog W .any base t v := hval0
  have hW' := hW
  obtain ⟨p, q, hA0, hV0, rfl, hfz, hnd⟩ := hW
  have hA : DataW.TrodAll enc Tryz.prog W 0 (fun _ => true) true Tryz.f4.params.toList args.toList ds p := hA0
  have hV : DataW.TrodVars enc Tryz.prog W (fun _ => true) ["loop.example/g00528/impl.errRange", "loop.example/g00528/impl.errFull", "loop.example/g00528/impl.errNoCodes", "loop.example/g00528/impl.errNoCode", "loop.example/g00528/impl.errOver", "loop.example/g00528/impl.errShare", "loop.example/g00528/impl.errNoShare", "loop.example/g00528/impl.errBlobSize", "loop.example/g00528/impl.errMode", "loop.example/g00528/impl.errBlockSize", "loop.example/g00528/impl.errUnsealed", "loop.example/g00528/impl.errSeqs", "loop.example/g00528/impl.errRun", "loop.example/g00528/impl.errSyms", "loop.example/g00528/impl.errLength", "loop.example/g00528/impl.errShares", "loop.example/g00528/impl.errNoSymbol", "loop.example/g00528/impl.errOtherText", "loop.example/g00528/impl.errLeft", "loop.example/g00528/impl.errPiece"] gs q := hV0
  rw [Tryz.params4] at hA hval
  obtain ⟨v0, vs0, d0, ds0, p0, q0, hargs, rfl, rfl, h0, r0⟩ := trodAll_cons hA
  obtain ⟨rfl, rfl, rfl⟩ := trodAll_nil r0
  obtain rfl : args = #[v0] := by cases args; simp_all
  have k0 := h0
  have lt0 : ∀ x ∈ p0, x.block < W.heap.size := by obtain ⟨m, hm⟩ := k0; exact DataW.trod_lt m _ _ _ hm
  obtain ⟨sa0, sl0, sc0, rfl⟩ := okWide_slice Tryz.underlying22 (hval 0 22 v0 rfl rfl)
  obtain ⟨fuel0, hf0⟩ := h0
  obtain ⟨a0, zs0, cap0, hv0, hb0, hm0⟩ := byt_of_trod (v := .slice sa0 sl0 sc0) (by simpa [Value.cells] using hf0)
  rw [hv0] at hW' k0 ⊢
  rw [MakeChecks.laidMetH_plain _ _ _ (by kernel_rfl)] at hL
  obtain ⟨s_errOver, hv_errOver, hc_errOver⟩ := sentinel hL g_errOver t_errOver
  have hG_errOver : 12 < W.heap.size := World.block_lt_of_cell? _ _ hc_errOver
  obtain ⟨s_errFull, hv_errFull, hc_errFull⟩ := sentinel hL.tail g_errFull t_errFull
  have hG_errFull : 6 < W.heap.size := World.block_lt_of_cell? _ _ hc_errFull
  obtain ⟨s_errRange, hv_errRange, hc_errRange⟩ := sentinel hL.tail.tail g_errRange t_errRange
  have hG_errRange : 5 < W.heap.size := World.block_lt_of_cell? _ _ hc_errRange
  obtain ⟨s_errSyms, hv_errSyms, hc_errSyms⟩ := sentinel hL.tail.tail.tail g_errSyms t_errSyms
  have hG_errSyms : 17 < W.heap.size := World.block_lt_of_cell? _ _ hc_errSyms
  obtain ⟨s_errLength, hv_errLength, hc_errLength⟩ := sentinel hL.tail.tail.tail.tail g_errLength t_errLength
  have hG_errLength : 18 < W.heap.size := World.block_lt_of_cell? _ _ hc_errLength
  obtain ⟨s_errNoCodes, hv_errNoCodes, hc_errNoCodes⟩ := sentinel hL.tail.tail.tail.tail.tail g_errNoCodes t_errNoCodes
  have hG_errNoCodes : 7 < W.heap.size := World.block_lt_of_cell? _ _ hc_errNoCodes
  obtain ⟨s_errShares, hv_errShares, hc_errShares⟩ := sentinel hL.tail.tail.tail.tail.tail.tail g_errShares t_errShares
  have hG_errShares : 19 < W.heap.size := World.block_lt_of_cell? _ _ hc_errShares
  obtain ⟨s_errRun, hv_errRun, hc_errRun⟩ := sentinel hL.tail.tail.tail.tail.tail.tail.tail g_errRun t_errRun
  have hG_errRun : 14 < W.heap.size := World.block_lt_of_cell? _ _ hc_errRun
  obtain ⟨s_errNoSymbol, hv_errNoSymbol, hc_errNoSymbol⟩ := sentinel hL.tail.tail.tail.tail.tail.tail.tail.tail g_errNoSymbol t_errNoSymbol
  have hG_errNoSymbol : 20 < W.heap.size := World.block_lt_of_cell? _ _ hc_errNoSymbol
  obtain ⟨s_errNoCode, hv_errNoCode, hc_errNoCode⟩ := sentinel hL.tail.tail.tail.tail.tail.tail.tail.tail.tail g_errNoCode t_errNoCode
  have hG_errNoCode : 11 < W.heap.size := World.block_lt_of_cell? _ _ hc_errNoCode
  obtain ⟨s_errShare, hv_errShare, hc_errShare⟩ := sentinel hL.tail.tail.tail.tail.tail.tail.tail.tail.tail.tail g_errShare t_errShare
  have hG_errShare : 8 < W.heap.size := World.block_lt_of_cell? _ _ hc_errShare
  obtain ⟨s_errNoShare, hv_errNoShare, hc_errNoShare⟩ := sentinel hL.tail.tail.tail.tail.tail.tail.tail.tail.tail.tail.tail g_errNoShare t_errNoShare
  have hG_errNoShare : 13 < W.heap.size := World.block_lt_of_cell? _ _ hc_errNoShare
  obtain ⟨s_errOtherText, hv_errOtherText, hc_errOtherText⟩ := sentinel hL.tail.tail.tail.tail.tail.tail.tail.tail.tail.tail.tail.tail g_errOtherText t_errOtherText
  have hG_errOtherText : 15 < W.heap.size := World.block_lt_of_cell? _ _ hc_errOtherText
  obtain ⟨s_errBlobSize, hv_errBlobSize, hc_errBlobSize⟩ := sentinel hL.tail.tail.tail.tail.tail.tail.tail.tail.tail.tail.tail.tail.tail g_errBlobSize t_errBlobSize
  have hG_errBlobSize : 0 < W.heap.size := World.block_lt_of_cell? _ _ hc_errBlobSize
  obtain ⟨s_errBlockSize, hv_errBlockSize, hc_errBlockSize⟩ := sentinel hL.tail.tail.tail.tail.tail.tail.tail.tail.tail.tail.tail.tail.tail.tail g_errBlockSize t_errBlockSize
  have hG_errBlockSize : 2 < W.heap.size := World.block_lt_of_cell? _ _ hc_errBlockSize
  obtain ⟨s_errMode, hv_errMode, hc_errMode⟩ := sentinel hL.tail.tail.tail.tail.tail.tail.tail.tail.tail.tail.tail.tail.tail.tail.tail g_errMode t_errMode
  have hG_errMode : 1 < W.heap.size := World.block_lt_of_cell? _ _ hc_errMode
  obtain ⟨s_errUnsealed, hv_errUnsealed, hc_errUnsealed⟩ := sentinel hL.tail.tail.tail.tail.tail.tail.tail.tail.tail.tail.tail.tail.tail.tail.tail.tail g_errUnsealed t_errUnsealed
  have hG_errUnsealed : 3 < W.heap.size := World.block_lt_of_cell? _ _ hc_errUnsealed
  obtain ⟨s_errPiece, hv_errPiece, hc_errPiece⟩ := sentinel hL.tail.tail.tail.tail.tail.tail.tail.tail.tail.tail.tail.tail.tail.tail.tail.tail.tail g_errPiece t_errPiece
  have hG_errPiece : 16 < W.heap.size := World.block_lt_of_cell? _ _ hc_errPiece
  obtain ⟨s_errLeft, hv_errLeft, hc_errLeft⟩ := sentinel hL.tail.tail.tail.tail.tail.tail.tail.tail.tail.tail.tail.tail.tail.tail.tail.tail.tail.tail g_errLeft t_errLeft
  have hG_errLeft : 10 < W.heap.size := World.block_lt_of_cell? _ _ hc_errLeft
  obtain ⟨s_errSeqs, hv_errSeqs, hc_errSeqs⟩ := sentinel hL.tail.tail.tail.tail.tail.tail.tail.tail.tail.tail.tail.tail.tail.tail.tail.tail.tail.tail.tail g_errSeqs t_errSeqs
  have hG_errSeqs : 4 < W.heap.size := World.block_lt_of_cell? _ _ hc_errSeqs
  have read : ∀ (W' : World) (sp : Nat → Bool), Below W.heap.size W W' → DataW.TrodVars enc Tryz.prog W' sp ["loop.example/g00528/impl.errRange", "loop.example/g00528/impl.errFull", "loop.example/g00528/impl.errNoCodes", "loop.example/g00528/impl.errNoCode", "loop.example/g00528/impl.errOver", "loop.example/g00528/impl.errShare", "loop.example/g00528/impl.errNoShare", "loop.example/g00528/impl.errBlobSize", "loop.example/g00528/impl.errMode", "loop.example/g00528/impl.errBlockSize", "loop.example/g00528/impl.errUnsealed", "loop.example/g00528/impl.errSeqs", "loop.example/g00528/impl.errRun", "loop.example/g00528/impl.errSyms", "loop.example/g00528/impl.errLength", "loop.example/g00528/impl.errShares", "loop.example/g00528/impl.errNoSymbol", "loop.example/g00528/impl.errOtherText", "loop.example/g00528/impl.errLeft", "loop.example/g00528/impl.errPiece"] _ _ := fun W' sp bel =>
    vars_consC enc g_errRange t_errRange Tryz.underlying68 (var?_below bel g_errRange hG_errRange hv_errRange) trivial (vars_consC enc g_errFull t_errFull Tryz.underlying68 (var?_below bel g_errFull hG_errFull hv_errFull) trivial (vars_consC enc g_errNoCodes t_errNoCodes Tryz.underlying68 (var?_below bel g_errNoCodes hG_errNoCodes hv_errNoCodes) trivial (vars_consC enc g_errNoCode t_errNoCode Tryz.underlying68 (var?_below bel g_errNoCode hG_errNoCode hv_errNoCode) trivial (vars_consC enc g_errOver t_errOver Tryz.underlying68 (var?_below bel g_errOver hG_errOver hv_errOver) trivial (vars_consC enc g_errShare t_errShare Tryz.underlying68 (var?_below bel g_errShare hG_errShare hv_errShare) trivial (vars_consC enc g_errNoShare t_errNoShare Tryz.underlying68 (var?_below bel g_errNoShare hG_errNoShare hv_errNoShare) trivial (vars_consC enc g_errBlobSize t_errBlobSize Tryz.underlying68 (var?_below bel g_errBlobSize hG_errBlobSize hv_errBlobSize) trivial (vars_consC enc g_errMode t_errMode Tryz.underlying68 (var?_below bel g_errMode hG_errMode hv_errMode) trivial (vars_consC enc g_errBlockSize t_errBlockSize Tryz.underlying68 (var?_below bel g_errBlockSize hG_errBlockSize hv_errBlockSize) trivial (vars_consC enc g_errUnsealed t_errUnsealed Tryz.underlying68 (var?_below bel g_errUnsealed hG_errUnsealed hv_errUnsealed) trivial (vars_consC enc g_errSeqs t_errSeqs Tryz.underlying68 (var?_below bel g_errSeqs hG_errSeqs hv_errSeqs) trivial (vars_consC enc g_errRun t_errRun Tryz.underlying68 (var?_below bel g_errRun hG_errRun hv_errRun) trivial (vars_consC enc g_errSyms t_errSyms Tryz.underlying68 (var?_below bel g_errSyms hG_errSyms hv_errSyms) trivial (vars_consC enc g_errLength t_errLength Tryz.underlying68 (var?_below bel g_errLength hG_errLength hv_errLength) trivial (vars_consC enc g_errShares t_errShares Tryz.underlying68 (var?_below bel g_errShares hG_errShares hv_errShares) trivial (vars_consC enc g_errNoSymbol t_errNoSymbol Tryz.underlying68 (var?_below bel g_errNoSymbol hG_errNoSymbol hv_errNoSymbol) trivial (vars_consC enc g_errOtherText t_errOtherText Tryz.underlying68 (var?_below bel g_errOtherText hG_errOtherText hv_errOtherText) trivial (vars_consC enc g_errLeft t_errLeft Tryz.underlying68 (var?_below bel g_errLeft hG_errLeft hv_errLeft) trivial (vars_consC enc g_errPiece t_errPiece Tryz.underlying68 (var?_below bel g_errPiece hG_errPiece hv_errPiece) trivial (vars_nil enc _))))))))))))))))))))
  obtain ⟨rfl, rfl⟩ := hV.unique (read W _ (Below.refl _ _))
  clear hA0 hV0 hval0
  refine (lawFnExecs_any a0 cap0 zs0 W hb0 hm0 (SentE.mk (SentC.mk ⟨_, _, hc_errNoCode⟩ hG_errNoCode) ⟨_, _, hc_errNoShare⟩ ⟨_, hc_errOver⟩ ⟨hG_errNoShare, hG_errOver⟩) (SentB.mk (SentD.mk (SentT.mk ⟨_, hc_errOver⟩ ⟨_, _, hc_errFull⟩ ⟨hG_errOver, hG_errFull⟩) (SentF.mk ⟨_, _, hc_errRange⟩ ⟨_, _, hc_errOver⟩ ⟨_, _, hc_errOtherText⟩ ⟨hG_errRange, hG_errOver, hG_errOtherText⟩) ⟨_, _, hc_errRun⟩ ⟨_, _, hc_errNoSymbol⟩ ⟨_, _, hc_errShare⟩ ⟨_, _, hc_errPiece⟩ ⟨_, _, hc_errLeft⟩ ⟨_, _, hc_errSeqs⟩ ⟨⟨_, _, hc_errSyms⟩, ⟨_, _, hc_errLength⟩, ⟨_, _, hc_errNoCodes⟩, ⟨_, _, hc_errShares⟩⟩ ⟨hG_errRun, hG_errNoSymbol, hG_errShare, hG_errPiece, hG_errLeft, hG_errSeqs⟩) ⟨_, _, hc_errUnsealed⟩ ⟨_, _, hc_errMode⟩ ⟨_, _, hc_errBlockSize⟩ ⟨_, _, hc_errBlobSize⟩ ⟨hG_errUnsealed, hG_errMode, hG_errBlockSize, hG_errBlobSize⟩)).mono fun e W' ⟨he, bel⟩ => ?_
  subst he
  exact ⟨_, rfl, _, _, _, [], _, _, hW', trodAll_mk1 (shut_bool Tryz.underlying4 _),
    (trodAll_cons_mk (Below.trod Tryz.laidOut (by kernel_rfl) (of_decide_eq_true (by kernel_rfl)) k0 bel lt0) trodAll_mk0),
    read W' _ bel, bel.frame _, fun h => by cases h⟩

theorem said : Rows.FnExecsSaid :=
  OpenClaim.holds_of_wide 4 Tryz.f4 rfl rfl rfl rfl rfl rfl rfl ⟨rfl, rfl, rfl, rfl, rfl⟩ rfl rfl rfl rfl rfl (by kernel_rfl) Tryz.func4 (by kernel_rfl)
    (of_decide_eq_true (by kernel_rfl)) (by unfold Func.isWrapper; first | (rw [if_pos (by decide +kernel)]; kernel_rfl) | (rw [if_neg (by decide +kernel)]; exact ⟨rfl, rfl⟩))
    (fun os started H enc _ => lifted os started H enc)

theorem plain (f : FuncId) (fn : Func) (hf : Tryz.pinned.checked.prog.funcNamed "loop.example/g00528/laws.FnExecs" = some f) (hfn : Tryz.pinned.checked.prog.funcs[f]? = some fn) :
    true = Tryz.pinned.checked.prog.looks [] ∧ ∀ (j : Nat) t, fn.params[j]? = some t → Tryz.pinned.checked.prog.wantsStandIn t = false := by
  obtain rfl : f = 4 := Option.some.inj ((show Tryz.prog.funcNamed "loop.example/g00528/laws.FnExecs" = some 4 by kernel_rfl).symm.trans hf) |>.symm
  obtain rfl : fn = Tryz.f4 := (Option.some.inj (Tryz.func4.symm.trans hfn)).symm
  refine ⟨by kernel_rfl, fun j t ht => ?_⟩
  rw [Tryz.params4] at ht
  have hmem := Array.mem_of_getElem? ht
  have h' : t = 22 := by simpa using hmem
  rcases h' with rfl
  · exact (show Tryz.prog.wantsStandIn 22 = false by kernel_rfl)

end cardFnExecs

theorem fnExecs_card : Rows.FnExecsCardSaid :=
  Claim7.holds_tied_plain_at .later [] _ _ _ _ cardFnExecs.said (fun _ h => by cases h) (by kernel_rfl) (fun _ h => by cases h) fnExecs_row_tie rfl ⟨rfl, rfl⟩ (by kernel_rfl) rfl cardFnExecs.plain (by kernel_rfl)
#print axioms fnExecs_card
end Go.Proofs.YtojnomdlkihgmaaGreatDoor
