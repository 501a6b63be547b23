/-
  The law on RawRead returns true, whatever is handed in, and writes nothing that was there.
-/
import Derived.Test.YtajhaoclkomjnaaRwRdI
import Derived.Test.YtajhaoclkomjnaaLawRawOk
import Derived.Test.YtajhaoclkomjnaaElM3
import Derived.Test.YtajhaoclkomjnaaSnapR
namespace Go.Proofs.Ytajhaoclkomjnaa
open Go.RowKit
set_option linter.unusedVariables false

/-- What the law carries along: its argument, the model's answer, the program's argument and its variable, the program's answer. -/
structure StB (w W : World) (px py : Value) (U : Nat) (aw : Option Addr) (cw : Nat) (ys : List Int) (T : Nat) (tv qv : Value) (ts qs : List El) (X : Nat) (ag : Option Addr) (cg : Nat) (zs : List Int) : Prop where
  arg : Arg w W px py
  hU : w.heap.size < U
  sn : SnapR w W U aw cw ys X ag cg zs
  rx : RawO W U tv qv ts qs
  ix : ∀ k, blkR tv qv ts qs k → k < T
  bx : Box2 W T tv qv
  hT : T < X
section
variable {w W W' : World} {px py : Value} {U : Nat} {aw : Option Addr} {cw : Nat} {ys : List Int} {T : Nat} {tv qv : Value} {ts qs : List El} {X : Nat} {ag : Option Addr} {cg : Nat} {zs : List Int}
theorem StB.step (h : StB w W px py U aw cw ys T tv qv ts qs X ag cg zs) (hb : Below W.heap.size W W') : StB w W' px py U aw cw ys T tv qv ts qs X ag cg zs :=
  ⟨h.arg.step hb, h.hU, h.sn.step hb, h.rx.below hb, h.ix, h.bx.keep hb h.bx.lt, h.hT⟩
theorem StB.markX (h : StB w W px py U aw cw ys T tv qv ts qs X ag cg zs) (ho : Only (blkR tv qv ts qs) W W') : Arg w W' px py ∧ SnapR w W' U aw cw ys X ag cg zs := by
  have h1 := h.hU; have h2 := h.hT
  have hin : ∀ k, blkR tv qv ts qs k → U ≤ k ∧ k < X := fun k hk => ⟨(h.rx.inside k hk).1, Nat.lt_trans (h.ix k hk) h2⟩
  exact ⟨h.arg.only ho (fun k hk => by have := hin k hk; omega), h.sn.other ho hin⟩
end

set_option maxHeartbeats 8000000 in
theorem lawRawRead_any (sa pa : Option Addr) (sc pc : Nat) (ss ps : List El) (x : Int) (w : World) (hb : RawI w sa pa ss ps) (hm1 : ss.length ≤ maxLen) (hm2 : ps.length ≤ maxLen) :
    Calls Try.prog 5 #[.agg #[.slice sa ss.length sc, .slice pa ps.length pc], .int .i64 x] w fun e w' => e = .returned (.bool true) ∧ Below w.heap.size w w' := by
  have HB : Hid (RawI w sa pa ss ps) := hb
  have HM : Hid (ss.length ≤ maxLen ∧ ps.length ≤ maxLen) := ⟨hm1, hm2⟩
  clear hb hm1 hm2
  go_enter Try.func5, Try.ntmps5
  have A0 : Hid (Arg w (w.alloc (Obj.cells #[Value.slice sa ss.length sc, Value.slice pa ps.length pc] 25)) (.slice sa ss.length sc) (.slice pa ps.length pc)) := Arg.new _ _ _ _
  go_wp2_with fail
  refine (szRaw_any sa pa sc pc ss ps _ (HB.out.below A0.out.bel (Nat.le_refl _)) HM.out.1 HM.out.2).mono ?_
  rintro e w1 ⟨⟨z, rfl, hz⟩, hb1⟩
  have A1 : Hid (Arg w w1 (.slice sa ss.length sc) (.slice pa ps.length pc)) := A0.out.step hb1
  clear hb1 A0
  obtain ⟨-, x0, x1, -, -, xl⟩ := A1.out
  rcases hz with rfl | ⟨hz0, hfew⟩
  · go_wp2
    go_ret
    exact ⟨rfl, A1.out.bel⟩
  · have HF : Hid (Few ss ps) := hfew
    clear hfew
    -- what both answer
    obtain ⟨ys, ok, hys, hok, hyl⟩ : ∃ ys ok, ys = rdL ss ps x ∧ ok = rdB ss ps x ∧ ys.length ≤ 256 := by
      refine ⟨_, _, rfl, rfl, ?_⟩
      unfold rdL
      split
      · rename_i h
        unfold rdB at h
        simp only [Bool.and_eq_true, decide_eq_true_eq] at h
        obtain ⟨n, rfl⟩ := Int.eq_ofNat_of_zero_le h.2.1
        rw [rdE_len (rok_ok h.1) (by omega)]
        omega
      · simp
    have HSPEC : Hid (∀ (W : World) (ta qa : Option Addr) (tc qc : Nat) (ts qs : List El), RawI W ta qa ts qs → ts.map El.ct = ss.map El.ct → qs.map El.ct = ps.map El.ct → Calls Try.prog 18 #[.agg #[.slice ta ss.length tc, .slice qa ps.length qc], .int .i64 x] W fun e W' => ∃ aw cw, e = .returned (.tuple #[.slice aw ys.length cw, .bool ok]) ∧ Mine W' W.heap.size W'.heap.size aw cw ys ∧ Below W.heap.size W W') := by
      intro W ta qa tc qc ts qs hq h1 h2
      have hf := (HF.out.ct h1 h2).big
      have h3 := specRawRead_any ta qa tc qc ts qs x W hq hf.1 hf.2.1 hf.2.2.1 hf.2.2.2
      rw [len_ctE h1, len_ctE h2, (rd_ct h1 h2 x).1, (rd_ct h1 h2 x).2, ← hys, ← hok] at h3
      refine h3.mono ?_
      rintro e W' ⟨⟨v, rfl, hov⟩, hbb⟩
      obtain ⟨aw, cw, rfl, hmm⟩ := hov.mine
      exact ⟨aw, cw, rfl, hmm, hbb⟩
    have HIMPL : Hid (∀ (W : World) (ta qa : Option Addr) (tc qc : Nat) (ts qs : List El), RawI W ta qa ts qs → ts.map El.ct = ss.map El.ct → qs.map El.ct = ps.map El.ct → Calls Try.prog 19 #[.agg #[.slice ta ss.length tc, .slice qa ps.length qc], .int .i64 x] W fun e W' => ∃ aw cw, e = .returned (.tuple #[.slice aw ys.length cw, .bool ok]) ∧ Mine W' W.heap.size W'.heap.size aw cw ys ∧ Below W.heap.size W W') := by
      intro W ta qa tc qc ts qs hq h1 h2
      have hf := (HF.out.ct h1 h2).big
      have h3 := implRawRead_any ta qa tc qc ts qs x W hq hf.1 hf.2.1 hf.2.2.1 hf.2.2.2
      rw [len_ctE h1, len_ctE h2, (rd_ct h1 h2 x).1, (rd_ct h1 h2 x).2, ← hys, ← hok] at h3
      refine h3.mono ?_
      rintro e W' ⟨⟨v, rfl, hov⟩, hbb⟩
      obtain ⟨aw, cw, rfl, hmm⟩ := hov.mine
      exact ⟨aw, cw, rfl, hmm, hbb⟩
    clear hys hok
    go_wp2_with fail
    refine (toRaw_few sa pa sc pc ss ps w1 (HB.out.below A1.out.bel (Nat.le_refl _)) HF.out).mono ?_
    rintro e w2 ⟨⟨ta, tc, qa, qc, ts, qs, rfl, hct, hr2⟩, hb2⟩
    have A2 : Hid (Arg w w2 (.slice sa ss.length sc) (.slice pa ps.length pc)) := A1.out.step hb2
    have HSP := HSPEC.out w2 ta qa tc qc ts qs hr2.inn hct.1 hct.2
    clear hb2 hr2 hct A1 x0 x1 xl
    clear ts qs
    go_wp2_with fail
    refine HSP.mono ?_
    clear HSP
    rintro e w3 ⟨aw, cw, rfl, hmw, hb3⟩
    have A3 : Hid (Arg w w3 (.slice sa ss.length sc) (.slice pa ps.length pc)) := A2.out.step hb3
    have HMW : Hid (Mine w3 w.heap.size w3.heap.size aw cw ys ∧ w.heap.size < w3.heap.size) := ⟨hmw.mono A2.out.bel.size (Nat.le_refl _), A3.out.box.lt⟩
    clear hb3 A2 hmw
    obtain ⟨-, x0, x1, -, -, xl⟩ := A3.out
    go_wp2_with fail
    refine (toRaw_few sa pa sc pc ss ps w3 (HB.out.below A3.out.bel (Nat.le_refl _)) HF.out).mono ?_
    rintro e w4 ⟨⟨ta, tc, qa, qc, ts, qs, rfl, hct, hr4⟩, hb4⟩
    have A4 : Hid (Arg w w4 (.slice sa ss.length sc) (.slice pa ps.length pc)) := A3.out.step hb4
    have HCT : Hid (ts.map El.ct = ss.map El.ct ∧ qs.map El.ct = ps.map El.ct) := hct
    have hba : Below w4.heap.size w4 (w4.alloc (Obj.cells #[Value.slice ta ss.length tc, Value.slice qa ps.length qc] 30)) := (Below.refl _ _).alloc (Nat.le_refl _) _
    have A5 : Hid (Arg w (w4.alloc (Obj.cells #[Value.slice ta ss.length tc, Value.slice qa ps.length qc] 30)) (.slice sa ss.length sc) (.slice pa ps.length pc)) := A4.out.alloc _
    have X5 : Hid (Box2 (w4.alloc (Obj.cells #[Value.slice ta ss.length tc, Value.slice qa ps.length qc] 30)) w4.heap.size (.slice ta ss.length tc) (.slice qa ps.length qc)) := Box2.new _ _ _ _
    have HR5 : Hid (RawO (w4.alloc (Obj.cells #[Value.slice ta ss.length tc, Value.slice qa ps.length qc] 30)) w3.heap.size (.slice ta ss.length tc) (.slice qa ps.length qc) ts qs ∧ (∀ k, blkR (.slice ta ss.length tc) (.slice qa ps.length qc) ts qs k → k < w4.heap.size) ∧ w3.heap.size ≤ w4.heap.size ∧ Mine (w4.alloc (Obj.cells #[Value.slice ta ss.length tc, Value.slice qa ps.length qc] 30)) w.heap.size w3.heap.size aw cw ys ∧ (w4.alloc (Obj.cells #[Value.slice ta ss.length tc, Value.slice qa ps.length qc] 30)).heap.size = w4.heap.size + 1) := ⟨hr4.below hba, fun k hk => (hr4.inside k hk).2, hb4.size, (HMW.out.1.below hb4).below hba, by simp⟩
    have HIM := HIMPL.out _ ta qa tc qc ts qs HR5.out.1.inn HCT.out.1 HCT.out.2
    clear hb4 hr4 hct A3 A4 x0 x1 xl hba
    go_wp2_with fail
    generalize w4.alloc (Obj.cells #[Value.slice ta ss.length tc, Value.slice qa ps.length qc] 30) = W5 at *
    refine HIM.mono ?_
    clear HIM
    rintro e w6 ⟨ag, cg, rfl, hmg, hb6⟩
    have HS6 : Hid (StB w w6 (.slice sa ss.length sc) (.slice pa ps.length pc) w3.heap.size aw cw ys w4.heap.size (.slice ta ss.length tc) (.slice qa ps.length qc) ts qs W5.heap.size ag cg ys) :=
      ⟨A5.out.step hb6, HMW.out.2, ⟨(A5.out.step hb6).bel, Nat.le_of_lt HMW.out.2, by have := HR5.out.2.2.1; have := HR5.out.2.2.2.2; omega, hb6.size, HR5.out.2.2.2.1.below hb6, hmg⟩, HR5.out.1.below hb6, HR5.out.2.1, X5.out.keep hb6 X5.out.lt, by have := HR5.out.2.2.2.2; omega⟩
    have HUL : Hid (w.heap.size < w3.heap.size) := HMW.out.2
    clear hb6 hmg A5 X5 HR5 HMW
    generalize w3.heap.size = U at *
    generalize w4.heap.size = T at *
    generalize W5.heap.size = X at *
    have hOO : (ok != ok) = false := by simp
    go_wp2_with fail
    refine (eqByteS_yes ag aw cg cw ys _ HS6.out.sn.mg.byt HS6.out.sn.mw.byt (by omega)).mono ?_
    rintro e w7 ⟨rfl, n7, rfl⟩
    have HS7 : Hid _ := HS6.out.step (below_dR w6 n7)
    clear HS6
    generalize w6.drewN n7 = w7 at *
    go_wp2_with fail
    go_region_held3 (fun W => W.cell? ⟨T, 0, none⟩ = some (.slice ta ss.length tc) ∧ W.cell? ⟨T, 1, none⟩ = some (.slice qa ps.length qc) ∧ W.cell? ⟨w.heap.size, 0, none⟩ = some (.slice sa ss.length sc) ∧ W.cell? ⟨w.heap.size, 1, none⟩ = some (.slice pa ps.length pc))
      (first | exact ⟨HS7.out.bx.c0, HS7.out.bx.c1, HS7.out.arg.box.c0, HS7.out.arg.box.c1⟩ | exact ⟨HS8.out.bx.c0, HS8.out.bx.c1, HS8.out.arg.box.c0, HS8.out.arg.box.c1⟩ | exact ⟨HS9.out.bx.c0, HS9.out.bx.c1, HS9.out.arg.box.c0, HS9.out.arg.box.c1⟩)
      (first
        | (go_at_call 11; refine (toRaw_few sa pa sc pc ss ps _ (HB.out.below HS7.out.arg.bel.drew (Nat.le_refl _)) HF.out).mono ?_; rintro e w8 ⟨⟨ua, uc, va, vc, us, vs, rfl, hcu, hr8⟩, hb8'⟩; have hb8 : Below w7.heap.size w7 w8 := Below.drewS hb8'; have HS8 : Hid (StB w w8 (.slice sa ss.length sc) (.slice pa ps.length pc) U aw cw ys T (.slice ta ss.length tc) (.slice qa ps.length qc) ts qs X ag cg ys) := HS7.out.step hb8; have HEQ := eqRaw_yes ta qa ua va tc qc uc vc ts qs us vs w8 HS8.out.rx.inn hr8.inn (HCT.out.1.trans hcu.1.symm) (HCT.out.2.trans hcu.2.symm) (HF.out.ct HCT.out.1 HCT.out.2); rw [len_ctE HCT.out.1, len_ctE HCT.out.2] at HEQ; clear hb8' hb8 hr8 hcu)
        | (go_at_call 13; refine HEQ.mono ?_; clear HEQ; rintro e w9 ⟨rfl, hb9⟩; have HS9 : Hid (StB w w9 (.slice sa ss.length sc) (.slice pa ps.length pc) U aw cw ys T (.slice ta ss.length tc) (.slice qa ps.length qc) ts qs X ag cg ys) := HS8.out.step hb9; clear hb9))
    clear HS7 HS8
    have hrx := HS9.out.rx
    rw [← len_ctE HCT.out.1, ← len_ctE HCT.out.2] at hrx
    have HMK := markRaw_own ta qa tc qc U ts qs w9 hrx (HF.out.ct HCT.out.1 HCT.out.2)
    rw [len_ctE HCT.out.1, len_ctE HCT.out.2] at HMK
    have hkb : 0 ≤ mkN ts qs := by unfold mkN; omega
    generalize mkN ts qs = kk at *
    obtain ⟨t0, t1, -, -, tl⟩ := HS9.out.bx
    clear hrx
    go_wp2_with fail
    refine HMK.mono ?_
    clear HMK
    rintro e w10 ⟨rfl, -, ho10⟩
    have HS10 : Hid _ := HS9.out.markX ho10
    clear ho10 HS9 t0 t1 tl
    go_wp2_with fail
    refine (eqByteS_yes ag aw cg cw ys _ HS10.out.2.mg.byt HS10.out.2.mw.byt (by omega)).mono ?_
    rintro e w11 ⟨rfl, n11, rfl⟩
    have HS11 : Hid (Arg w (w10.drewN n11) (.slice sa ss.length sc) (.slice pa ps.length pc) ∧ SnapR w (w10.drewN n11) U aw cw ys X ag cg ys) := ⟨HS10.out.1.step (below_dR w10 n11), HS10.out.2.step (below_dR w10 n11)⟩
    clear HS10
    generalize w10.drewN n11 = w11 at *
    go_wp2_with fail
    refine (markByteS_any ag X w11.heap.size cg ys 1 _ HS11.out.2.mg (by omega) (by omega) (by omega)).mono ?_
    rintro e w12 ⟨rfl, hm12, ho12⟩
    have HS12 : Hid (Arg w w12 (.slice sa ss.length sc) (.slice pa ps.length pc) ∧ SnapR w w12 U aw cw ys X ag cg (marks 1 ys.length)) := by
      refine ⟨HS11.out.1.only ho12 (fun k hk => ?_), HS11.out.2.markG ho12 hm12⟩
      have h1 := (HS11.out.2.mg.rowE hk).1
      have h2 := HS11.out.2.hX
      have h3 := HS11.out.1.box.lt
      have h4 : w.heap.size < U := by have := HUL.out; omega
      omega
    clear hm12 ho12 HS11
    go_wp2_with fail
    refine (heldByteS_any ag cg ys.length 1 _ HS12.out.2.mg.byt (by omega) (by omega) (by omega)).mono ?_
    rintro e w13 ⟨rfl, rfl⟩
    obtain ⟨-, x0, x1, -, -, xl⟩ := HS12.out.1
    go_wp2_with fail
    refine (toRaw_few sa pa sc pc ss ps w13 (HB.out.below HS12.out.1.bel (Nat.le_refl _)) HF.out).mono ?_
    rintro e w14 ⟨⟨ua, uc, va, vc, us, vs, rfl, hcu, hr14⟩, hb14⟩
    have HS14 : Hid (SnapR w w14 U aw cw ys X ag cg (marks 1 ys.length)) := HS12.out.2.step hb14
    have HIM := HIMPL.out w14 ua va uc vc us vs hr14.inn hcu.1 hcu.2
    clear hb14 HS12 hr14 hcu x0 x1 xl
    go_wp2_with fail
    refine HIM.mono ?_
    clear HIM
    rintro e w15 ⟨ah, ch, rfl, hmh, hb15⟩
    have HS15 : Hid _ := HS14.out.step hb15
    have HMH : Hid (Mine w15 w14.heap.size w15.heap.size ah ch ys) := hmh
    clear hb15 hmh HS14
    go_wp2_with fail
    refine (eqByteS_yes ah aw ch cw ys _ HMH.out.byt HS15.out.mw.byt (by omega)).mono ?_
    rintro e w16 ⟨rfl, n16, rfl⟩
    have HS16 : Hid _ := HS15.out.step (below_dR w15 n16)
    clear HS15 HMH
    generalize w15.drewN n16 = w16 at *
    go_wp2_with fail
    refine (heldByteS_any ag cg ys.length 1 _ HS16.out.mg.byt (by omega) (by omega) (by omega)).mono ?_
    rintro e w17 ⟨rfl, rfl⟩
    go_wp2
    go_ret
    exact ⟨rfl, HS16.out.bel⟩
end Go.Proofs.Ytajhaoclkomjnaa
