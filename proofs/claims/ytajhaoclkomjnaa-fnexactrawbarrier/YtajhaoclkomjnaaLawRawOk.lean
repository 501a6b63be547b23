/-
  The law on RawOk returns true, whatever is handed in, and writes nothing that was there.
-/
import Derived.Test.YtajhaoclkomjnaaRwOkI
import Derived.Test.YtajhaoclkomjnaaElSz
import Derived.Test.YtajhaoclkomjnaaElEq
namespace Go.Proofs.Ytajhaoclkomjnaa
open Go.RowKit
set_option linter.unusedVariables false

/-- Copies of a device, as the laws make them: the values with their lengths written out. -/
theorem toRaw_few (sa pa : Option Addr) (sc pc : Nat) (ss ps : List El) (w : World) (hb : RawI w sa pa ss ps) (hf : Few ss ps) :
    Calls Try.prog 11 #[.agg #[.slice sa ss.length sc, .slice pa ps.length pc]] w fun e w' =>
      (∃ ta tc qa qc ts qs, e = .returned (.agg #[.slice ta ss.length tc, .slice qa ps.length qc]) ∧ (ts.map El.ct = ss.map El.ct ∧ qs.map El.ct = ps.map El.ct) ∧ RawO w' w.heap.size (.slice ta ss.length tc) (.slice qa ps.length qc) ts qs) ∧ Below w.heap.size w w' := by
  refine (toRaw_any sa pa sc pc ss ps w hb hf.n hf.m hf.l hf.p).mono ?_
  rintro e w' ⟨⟨vs, vp, ts, qs, rfl, h1, h2, hr⟩, hb⟩
  obtain ⟨ta, tc, qa, qc, rfl, rfl⟩ := hr.form
  rw [len_ctE h1, len_ctE h2] at hr ⊢
  exact ⟨⟨ta, tc, qa, qc, ts, qs, rfl, ⟨h1, h2⟩, hr⟩, hb⟩
theorem Few.big {ss ps : List El} (h : Few ss ps) : ss.length ≤ 281474976710656 ∧ ps.length ≤ 281474976710656 ∧ (∀ s ∈ ss, s.ls.length ≤ 281474976710656) ∧ ∀ s ∈ ps, s.ls.length ≤ 281474976710656 :=
  ⟨by have := h.n; omega, by have := h.m; omega, fun s hs => by have := h.l s hs; omega, fun s hs => by have := h.p s hs; omega⟩

/-- The law's argument, and all that was there ahead of it. -/
structure Arg (w W : World) (x y : Value) : Prop where
  bel : Below w.heap.size w W
  box : Box2 W w.heap.size x y
theorem Arg.step {w W W' : World} {x y : Value} (h : Arg w W x y) (hb : Below W.heap.size W W') : Arg w W' x y := ⟨h.bel.trans (hb.mono h.bel.size), h.box.keep hb h.box.lt⟩
theorem Arg.only {S : Nat → Prop} {w W W' : World} {x y : Value} (h : Arg w W x y) (ho : Only S W W') (hs : ∀ k, S k → w.heap.size < k) : Arg w W' x y :=
  ⟨h.bel.trans (ho.below h.bel.size (fun k hk => Nat.le_of_lt (hs k hk))), h.box.only ho (fun hk => Nat.lt_irrefl _ (hs _ hk))⟩
theorem Arg.alloc {w W : World} {x y : Value} (h : Arg w W x y) (o : Obj) : Arg w (W.alloc o) x y := h.step ((Below.refl W.heap.size W).alloc (Nat.le_refl _) o)
theorem Arg.new (w : World) (x y : Value) (T : TypeId) : Arg w (w.alloc (Obj.cells #[x, y] T)) x y := ⟨(Below.refl _ _).alloc (Nat.le_refl _) _, Box2.new _ _ _ _⟩
theorem Arg.drew {w W : World} {x y : Value} (h : Arg w W x y) : Arg w W.drew x y := ⟨h.bel.drew, ⟨h.box.c0, h.box.c1, h.box.f0, h.box.f1, h.box.lt⟩⟩

set_option maxHeartbeats 4000000 in
theorem lawRawOk_any (sa pa : Option Addr) (sc pc : Nat) (ss ps : List El) (w : World) (hb : RawI w sa pa ss ps) (hm1 : ss.length ≤ maxLen) (hm2 : ps.length ≤ maxLen) :
    Calls Try.prog 3 #[.agg #[.slice sa ss.length sc, .slice pa ps.length pc]] w fun e w' => e = .returned (.bool true) ∧ Below w.heap.size w w' := by
  have HB : Hid (RawI w sa pa ss ps) := hb
  have HM : Hid (ss.length ≤ maxLen ∧ ps.length ≤ maxLen) := ⟨hm1, hm2⟩
  clear hb hm1 hm2
  go_enter Try.func3, Try.ntmps3
  have A0 : Hid (Arg w (w.alloc (Obj.cells #[Value.slice sa ss.length sc, Value.slice pa ps.length pc] 25)) (.slice sa ss.length sc) (.slice pa ps.length pc)) := Arg.new _ _ _ _
  go_wp2_with fail
  refine (szRaw_any sa pa sc pc ss ps _ (HB.out.below A0.out.bel (Nat.le_refl _)) HM.out.1 HM.out.2).mono ?_
  rintro e w1 ⟨⟨z, rfl, hz⟩, hb1⟩
  have A1 : Hid (Arg w w1 (.slice sa ss.length sc) (.slice pa ps.length pc)) := A0.out.step hb1
  clear hb1 A0
  obtain ⟨-, x0, x1, -, -, xl⟩ := A1.out
  rcases hz with rfl | ⟨hz0, hfew⟩
  · go_wp2
    go_ret
    exact ⟨rfl, A1.out.bel⟩
  · have HF : Hid (Few ss ps) := hfew
    clear hfew
    go_wp2_with fail
    refine (toRaw_few sa pa sc pc ss ps w1 (HB.out.below A1.out.bel (Nat.le_refl _)) HF.out).mono ?_
    rintro e w2 ⟨⟨ta, tc, qa, qc, ts, qs, rfl, hct, hr2⟩, hb2⟩
    have A2 : Hid (Arg w w2 (.slice sa ss.length sc) (.slice pa ps.length pc)) := A1.out.step hb2
    have h3 := (HF.out.ct hct.1 hct.2).big
    have HSP := specRawOk_any ta qa tc qc ts qs w2 hr2.inn h3.1 h3.2.1 h3.2.2.1 h3.2.2.2
    rw [rok_ct hct.1 hct.2, len_ctE hct.1, len_ctE hct.2] at HSP
    clear hb2 hr2 hct h3 A1 x0 x1 xl
    clear ts qs
    go_wp2_with fail
    refine HSP.mono ?_
    clear HSP
    rintro e w3 ⟨rfl, hb3⟩
    have A3 : Hid (Arg w w3 (.slice sa ss.length sc) (.slice pa ps.length pc)) := A2.out.step hb3
    clear hb3 A2
    obtain ⟨-, x0, x1, -, -, xl⟩ := A3.out
    go_wp2_with fail
    refine (toRaw_few sa pa sc pc ss ps w3 (HB.out.below A3.out.bel (Nat.le_refl _)) HF.out).mono ?_
    rintro e w4 ⟨⟨ta, tc, qa, qc, ts, qs, rfl, hct, hr4⟩, hb4⟩
    have A4 : Hid (Arg w w4 (.slice sa ss.length sc) (.slice pa ps.length pc)) := A3.out.step hb4
    have HCT : Hid (ts.map El.ct = ss.map El.ct ∧ qs.map El.ct = ps.map El.ct) := hct
    have HR4 : Hid (RawO w4 w3.heap.size (.slice ta ss.length tc) (.slice qa ps.length qc) ts qs) := hr4
    clear hb4 hr4 hct A3 x0 x1 xl
    have A5 : Hid (Arg w (w4.alloc (Obj.cells #[Value.slice ta ss.length tc, Value.slice qa ps.length qc] 30)) (.slice sa ss.length sc) (.slice pa ps.length pc)) := A4.out.alloc _
    have X5 : Hid (Box2 (w4.alloc (Obj.cells #[Value.slice ta ss.length tc, Value.slice qa ps.length qc] 30)) w4.heap.size (.slice ta ss.length tc) (.slice qa ps.length qc)) := Box2.new _ _ _ _
    have HR5 : Hid (RawO (w4.alloc (Obj.cells #[Value.slice ta ss.length tc, Value.slice qa ps.length qc] 30)) w3.heap.size (.slice ta ss.length tc) (.slice qa ps.length qc) ts qs) := HR4.out.below ((Below.refl _ _).alloc (Nat.le_refl _) _)
    have h3 := (HF.out.ct HCT.out.1 HCT.out.2).big
    have HIM := implRawOk_any ta qa tc qc ts qs _ HR5.out.inn h3.1 h3.2.1 h3.2.2.1 h3.2.2.2
    rw [rok_ct HCT.out.1 HCT.out.2, len_ctE HCT.out.1, len_ctE HCT.out.2] at HIM
    clear h3 HR4
    go_wp2_with fail
    generalize w4.alloc (Obj.cells #[Value.slice ta ss.length tc, Value.slice qa ps.length qc] 30) = W5 at *
    refine HIM.mono ?_
    clear HIM
    rintro e w6 ⟨rfl, hb6⟩
    have A6 : Hid (Arg w w6 (.slice sa ss.length sc) (.slice pa ps.length pc)) := A5.out.step hb6
    have X6 : Hid (Box2 w6 w4.heap.size (.slice ta ss.length tc) (.slice qa ps.length qc)) := X5.out.keep hb6 X5.out.lt
    have HR6 : Hid (RawO w6 w3.heap.size (.slice ta ss.length tc) (.slice qa ps.length qc) ts qs) := HR5.out.below hb6
    clear hb6 A5 X5 HR5 A4
    generalize w4.heap.size = X at *
    generalize rok ss ps = O at *
    have hOO : (O != O) = false := by simp
    go_wp2_with fail
    go_region_held3 (fun W => W.cell? ⟨X, 0, none⟩ = some (.slice ta ss.length tc) ∧ W.cell? ⟨X, 1, none⟩ = some (.slice qa ps.length qc) ∧ W.cell? ⟨w.heap.size, 0, none⟩ = some (.slice sa ss.length sc) ∧ W.cell? ⟨w.heap.size, 1, none⟩ = some (.slice pa ps.length pc))
      (first | exact ⟨X6.out.c0, X6.out.c1, A6.out.box.c0, A6.out.box.c1⟩ | exact ⟨X7.out.c0, X7.out.c1, A7.out.box.c0, A7.out.box.c1⟩ | exact ⟨X8.out.c0, X8.out.c1, A8.out.box.c0, A8.out.box.c1⟩)
      (first
        | (go_at_call 11; refine (toRaw_few sa pa sc pc ss ps _ (HB.out.below A6.out.bel.drew (Nat.le_refl _)) HF.out).mono ?_; rintro e w7 ⟨⟨ua, uc, va, vc, us, vs, rfl, hcu, hr7⟩, hb7'⟩; have hb7 : Below w6.heap.size w6 w7 := Below.drewS hb7'; have A7 : Hid (Arg w w7 (.slice sa ss.length sc) (.slice pa ps.length pc)) := A6.out.step hb7; have X7 : Hid (Box2 w7 X (.slice ta ss.length tc) (.slice qa ps.length qc)) := X6.out.keep hb7 X6.out.lt; have HEQ := eqRaw_yes ta qa ua va tc qc uc vc ts qs us vs w7 (HR6.out.below hb7).inn hr7.inn (HCT.out.1.trans hcu.1.symm) (HCT.out.2.trans hcu.2.symm) (HF.out.ct HCT.out.1 HCT.out.2); rw [len_ctE HCT.out.1, len_ctE HCT.out.2] at HEQ; clear hb7' hb7 hr7 hcu)
        | (go_at_call 13; refine HEQ.mono ?_; clear HEQ; rintro e w8 ⟨rfl, hb8⟩; have A8 : Hid (Arg w w8 (.slice sa ss.length sc) (.slice pa ps.length pc)) := A7.out.step hb8; have X8 : Hid (Box2 w8 X (.slice ta ss.length tc) (.slice qa ps.length qc)) := X7.out.keep hb8 X7.out.lt; clear hb8))
    clear A6 X6 A7 X7 HR6
    go_wp2
    go_ret
    exact ⟨rfl, A8.out.bel⟩
end Go.Proofs.Ytajhaoclkomjnaa
