/-
  The law on PackRead returns true, whatever is handed in, and writes nothing that was there.
-/
import Derived.Test.YtjeippleimlljaaGreatDoorRp6
import Derived.Test.YtjeippleimlljaaGreatDoorElN
import Derived.Test.YtjeippleimlljaaGreatDoorVarsC
import Derived.Test.YtjeippleimlljaaGreatDoorPkB
import Derived.Test.YtjeippleimlljaaGreatDoorSqT0
namespace Go.Proofs.YtjeippleimlljaaGreatDoor
open Go.RowKit
set_option linter.unusedVariables false
set_option linter.unusedSimpArgs false

/-- What both answer, by one form. -/
def PrP (f : List Int → Option (List Int)) (zs : List Int) (E O : Int) (fs : List El) (R : Bool) : Prop :=
  (PrG f zs ∧ E = rpE zs ∧ O = rpO zs ∧ fs = itL zs (rpM zs) (rpM zs) ∧ R = true) ∨ (¬ PrG f zs ∧ E = 0 ∧ O = 0 ∧ fs = [] ∧ R = false)
theorem PrP.ex (f : List Int → Option (List Int)) (zs : List Int) : ∃ E O fs R, PrP f zs E O fs R := by
  rcases Classical.em (PrG f zs) with h | h
  · exact ⟨_, _, _, _, .inl ⟨h, rfl, rfl, rfl, rfl⟩⟩
  · exact ⟨_, _, _, _, .inr ⟨h, rfl, rfl, rfl, rfl⟩⟩
theorem PrA.cop {f : List Int → Option (List Int)} {zs : List Int} {E O : Int} {fs : List El} {R : Bool} {w w' : World} {r : Ending} (h : PrA f zs w r w') (hp : PrP f zs E O fs R) :
    (∃ va vc ts, r = .returned (.tuple #[.agg #[.int .i64 E, .int .i64 O, .slice va ts.length vc], .bool R]) ∧ CopT w' w.heap.size (.slice va ts.length vc) ts fs) ∧ Below w.heap.size w w' := by
  obtain ⟨⟨h1, v, ts, rfl, h3⟩ | ⟨h1, rfl⟩, hb⟩ := h
  · rcases hp with ⟨_, rfl, rfl, rfl, rfl⟩ | ⟨h2, _⟩
    · obtain ⟨va, vc, rfl⟩ := h3.row.form
      exact ⟨⟨va, vc, ts, rfl, h3⟩, hb⟩
    · exact absurd h1 h2
  · rcases hp with ⟨h2, _⟩ | ⟨_, rfl, rfl, rfl, rfl⟩
    · exact absurd h2 h1
    · exact ⟨⟨none, 0, [], rfl, ⟨rfl, OVt.nil _ _, Deep.nil _ _, by simp⟩⟩, hb⟩
theorem PrP.few {f : List Int → Option (List Int)} {zs : List Int} {E O : Int} {fs : List El} {R : Bool} (hp : PrP f zs E O fs R) : FewI fs := by
  rcases hp with ⟨h, _, _, rfl, _⟩ | ⟨_, _, _, rfl, _⟩
  · have h1 := h.ok.sz
    unfold szP at h1
    exact FewI.mk' (by omega)
  · exact FewI.mk' (by simp [elets])

set_option maxRecDepth 20000 in
set_option maxHeartbeats 8000000 in
theorem lawPackRead_any (a : Option Addr) (cap : Nat) (zs : List Int) (w : World) (hb : Byt w a zs) (hm : zs.length ≤ maxLen) (hS : SentR w) :
    Calls Tryz.prog 3 #[.slice a zs.length cap] w fun e w' => e = .returned (.bool true) ∧ Below w.heap.size w w' := by
  have HB : Hid (Byt w a zs) := hb
  clear hb
  unfold maxLen at hm
  by_cases hn : zs.length ≤ 1048576
  · obtain ⟨f, hf⟩ := decF_ex
    obtain ⟨E0, O0, fs, R, hp⟩ := PrP.ex f zs
    have HSPEC : Hid (∀ (a : Option Addr) (W : World), Byt W a zs → Calls Tryz.prog 4 #[.slice a zs.length zs.length] W fun r w' => (∃ va vc ts, r = .returned (.tuple #[.agg #[.int .i64 E0, .int .i64 O0, .slice va ts.length vc], .bool R]) ∧ CopT w' W.heap.size (.slice va ts.length vc) ts fs) ∧ Below W.heap.size W w') := fun a W h => (specPackRead_any f hf a zs.length zs W h (by omega) (Nat.le_refl _) (by omega)).mono fun r w' h2 => h2.cop hp
    have HIMPL : Hid (∀ (a : Option Addr) (W : World), Byt W a zs → Below w.heap.size w W → Calls Tryz.prog 6 #[.slice a zs.length zs.length] W fun r w' => (∃ va vc ts, r = .returned (.tuple #[.agg #[.int .i64 E0, .int .i64 O0, .slice va ts.length vc], .bool R]) ∧ CopT w' W.heap.size (.slice va ts.length vc) ts fs) ∧ Below W.heap.size W w') := fun a W h h3 => (implPackRead_any f hf a zs.length zs W h (by omega) (Nat.le_refl _) (by omega) (hS.below h3)).mono fun r w' h2 => h2.cop hp
    have HFF : Hid (FewI fs) := hp.few
    have hRR : (R != R) = false := by simp
    clear hf hp hS
    go_enter Tryz.func3, Tryz.ntmps3
    go_wp2_with fail
    refine (toByteS_any a cap zs w HB.out hn).mono ?_
    rintro e w1 ⟨rfl, ho1, hb1⟩
    have HSP := HSPEC.out _ w1 ho1.byt
    have HB1 : Hid (Below w.heap.size w w1) := hb1
    clear ho1 hb1 HSPEC
    go_wp2_with fail
    refine HSP.mono ?_
    clear HSP
    rintro e w2 ⟨⟨aw, cw, ts, rfl, hmw⟩, hb2⟩
    have hba : Below w2.heap.size w2 (w2.alloc (Obj.cells #[Value.int IntKind.i64 E0, Value.int IntKind.i64 O0, Value.slice aw ts.length cw] 25)) := (Below.refl _ _).alloc (Nat.le_refl _) _
    have hbx := Box3.new w2 (.int .i64 E0) (.int .i64 O0) (.slice aw ts.length cw) 25
    have HB3 : Hid (Below w.heap.size w (w2.alloc (Obj.cells #[Value.int IntKind.i64 E0, Value.int IntKind.i64 O0, Value.slice aw ts.length cw] 25)) ∧ CopV (w2.alloc (Obj.cells #[Value.int IntKind.i64 E0, Value.int IntKind.i64 O0, Value.slice aw ts.length cw] 25)) w.heap.size w2.heap.size (.slice aw ts.length cw) ts fs ∧ Ce3 (w2.alloc (Obj.cells #[Value.int IntKind.i64 E0, Value.int IntKind.i64 O0, Value.slice aw ts.length cw] 25)) w2.heap.size (.int .i64 E0) (.int .i64 O0) (.slice aw ts.length cw) ∧ (w2.alloc (Obj.cells #[Value.int IntKind.i64 E0, Value.int IntKind.i64 O0, Value.slice aw ts.length cw] 25)).heap.size = w2.heap.size + 1 ∧ w.heap.size ≤ w2.heap.size) :=
      ⟨(HB1.out.trans (hb2.mono HB1.out.size)).trans (hba.mono (Nat.le_trans HB1.out.size hb2.size)), ⟨(hmw.weak HB1.out.size).below hba, hmw.v.r, hmw.v.d⟩, ⟨hbx.c0, hbx.c1, hbx.c2⟩, by simp, Nat.le_trans HB1.out.size hb2.size⟩
    clear hba hmw hb2 HB1 hbx
    go_wp2_with fail
    generalize (w2.alloc (Obj.cells #[Value.int IntKind.i64 E0, Value.int IntKind.i64 O0, Value.slice aw ts.length cw] 25)) = w3 at *
    generalize w2.heap.size = U at *
    refine (toByteS_any a cap zs w3 (HB.out.below HB3.out.1 (Nat.le_refl _)) hn).mono ?_
    rintro e w4 ⟨rfl, ho4, hb4⟩
    have HIM := HIMPL.out _ w4 ho4.byt (HB3.out.1.trans (hb4.mono HB3.out.1.size))
    have HB4 : Hid (Own w4 w3.heap.size w3.heap.size zs.length zs ∧ Below w3.heap.size w3 w4) := ⟨ho4, hb4⟩
    clear ho4 hb4
    go_wp2_with fail
    refine HIM.mono ?_
    clear HIM
    rintro e w5 ⟨⟨ag, cg, ts2, rfl, hmg⟩, hb5⟩
    have hba : Below w5.heap.size w5 (w5.alloc (Obj.cells #[Value.int IntKind.i64 E0, Value.int IntKind.i64 O0, Value.slice ag ts2.length cg] 25)) := (Below.refl _ _).alloc (Nat.le_refl _) _
    have hbx := Box3.new w5 (.int .i64 E0) (.int .i64 O0) (.slice ag ts2.length cg) 25
    have hb56 := hb5.trans (hba.mono hb5.size)
    have hb36 := HB4.out.2.trans (hb56.mono HB4.out.2.size)
    have HS6 : Hid (Snp w (w5.alloc (Obj.cells #[Value.int IntKind.i64 E0, Value.int IntKind.i64 O0, Value.slice ag ts2.length cg] 25)) w.heap.size (U + 1) w4.heap.size (w5.heap.size + 1) (fun _ => True) (fun W => CopV W w.heap.size U (.slice aw ts.length cw) ts fs ∧ Ce3 W U (.int .i64 E0) (.int .i64 O0) (.slice aw ts.length cw)) (fun W => Mine W (U + 1) w4.heap.size (some ⟨U + 1, 0, none⟩) zs.length zs) (fun W => CopV W w4.heap.size w5.heap.size (.slice ag ts2.length cg) ts2 fs ∧ Ce3 W w5.heap.size (.int .i64 E0) (.int .i64 O0) (.slice ag ts2.length cg))) := by
      have h3 := HB3.out
      have h4 := HB4.out.1.lt
      have h5 := hb5.size
      have h43 := HB4.out.2.size
      have hown := HB4.out.1
      rw [h3.2.2.2.1] at hown h4 h43
      refine ⟨h3.1.trans (hb36.mono (by omega)), by simp; omega, Stab.true _ _, trivial, (CopV.stab (Nat.le_refl _) (by omega)).and (Ce3.stab h3.2.2.2.2 (by omega)), ⟨⟨h3.2.1.cop.below hb36, h3.2.1.r, h3.2.1.d⟩, ⟨keep hb36 (by omega) h3.2.2.1.1, keep hb36 (by omega) h3.2.2.1.2.1, keep hb36 (by omega) h3.2.2.1.2.2⟩⟩, Stab.mine (Nat.le_refl _) (Nat.le_refl _), ?_, (CopV.stab (Nat.le_refl _) (by omega)).and (Ce3.stab (by omega) (by omega)), ⟨⟨hmg.below hba, hmg.v.r, hmg.v.d⟩, ⟨hbx.c0, hbx.c1, hbx.c2⟩⟩⟩
      exact (hown.mine).below hb56
    have HUY : Hid (w4.heap.size ≤ w5.heap.size) := hb5.size
    have hXe : w3.heap.size = U + 1 := HB3.out.2.2.2.1
    obtain ⟨l0, l1, l2⟩ := HS6.out.hw.2
    obtain ⟨n0, n1, n2⟩ := HS6.out.hg.2
    have HEQ := eqPack_cop E0 O0 ag aw cg cw fs ts2 ts _ HS6.out.hg.1.cop HS6.out.hw.1.cop HFF.out
    rw [hXe]
    clear hba hmg hb5 hb56 hb36 HB3 HB4 hXe hbx
    go_wp2_with fail
    clear l0 l1 l2 n0 n1 n2
    generalize (w5.alloc (Obj.cells #[Value.int IntKind.i64 E0, Value.int IntKind.i64 O0, Value.slice ag ts2.length cg] 25)) = w6 at *
    generalize w5.heap.size = Y at *
    generalize w4.heap.size = V at *
    refine HEQ.mono ?_
    clear HEQ
    rintro e w7 ⟨rfl, hb7⟩
    have HS7 : Hid _ := HS6.out.step hb7
    clear HS6 hb7
    go_wp2_with fail
    refine (toByteS_any a cap zs w7 (HB.out.below HS7.out.bel (Nat.le_refl _)) hn).mono ?_
    rintro e w8 ⟨rfl, ho8, hb8⟩
    have HS8 : Hid _ := HS7.out.step hb8
    have HO8 : Hid (Byt w8 (some ⟨w7.heap.size, 0, none⟩) zs) := ho8.byt
    clear HS7 hb8 ho8
    go_wp2_with fail
    refine (eqByteS_yes _ _ _ _ zs w8 HS8.out.hx.byt HO8.out (by omega)).mono ?_
    rintro e w9 ⟨rfl, n9, rfl⟩
    have HS9 : Hid _ := HS8.out.drew n9
    clear HS8 HO8
    generalize w8.drewN n9 = w9 at *
    go_wp2_with fail
    refine (markByteS_any (some ⟨U + 1, 0, none⟩) (U + 1) V zs.length zs 1 _ HS9.out.hx (by omega) (by omega) (by omega)).mono ?_
    rintro e w10 ⟨rfl, hm10, ho10⟩
    have HS10 : Hid _ := HS9.out.markX ho10 (fun k hk => hm10.rowT hk) (Stab.mine (B := U + 1) (U := V) (a := some ⟨U + 1, 0, none⟩) (c := zs.length) (zs := marks 1 zs.length) (Nat.le_refl _) (Nat.le_refl _)) hm10
    clear hm10 ho10 HS9
    obtain ⟨l0, l1, l2⟩ := HS10.out.hw.2
    obtain ⟨n0, n1, n2⟩ := HS10.out.hg.2
    have HEQ := eqPack_cop E0 O0 ag aw cg cw fs ts2 ts _ HS10.out.hg.1.cop HS10.out.hw.1.cop HFF.out
    go_wp2_with fail
    refine HEQ.mono ?_
    clear HEQ
    rintro e w11 ⟨rfl, hb11⟩
    have HS11 : Hid _ := HS10.out.step hb11
    clear HS10 hb11 l0 l1 l2 n0 n1 n2
    obtain ⟨n0, n1, n2⟩ := HS11.out.hg.2
    have HF2 : Hid (ts2.length + elets ts2 ≤ 1048576 ∧ (1 : Int) + ts2.length + elets ts2 < 2097152) := by
      have h9 : ts2.length + elets ts2 ≤ 1048576 := by rw [len_ctE HS11.out.hg.1.cop.ct, elets_ct _ _ HS11.out.hg.1.cop.ct]; exact HFF.out.sum
      exact ⟨h9, by omega⟩
    have HMK := markPack_own E0 O0 ag cg V ts2 1 w11 HS11.out.hg.1.cop.row HS11.out.hg.1.cop.deep HF2.out.1 (by omega) (Int.le_of_lt HF2.out.2)
    go_wp2_with fail
    refine HMK.mono ?_
    clear HMK
    rintro e w12 ⟨rfl, hmk, ho12⟩
    have HS12 : Hid (Snp w w12 w.heap.size (U + 1) V (Y + 1) (fun _ => True) (fun W => CopV W w.heap.size U (.slice aw ts.length cw) ts fs ∧ Ce3 W U (.int .i64 E0) (.int .i64 O0) (.slice aw ts.length cw)) (fun W => Mine W (U + 1) V (some ⟨U + 1, 0, none⟩) zs.length (marks 1 zs.length)) (fun W => CopV W V Y (.slice ag ts2.length cg) (mkE true 1 ts2) (mkE true 1 ts2) ∧ Ce3 W Y (.int .i64 E0) (.int .i64 O0) (.slice ag ts2.length cg))) := by
      have hord := HS11.out.ord
      have hT : ∀ k, ((Value.slice ag ts2.length cg).ownBlock = some k ∨ ∃ s ∈ ts2, rowOf s.a k) → V ≤ k ∧ k < Y := fun k hk => by
        rcases hk with hk | ⟨s, hs, hk⟩
        · exact ⟨(HS11.out.hg.1.cop.row.blk hk).1, HS11.out.hg.1.r k hk⟩
        · exact ⟨((HS11.out.hg.1.cop.deep.mine s hs).rowE hk).1, HS11.out.hg.1.d s hs k hk⟩
      have hd : ∀ e ∈ mkE true 1 ts2, ∀ k, rowOf e.a k → k < Y := fun e he k hk => by
        have h1 : e.a ∈ (mkE true 1 ts2).map El.a := List.mem_map_of_mem he
        rw [mkE_a] at h1
        obtain ⟨s, hs, h2⟩ := List.mem_map.1 h1
        exact HS11.out.hg.1.d s hs k (by rw [h2]; exact hk)
      refine HS11.out.markG ho12 (fun k hk => by have := hT k hk; omega) ((CopV.stab (Nat.le_refl _) (by omega)).and (Ce3.stab HUY.out (by omega))) ⟨⟨⟨rfl, hmk.1, hmk.2, mkE_rng true 1 ts2 HS11.out.hg.1.cop.rng (by omega) (by have := HF2.out.1; omega)⟩, HS11.out.hg.1.r, hd⟩, ?_⟩
      exact ⟨ho12.cell (by omega) (fun hk => by have := hT _ hk; omega) HS11.out.hg.2.1, ho12.cell (by omega) (fun hk => by have := hT _ hk; omega) HS11.out.hg.2.2.1, ho12.cell (by omega) (fun hk => by have := hT _ hk; omega) HS11.out.hg.2.2.2⟩
    clear hmk ho12 HS11 n0 n1 n2
    obtain ⟨n0, n1, n2⟩ := HS12.out.hg.2
    have HHL := heldPack_any E0 O0 ag cg ts2 1 w12 HS12.out.hg.1.cop.its.els HF2.out.1 (by omega) HF2.out.2
    go_wp2_with fail
    refine HHL.mono ?_
    clear HHL
    rintro e w13 ⟨rfl, hb13⟩
    have HS13 : Hid _ := HS12.out.step hb13
    clear HS12 hb13 n0 n1 n2
    have hk3 : ¬ ((1 : Int) + (elets ts2 : Nat) + (ts2.length : Nat) < 0) := by omega
    go_wp2_with fail
    refine (toByteS_any a cap zs w13 (HB.out.below HS13.out.bel (Nat.le_refl _)) hn).mono ?_
    rintro e w14 ⟨rfl, ho14, hb14⟩
    have HS14 : Hid _ := HS13.out.step hb14
    have HIM := HIMPL.out _ w14 ho14.byt HS14.out.bel
    clear HS13 hb14 ho14 HIMPL
    go_wp2_with fail
    refine HIM.mono ?_
    clear HIM
    rintro e w15 ⟨⟨ah, ch, ts5, rfl, hmh⟩, hb15⟩
    have hba : Below w15.heap.size w15 (w15.alloc (Obj.cells #[Value.int IntKind.i64 E0, Value.int IntKind.i64 O0, Value.slice ah ts5.length ch] 25)) := (Below.refl _ _).alloc (Nat.le_refl _) _
    have hbx := Box3.new w15 (.int .i64 E0) (.int .i64 O0) (.slice ah ts5.length ch) 25
    have HS16 : Hid _ := (HS14.out.step hb15).step hba
    have HEQ := eqPack_cop E0 O0 ah aw ch cw fs ts5 ts _ (hmh.below hba) HS16.out.hw.1.cop HFF.out
    obtain ⟨l0, l1, l2⟩ := HS16.out.hw.2
    obtain ⟨k0, k1, k2, -, -, -, kl⟩ := hbx
    clear hba hmh hb15 HS14
    go_wp2_with fail
    clear l0 l1 l2 k0 k1 k2 kl
    generalize (w15.alloc (Obj.cells #[Value.int IntKind.i64 E0, Value.int IntKind.i64 O0, Value.slice ah ts5.length ch] 25)) = w16 at *
    generalize w15.heap.size = T at *
    refine HEQ.mono ?_
    clear HEQ
    rintro e w17 ⟨rfl, hb17⟩
    have HS17 : Hid _ := HS16.out.step hb17
    clear HS16 hb17
    obtain ⟨n0, n1, n2⟩ := HS17.out.hg.2
    have HHL := heldPack_any E0 O0 ag cg ts2 1 w17 HS17.out.hg.1.cop.its.els HF2.out.1 (by omega) HF2.out.2
    go_wp2_with fail
    refine HHL.mono ?_
    clear HHL
    rintro e w18 ⟨rfl, hb18⟩
    have HS18 : Hid _ := HS17.out.step hb18
    clear HS17 hb18 n0 n1 n2
    go_wp2
    go_ret
    exact ⟨rfl, HS18.out.bel⟩
  · clear hS
    go_enter Tryz.func3, Tryz.ntmps3
    go_wp2
    go_ret
    exact ⟨rfl, Below.refl _ _⟩
end Go.Proofs.YtjeippleimlljaaGreatDoor
