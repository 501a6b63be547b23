/-
  FnExactLensGet, for every input: the call returns true and leaves its arguments as they were, where the named variables hold what the program's own text lays there (the card ties them to it).
-/
import Derived.Test.YtkolfmjlkfkleaaDoorLGet4
import Derived.Test.YtkolfmjlkfkleaaDoorSnapG
import Derived.Test.YtkolfmjlkfkleaaDoorSz
import Derived.Test.YtkolfmjlkfkleaaDoorToB
import Derived.Test.YtkolfmjlkfkleaaDoorEqB
import Derived.Test.YtkolfmjlkfkleaaDoorIEq
import Derived.Test.YtkolfmjlkfkleaaDoorMarksB
import Derived.Deep.RegionWith
import Derived.Test.YtkolfmjlkfkleaaDoorOpenB
import Derived.Test.YtkolfmjlkfkleaaDoorOpenS
import Derived.Test.YtkolfmjlkfkleaaDoorVars3
import Derived.Test.YtkolfmjlkfkleaaDoorVarsC
namespace Go.Proofs.YtkolfmjlkfkleaaDoor
open Go.RowKit
set_option linter.unusedVariables false

theorem below_dG (w : World) (n : Nat) : Below w.heap.size w (w.drewN n) := ⟨rfl, rfl, rfl, Nat.le_refl _, fun _ _ => rfl⟩

set_option maxHeartbeats 4000000 in
theorem lawLensGet_any (a : Option Addr) (cap : Nat) (zs : List Int) (N p s : Int) (w : World) (hb : Byt w a zs) (hm : zs.length ≤ maxLen) (s0 : Sent w 8) (s1 : Sent w 10) (s2 : Sent w 6) (h4 : Four w)
    (hG : 8 < w.heap.size ∧ 10 < w.heap.size ∧ 6 < w.heap.size) :
    Calls Tryd.prog 9 #[.agg #[.slice a zs.length cap, .int .i64 N], .int .i64 p, .int .i64 s] w fun e w' => e = .returned (.bool true) ∧ Below w.heap.size w w' := by
  have hw : Below w.heap.size w (w.alloc (Obj.cells #[Value.slice a zs.length cap, Value.int IntKind.i64 N] 38)) := (Below.refl _ _).alloc (Nat.le_refl _) _
  by_cases hn : zs.length ≤ 1048576
  · obtain ⟨ys, M, ok, hyl, hspec, himpl⟩ := lensGet_both N p s zs hn hb.1
    have hsz : (zs.length : Int) ≤ 1048576 := by omega
    have HS0 : Hid _ := hspec
    have HI0 : Hid _ := himpl
    clear hspec himpl
    have hok : (ok != ok) = false := by simp
    have hMM : (M != M) = false := by simp
    go_enter Tryd.func9, Tryd.ntmps9
    go_wp2_with fail
    refine (szBits_any a zs.length cap N 1048576 _ hm (by omega) (by omega)).mono ?_
    rintro e w1 ⟨rfl, hb1⟩
    rw [if_pos hsz]
    have hbb1 := hw.trans (hb1.mono (by simp))
    have p0 : w1.cell? ⟨w.heap.size, 0, none⟩ = some (.slice a zs.length cap) := keep hb1 (by simp) (by simp)
    have p1 : w1.cell? ⟨w.heap.size, 1, none⟩ = some (.int .i64 N) := keep hb1 (by simp) (by simp)
    have z1 : w.heap.size < w1.heap.size := by have := hb1.size; simp at this; omega
    clear hb1
    go_wp2_with fail
    refine (toBits_any a cap zs N _ (hb.below hbb1 (Nat.le_refl _)) hn).mono ?_
    rintro e w2 ⟨g2, rfl, ho2, hb2⟩
    have z2 := hb2.size
    go_wp2_with fail
    refine (HS0.out _ _ _ ho2.byt).mono ?_
    rintro e w3 ⟨aw, cw, rfl, hmw, hb3⟩
    have z3 := hb3.size
    have hbb3 := hbb1.trans ((hb2.trans (hb3.mono z2)).mono (Nat.le_of_lt z1))
    have q0 := keep (hb2.trans (hb3.mono z2)) z1 p0
    have q1 := keep (hb2.trans (hb3.mono z2)) z1 p1
    have y3 : w.heap.size < w3.heap.size := by omega
    have HMW : Hid (MinI w3 (w.heap.size + 1) w3.heap.size aw cw ys) := hmw.mono (by omega) (Nat.le_refl _)
    clear hb2 hb3 ho2 p0 p1 z1 z2 z3 hbb1 hw hmw
    go_wp2_with fail
    refine (toBits_any a cap zs N _ (hb.below hbb3 (Nat.le_refl _)) hn).mono ?_
    rintro e w4 ⟨gx, rfl, ho4, hb4⟩
    have r0 := keep hb4 y3 q0
    have r1 := keep hb4 y3 q1
    have z4 := hb4.size
    have hbb4 := hbb3.trans (hb4.mono (by omega))
    have hmw4 := HMW.out.below hb4
    have hlt4 := ho4.lt
    clear q0 q1 hb4 hbb3
    go_wp2_with fail
    have hbb4' := hbb4.alloc (by omega) (Obj.cells #[Value.slice (some ⟨gx, 0, none⟩) zs.length zs.length, Value.int IntKind.i64 N] 33)
    refine (HI0.out _ _ _ (ho4.alloc _).byt (s0.below hbb4' (by omega)) (s1.below hbb4' (by omega)) (s2.below hbb4' (by omega)) (h4.below hbb4') (by simp; omega)).mono ?_
    rintro e w5 ⟨ag, cg, rfl, hmg, hb5⟩
    have z5 : w4.heap.size < w5.heap.size := by have := hb5.size; simp at this; omega
    simp at hmg
    have hbb5 := hbb4'.trans (hb5.mono (by simp; omega))
    have sn5 : SnapG w w5 a cap zs N w3.heap.size aw cw ys w4.heap.size gx zs ag cg ys := by
      have ha : Below w4.heap.size w4 (w4.alloc (Obj.cells #[Value.slice (some ⟨gx, 0, none⟩) zs.length zs.length, Value.int IntKind.i64 N] 33)) := (Below.refl _ _).alloc (Nat.le_refl _) _
      refine ⟨hbb5, keep hb5 (by simp; omega) (keepA _ (by omega) r0), keep hb5 (by simp; omega) (keepA _ (by omega) r1), y3, hlt4, keep hb5 (by simp) (by simp), keep hb5 (by simp) (by simp), z5, (hmw4.below ha).below hb5, .inr ⟨gx, rfl, hlt4.1, hlt4.2, ?_⟩, hmg⟩
      exact ((ho4.alloc _).below hb5 (Nat.le_refl _))
    have HS5 : Hid _ := sn5
    clear r0 r1 hb5 hmg hbb5 sn5 hmw4 ho4 hbb4 hbb4' HMW z4 z5 hlt4 y3
    generalize w3.heap.size = U at *
    generalize w4.heap.size = X at *
    go_wp2_with fail
    refine (eqIntS_yes ag aw cg cw ys _ HS5.out.mg.byt HS5.out.mw.byt (by omega)).mono ?_
    rintro e w6 ⟨rfl, n6, rfl⟩
    have HS6 : Hid (SnapG w (w5.drewN n6) a cap zs N U aw cw ys X gx zs ag cg ys) := HS5.out.step (below_dG w5 n6)
    clear HS5
    generalize w5.drewN n6 = w6 at *
    have hO := HS6.out.hU
    have p0 := HS6.out.p0
    have p1 := HS6.out.p1
    have x0 := HS6.out.x0
    have x1 := HS6.out.x1
    go_wp2_with fail
    clear p0 p1 hO
    have p0 := HS6.out.p0
    have p1 := HS6.out.p1
    go_region_with (first
      | (go_at_call 27; refine (toBits_any a cap zs N _ (hb.below HS6.out.bel.drew (Nat.le_refl _)) hn).mono ?_; rintro e w7 ⟨g7, rfl, ho7, hb7'⟩; have hb7 := Below.drewS hb7'; have HS7 : Hid (SnapG w w7 a cap zs N U aw cw ys X gx zs ag cg ys) := HS6.out.step hb7; have t0 := HS7.out.x0; have t1 := HS7.out.x1)
      | (go_at_call 22; refine (eqBits_yes _ _ _ _ zs N _ (by exact HS7.out.mx.byt) (by exact ho7.byt) (by omega)).mono ?_; rintro e w8 ⟨rfl, hb8⟩; have HS8 : Hid (SnapG w w8 a cap zs N U aw cw ys X gx zs ag cg ys) := HS7.out.step hb8; clear hb8 t0 t1 HS7 ho7 hb7 hb7'))
    all_goals
      clear HS6 p0 p1 x0 x1
      have x0 := HS8.out.x0
      have x1 := HS8.out.x1
      go_wp2_with fail
      refine (markBits_any (some ⟨gx, 0, none⟩) U X zs.length zs N 1 _ HS8.out.mx (by omega) (by omega) (by omega)).mono ?_
      rintro e w9 ⟨rfl, hm9, ho9⟩
      have HS9 : Hid _ := HS8.out.markX ho9 hm9
      clear hm9 ho9 HS8 x0 x1
      go_wp2_with fail
      refine (eqIntS_yes ag aw cg cw ys _ HS9.out.mg.byt HS9.out.mw.byt (by omega)).mono ?_
      rintro e w10 ⟨rfl, n10, rfl⟩
      have HS10 : Hid _ := HS9.out.step (below_dG w9 n10)
      clear HS9
      generalize w9.drewN n10 = w10 at *
      go_wp2_with fail
      refine (markIntS_any ag (X + 1) w10.heap.size cg ys 1 _ HS10.out.mg (by omega) (by omega) (by omega)).mono ?_
      rintro e w11 ⟨rfl, hm11, ho11⟩
      have HS11 : Hid _ := HS10.out.markG ho11 hm11
      clear hm11 ho11 HS10
      go_wp2_with fail
      refine (heldIntS_any ag cg ys.length 1 _ HS11.out.mg.byt (by omega) (by omega) (by omega)).mono ?_
      rintro e w12 ⟨rfl, rfl⟩
      have p0 := HS11.out.p0
      have p1 := HS11.out.p1
      go_wp2_with fail
      refine (toBits_any a cap zs N _ (hb.below HS11.out.bel (Nat.le_refl _)) hn).mono ?_
      rintro e w13 ⟨g13, rfl, ho13, hb13⟩
      have HS13 : Hid _ := HS11.out.step hb13
      clear hb13 HS11 p0 p1
      go_wp2_with fail
      refine (HI0.out _ _ _ ho13.byt (s0.below HS13.out.bel (by omega)) (s1.below HS13.out.bel (by omega)) (s2.below HS13.out.bel (by omega)) (h4.below HS13.out.bel) (by have := HS13.out.bel.size; omega)).mono ?_
      rintro e w14 ⟨ah, ch, rfl, hmh, hb14⟩
      have HS14 : Hid _ := HS13.out.step hb14
      have HMH : Hid (MinI w14 w13.heap.size w14.heap.size ah ch ys) := hmh
      clear hb14 HS13 ho13 hmh
      go_wp2_with fail
      refine (eqIntS_yes ah aw ch cw ys _ HMH.out.byt HS14.out.mw.byt (by omega)).mono ?_
      rintro e w15 ⟨rfl, n15, rfl⟩
      have HS15 : Hid _ := HS14.out.step (below_dG w14 n15)
      clear HS14 HMH
      generalize w14.drewN n15 = w15 at *
      go_wp2_with fail
      refine (heldIntS_any ag cg ys.length 1 _ HS15.out.mg.byt (by omega) (by omega) (by omega)).mono ?_
      rintro e w16 ⟨rfl, rfl⟩
      go_wp2
      go_ret
      exact ⟨rfl, HS15.out.bel⟩
  · have hsz : ¬ (zs.length : Int) ≤ 1048576 := by omega
    go_enter Tryd.func9, Tryd.ntmps9
    go_wp2_with fail
    refine (szBits_any a zs.length cap N 1048576 _ hm (by omega) (by omega)).mono ?_
    rintro e w1 ⟨rfl, hb1⟩
    rw [if_neg (by omega)]
    go_wp2
    go_ret
    exact ⟨rfl, hw.trans (hb1.mono (by simp))⟩
end Go.Proofs.YtkolfmjlkfkleaaDoor
namespace Go.Proofs.YtkolfmjlkfkleaaDoor.cardLensGet
open Go.ChangeShapes Go.WideShapes Go.ChangeAt Go.RowKit Go.Joins
set_option linter.unusedVariables false

theorem g_errOver : Tryd.prog.globalNamed "loop.example/g00528/impl.errOver" = some 10 := by kernel_rfl
theorem t_errOver : (Tryd.prog.globals[10]?).map (·.type) = some 51 := by kernel_rfl
theorem g_errRange : Tryd.prog.globalNamed "loop.example/g00528/impl.errRange" = some 8 := by kernel_rfl
theorem t_errRange : (Tryd.prog.globals[8]?).map (·.type) = some 51 := by kernel_rfl
theorem g_errSyms : Tryd.prog.globalNamed "loop.example/g00528/impl.errSyms" = some 1 := by kernel_rfl
theorem t_errSyms : (Tryd.prog.globals[1]?).map (·.type) = some 51 := by kernel_rfl
theorem g_errLength : Tryd.prog.globalNamed "loop.example/g00528/impl.errLength" = some 2 := by kernel_rfl
theorem t_errLength : (Tryd.prog.globals[2]?).map (·.type) = some 51 := by kernel_rfl
theorem g_errNoCodes : Tryd.prog.globalNamed "loop.example/g00528/impl.errNoCodes" = some 3 := by kernel_rfl
theorem t_errNoCodes : (Tryd.prog.globals[3]?).map (·.type) = some 51 := by kernel_rfl
theorem g_errShares : Tryd.prog.globalNamed "loop.example/g00528/impl.errShares" = some 4 := by kernel_rfl
theorem t_errShares : (Tryd.prog.globals[4]?).map (·.type) = some 51 := by kernel_rfl
theorem g_errRun : Tryd.prog.globalNamed "loop.example/g00528/impl.errRun" = some 6 := by kernel_rfl
theorem t_errRun : (Tryd.prog.globals[6]?).map (·.type) = some 51 := by kernel_rfl
theorem door_met (os : Os) (args : Array Value) : laidMetH Tryd.prog Rows.fnExactLensGetRow.laid ((World.doorLaid Tryd.prog 206 os).forCall (fun _ _ => 0) ⟨#[], args, []⟩).memory :=
  laidMetH_of_parts3 (fuel := 8) (laidMet_of_run' 8 (by kernel_rfl) (by kernel_rfl)) (by kernel_rfl) (by kernel_rfl)

set_option maxRecDepth 100000 in
theorem lifted (os : Os) (started : os.Started) (H : Type) (enc : TypeId × Value → H) :
    ReturnsInHanded {} Tryd.checked os 9 .any (fun w args => (Rows.fnExactLensGetSpec.pre enc Tryd.prog Tryd.f9 [] false w args ∧ laidMetH Tryd.prog Rows.fnExactLensGetRow.laid w) ∧ sizedMet enc Tryd.prog Tryd.f9 (OpenSpec.ofChange Rows.fnExactLensGetSpec) false w args)
      (Rows.fnExactLensGetSpec.post enc Tryd.prog Tryd.f9 false true false false) := by
  refine returnsInHanded_of_change_and (C := Tryd.checked) (X := fun w _ => laidMetH Tryd.prog Rows.fnExactLensGetRow.laid w) (fun _ _ _ hh h => h.of_heap hh) Tryd.own started (by kernel_rfl) Tryd.func9
    (ChangeSpec.witness_shaped (enc := enc) (C := Tryd.checked) (os := os) (X := fun w _ => laidMetH Tryd.prog Rows.fnExactLensGetRow.laid w) false (World.doorLaid Tryd.prog 206 os) #[.agg #[.slice .none 0 0, .int .i64 0], .int .i64 0, .int .i64 0] 8 rfl (World.shaped_of_RefB (by kernel_rfl) (by kernel_rfl)) (by kernel_rfl) (by kernel_rfl) (by kernel_rfl) (door_met os _)) ?_
  intro W base args ds gs before hval0 hW _ _ hL _
  have hval : ∀ (j : Nat) t v, Tryd.f9.params[j]? = some t → args[j]? = some v → Value.okWide Tryd.prog W .any base t v := hval0
  have hW' := hW
  obtain ⟨p, q, hA0, hV0, rfl, hfz, hnd⟩ := hW
  have hA : DataW.TrodAll enc Tryd.prog W 0 (fun _ => true) true Tryd.f9.params.toList args.toList ds p := hA0
  have hV : DataW.TrodVars enc Tryd.prog W (fun _ => true) ["loop.example/g00528/impl.errRun", "loop.example/g00528/impl.errRange", "loop.example/g00528/impl.errOver", "loop.example/g00528/impl.errSyms", "loop.example/g00528/impl.errLength", "loop.example/g00528/impl.errNoCodes", "loop.example/g00528/impl.errShares"] gs q := hV0
  rw [Tryd.params9] at hA hval
  obtain ⟨v0, vs0, d0, ds0, p0, q0, hargs, rfl, rfl, h0, r0⟩ := trodAll_cons hA
  obtain ⟨v1, vs1, d1, ds1, p1, q1, rfl, rfl, rfl, h1, r1⟩ := trodAll_cons r0
  obtain ⟨v2, vs2, d2, ds2, p2, q2, rfl, rfl, rfl, h2, r2⟩ := trodAll_cons r1
  obtain ⟨rfl, rfl, rfl⟩ := trodAll_nil r2
  obtain rfl : args = #[v0, v1, v2] := by cases args; simp_all
  have k0 := h0
  have lt0 : ∀ x ∈ p0, x.block < W.heap.size := by obtain ⟨m, hm⟩ := k0; exact DataW.trod_lt m _ _ _ hm
  obtain ⟨c0_0, c1_0, y0_0, y1_0, m0, rfl, hd0_0, hp0_0, hy0_0, hy1_0⟩ := open_agg2 Tryd.underlying38 (by kernel_rfl) (by kernel_rfl) (hval 0 38 v0 rfl rfl) h0
  obtain ⟨N0, e1_0, hY1_0, wN0⟩ := DataW.trod_int Tryd.underlying3 hy1_0
  simp at e1_0
  subst e1_0
  obtain ⟨a0, zs0, cap0, rfl, hb0, hm0⟩ := byt_of_trod hy0_0
  obtain ⟨x1, rfl, rfl, rfl, w1⟩ := open_int Tryd.underlying3 (hval 1 3 v1 rfl rfl) h1
  obtain ⟨x2, rfl, rfl, rfl, w2⟩ := open_int Tryd.underlying3 (hval 2 3 v2 rfl rfl) h2
  rw [MakeChecks.laidMetH_plain _ _ _ (by kernel_rfl)] at hL
  obtain ⟨s_errOver, hv_errOver, hc_errOver⟩ := sentinel hL g_errOver t_errOver
  have hG_errOver : 10 < W.heap.size := World.block_lt_of_cell? _ _ hc_errOver
  obtain ⟨s_errRange, hv_errRange, hc_errRange⟩ := sentinel hL.tail g_errRange t_errRange
  have hG_errRange : 8 < W.heap.size := World.block_lt_of_cell? _ _ hc_errRange
  obtain ⟨s_errSyms, hv_errSyms, hc_errSyms⟩ := sentinel hL.tail.tail g_errSyms t_errSyms
  have hG_errSyms : 1 < W.heap.size := World.block_lt_of_cell? _ _ hc_errSyms
  obtain ⟨s_errLength, hv_errLength, hc_errLength⟩ := sentinel hL.tail.tail.tail g_errLength t_errLength
  have hG_errLength : 2 < W.heap.size := World.block_lt_of_cell? _ _ hc_errLength
  obtain ⟨s_errNoCodes, hv_errNoCodes, hc_errNoCodes⟩ := sentinel hL.tail.tail.tail.tail g_errNoCodes t_errNoCodes
  have hG_errNoCodes : 3 < W.heap.size := World.block_lt_of_cell? _ _ hc_errNoCodes
  obtain ⟨s_errShares, hv_errShares, hc_errShares⟩ := sentinel hL.tail.tail.tail.tail.tail g_errShares t_errShares
  have hG_errShares : 4 < W.heap.size := World.block_lt_of_cell? _ _ hc_errShares
  obtain ⟨s_errRun, hv_errRun, hc_errRun⟩ := sentinel hL.tail.tail.tail.tail.tail.tail g_errRun t_errRun
  have hG_errRun : 6 < W.heap.size := World.block_lt_of_cell? _ _ hc_errRun
  have read : ∀ (W' : World) (sp : Nat → Bool), Below W.heap.size W W' → DataW.TrodVars enc Tryd.prog W' sp ["loop.example/g00528/impl.errRun", "loop.example/g00528/impl.errRange", "loop.example/g00528/impl.errOver", "loop.example/g00528/impl.errSyms", "loop.example/g00528/impl.errLength", "loop.example/g00528/impl.errNoCodes", "loop.example/g00528/impl.errShares"] _ _ := fun W' sp bel =>
    vars_consC enc g_errRun t_errRun Tryd.underlying51 (var?_below bel g_errRun hG_errRun hv_errRun) trivial (vars_consC enc g_errRange t_errRange Tryd.underlying51 (var?_below bel g_errRange hG_errRange hv_errRange) trivial (vars_consC enc g_errOver t_errOver Tryd.underlying51 (var?_below bel g_errOver hG_errOver hv_errOver) trivial (vars_consC enc g_errSyms t_errSyms Tryd.underlying51 (var?_below bel g_errSyms hG_errSyms hv_errSyms) trivial (vars_consC enc g_errLength t_errLength Tryd.underlying51 (var?_below bel g_errLength hG_errLength hv_errLength) trivial (vars_consC enc g_errNoCodes t_errNoCodes Tryd.underlying51 (var?_below bel g_errNoCodes hG_errNoCodes hv_errNoCodes) trivial (vars_consC enc g_errShares t_errShares Tryd.underlying51 (var?_below bel g_errShares hG_errShares hv_errShares) trivial (vars_nil enc _)))))))
  obtain ⟨rfl, rfl⟩ := hV.unique (read W _ (Below.refl _ _))
  clear hA0 hV0 hval0
  refine (lawLensGet_any a0 cap0 zs0 N0 x1 x2 W hb0 hm0 ⟨_, _, hc_errRange⟩ ⟨_, _, hc_errOver⟩ ⟨_, _, hc_errRun⟩ ⟨⟨_, _, hc_errSyms⟩, ⟨_, _, hc_errLength⟩, ⟨_, _, hc_errNoCodes⟩, ⟨_, _, hc_errShares⟩⟩ ⟨hG_errRange, hG_errOver, hG_errRun⟩).mono fun e W' ⟨he, bel⟩ => ?_
  subst he
  exact ⟨_, rfl, _, _, _, [], _, _, hW', trodAll_mk1 (shut_bool Tryd.underlying4 _),
    (trodAll_cons_mk (Below.trod Tryd.laidOut (by kernel_rfl) (of_decide_eq_true (by kernel_rfl)) k0 bel lt0) (trodAll_cons_mk (shut_int Tryd.underlying3 w1) (trodAll_cons_mk (shut_int Tryd.underlying3 w2) trodAll_mk0))),
    read W' _ bel, bel.frame _, fun h => by cases h⟩

theorem said : Rows.FnExactLensGetSaid :=
  OpenClaim.holds_of_wide 9 Tryd.f9 rfl rfl rfl rfl rfl rfl rfl ⟨rfl, rfl, rfl, rfl, rfl⟩ rfl rfl rfl rfl rfl (by kernel_rfl) Tryd.func9 (by kernel_rfl)
    (of_decide_eq_true (by kernel_rfl)) (by unfold Func.isWrapper; first | (rw [if_pos (by decide +kernel)]; kernel_rfl) | (rw [if_neg (by decide +kernel)]; exact ⟨rfl, rfl⟩))
    (fun os started H enc _ => lifted os started H enc)

theorem plain (f : FuncId) (fn : Func) (hf : Tryd.pinned.checked.prog.funcNamed "loop.example/g00528/laws.FnExactLensGet" = some f) (hfn : Tryd.pinned.checked.prog.funcs[f]? = some fn) :
    true = Tryd.pinned.checked.prog.looks [] ∧ ∀ (j : Nat) t, fn.params[j]? = some t → Tryd.pinned.checked.prog.wantsStandIn t = false := by
  obtain rfl : f = 9 := Option.some.inj ((show Tryd.prog.funcNamed "loop.example/g00528/laws.FnExactLensGet" = some 9 by kernel_rfl).symm.trans hf) |>.symm
  obtain rfl : fn = Tryd.f9 := (Option.some.inj (Tryd.func9.symm.trans hfn)).symm
  refine ⟨by kernel_rfl, fun j t ht => ?_⟩
  rw [Tryd.params9] at ht
  have hmem := Array.mem_of_getElem? ht
  have h' : t = 38 ∨ t = 3 := by simpa using hmem
  rcases h' with rfl | rfl
  · exact (show Tryd.prog.wantsStandIn 38 = false by kernel_rfl)
  · exact (show Tryd.prog.wantsStandIn 3 = false by kernel_rfl)

end cardLensGet

theorem lensGet_card : Rows.FnExactLensGetCardSaid :=
  Claim7.holds_tied_plain_at .later [] _ _ _ _ cardLensGet.said (fun _ h => by cases h) (by kernel_rfl) (fun _ h => by cases h) fnExactLensGet_row_tie rfl ⟨rfl, rfl⟩ (by kernel_rfl) rfl cardLensGet.plain (by kernel_rfl)
#print axioms lensGet_card
end Go.Proofs.YtkolfmjlkfkleaaDoor
