/-
  FnFses, for every input: the call returns true and leaves its arguments as they were, where the named variables hold what the program's own text lays there (the card ties them to it).
-/
import Derived.Test.YtmhpgkfaihcmeaaDoorDrFput
import Derived.Test.YtmhpgkfaihcmeaaDoorFgI
import Derived.Test.YtmhpgkfaihcmeaaDoorFr1
import Derived.Test.YtmhpgkfaihcmeaaDoorSameI
import Derived.Test.YtmhpgkfaihcmeaaDoorINorm4
import Derived.Test.YtmhpgkfaihcmeaaDoorINormM
import Derived.Test.YtmhpgkfaihcmeaaDoorEncB
import Derived.Test.YtmhpgkfaihcmeaaDoorVarsC
import Derived.Test.YtmhpgkfaihcmeaaDoorVars3
namespace Go.Proofs.YtmhpgkfaihcmeaaDoor
open Go.RowKit
set_option linter.unusedVariables false

theorem oneF_sum : sumF one [3, 0, 1] = 2 := by decide
theorem oneF_room : roomy [3, 0, 1] := by unfold roomy; rw [oneF_sum]; omega
theorem oneF_cnt : cntB [3, 0, 1] = true := by decide
theorem oneF_shares : shares [3, 0, 1] (rest [3, 0, 1]) = [48, 0, 16] := by decide +kernel
theorem OVI.insF {w : World} {B n c : Nat} {a : Option Addr} {l : List Int} (h : OVI w B (.slice a n c) l) : Ins w a l := by
  obtain ⟨a', cp, he, hm⟩ := h.mine
  simp at he
  obtain ⟨rfl, _⟩ := he
  exact hm.byt

set_option maxRecDepth 20000 in
set_option maxHeartbeats 8000000 in
theorem lawFnFses_any (a : Option Addr) (cap : Nat) (bs : List Int) (w : World) (hb : Byt w a bs) (hm : bs.length ≤ maxLen) (hS : SentF w) (hP : SentP w) :
    Calls Tryd.prog 3 #[.slice a bs.length cap] w fun e w' => e = .returned (.bool true) ∧ Below w.heap.size w w' := by
  go_enter Tryd.func3, Tryd.ntmps3
  go_wp2_with fail
  refine (drawFsePut_any a bs cap w hb hm).mono ?_
  rintro e w1 ⟨v, u, l, t, rfl, hov, hot, hl81, ht30, hb1⟩
  obtain ⟨al, cl, rfl⟩ := hov.form
  obtain ⟨at0, ct, rfl⟩ := hot.form
  have HL1 : Hid (Ins w1 al l ∧ Ins w1 at0 t ∧ Below w.heap.size w w1) := ⟨hov.insF, hot.insF, hb1⟩
  have HSN : Hid (SentF w ∧ SentP w) := ⟨hS, hP⟩
  clear hov hot hb1 hb hm hS hP
  by_cases hargs : fpArgs l t ∧ shd l t
  · obtain ⟨⟨h1, h2⟩, h3⟩ := hargs
    obtain ⟨T, hTe⟩ : ∃ T, tb (pl (fl 0 l) (plc 64)) l 64 = T := ⟨_, rfl⟩
    have HTU : TabU T l := by rw [← hTe]; exact tabU_tb h1
    have hts : ∀ k, k < t.length → 0 ≤ t.getD k 0 ∧ t.getD k 0 < l.length := fun k hk => txtB_get h2 k hk
    have HIP := implFsePut_ok al cl l at0 ct t T w1 HL1.out.1 HL1.out.2.1 h1 h2 hTe (HSN.out.2.below HL1.out.2.2)
    have hback := fse_back HTU.toTab hts h3
    have hNle := fN_le HTU.toTab hts h3 (txtB_bnd h2).2.2
    have hVlt : fV T t < 2 ^ fN T t := by
      obtain ⟨k1, _, k3⟩ := fpS_ok HTU.toTab hts t.length (Nat.le_refl _) (fun j hj => h3 _ (by omega))
      unfold fV fN
      exact put_lt _ _ 6 _ k3 (by omega)
    have hst3 := (txtB_bnd h2).2.2
    have HFG : Hid (∀ (W : World) (x : Option Addr) (cx : Nat), Ins W al l → Byt W x (enc (fN T t) (fV T t)) → SentF W → Calls Tryd.prog 9 #[.slice al l.length cl, .agg #[.slice x (enc (fN T t) (fV T t)).length cx, .int .i64 (fN T t : Nat)], .int .i64 (t.length : Nat)] W fun e w' => ∃ g, e = .returned (.tuple #[.slice (some ⟨g, 0, none⟩) t.length t.length, .bool true]) ∧ Ins w' (some ⟨g, 0, none⟩) t ∧ Below W.heap.size W w') := by
      intro W x cx hl hx hS
      have hval := val_encB _ _ hVlt
      refine (implFseGet_ok al cl l x cx _ (fN T t) t.length T W hl hx (by rw [hval]) (by omega) (by omega) h1 (okB_encB _ _ (by omega) hVlt) hTe hS).mono ?_
      rintro e w' ⟨hb', -, hy⟩
      rw [hval] at hy
      obtain ⟨g, rfl, how⟩ := hy hback.1
      rw [hback.2] at how
      exact ⟨g, rfl, how.byt, hb'⟩
    have HOK : Hid (okB ((fN T t : Nat) : Int) (enc (fN T t) (fV T t)) = true ∧ (enc (fN T t) (fV T t)).length ≤ 600) := ⟨okB_encB _ _ (by omega) hVlt, by rw [enc_len]; omega⟩
    generalize enc (fN T t) (fV T t) = es at *
    generalize fN T t = N at *
    have H3 : Hid (shd l t) := h3
    clear h1 h2 hts HTU hback hVlt h3 hTe
    go_wp2_with fail
    refine HIP.mono ?_
    clear HIP
    rintro e w2 ⟨hb2, hy, -⟩
    obtain ⟨a', cp, rfl, hmine⟩ := hy H3.out
    have HB2 : Hid (Below w.heap.size w w2 ∧ w.heap.size ≤ w2.heap.size) := ⟨HL1.out.2.2.trans (hb2.mono HL1.out.2.2.size), Nat.le_trans HL1.out.2.2.size hb2.size⟩
    have hA : Below w2.heap.size w2 (w2.alloc (Obj.cells #[Value.slice a' es.length cp, Value.int IntKind.i64 (N : Nat)] 27)) := (Below.refl _ _).alloc (Nat.le_refl _) _
    have HA : Hid (Ins (w2.alloc (Obj.cells #[Value.slice a' es.length cp, Value.int IntKind.i64 (N : Nat)] 27)) al l ∧ Ins (w2.alloc (Obj.cells #[Value.slice a' es.length cp, Value.int IntKind.i64 (N : Nat)] 27)) at0 t ∧ Byt (w2.alloc (Obj.cells #[Value.slice a' es.length cp, Value.int IntKind.i64 (N : Nat)] 27)) a' es ∧ (w2.alloc (Obj.cells #[Value.slice a' es.length cp, Value.int IntKind.i64 (N : Nat)] 27)).cell? ⟨w2.heap.size, 0, none⟩ = some (.slice a' es.length cp) ∧ (w2.alloc (Obj.cells #[Value.slice a' es.length cp, Value.int IntKind.i64 (N : Nat)] 27)).cell? ⟨w2.heap.size, 1, none⟩ = some (.int .i64 N) ∧ w2.heap.size < (w2.alloc (Obj.cells #[Value.slice a' es.length cp, Value.int IntKind.i64 (N : Nat)] 27)).heap.size ∧ Below w.heap.size w (w2.alloc (Obj.cells #[Value.slice a' es.length cp, Value.int IntKind.i64 (N : Nat)] 27))) :=
      ⟨(HL1.out.1.below hb2 (Nat.le_refl _)).below hA (Nat.le_refl _), (HL1.out.2.1.below hb2 (Nat.le_refl _)).below hA (Nat.le_refl _), hmine.byt.below hA (Nat.le_refl _), by simp, by simp, by simp, HB2.out.1.trans (hA.mono HB2.out.2)⟩
    have HIN : Hid (∀ T, Ins ((w2.alloc (Obj.cells #[Value.slice a' es.length cp, Value.int IntKind.i64 (N : Nat)] 27)).alloc (.cells #[.int .i64 3, .int .i64 0, .int .i64 1] T)) (some ⟨w2.heap.size + 1, 0, none⟩) [3, 0, 1]) := fun T => by
      have := ins_newN (w2.alloc (Obj.cells #[Value.slice a' es.length cp, Value.int IntKind.i64 (N : Nat)] 27)) T [3, 0, 1] (by intro z hz; simp at hz; omega)
      rw [World.size_alloc] at this
      simpa using this
    clear hb2 hy hmine hA HL1
    go_wp2_with fail
    generalize w2.alloc (Obj.cells #[Value.slice a' es.length cp, Value.int IntKind.i64 (N : Nat)] 27) = W at *
    refine (implNorm_ok (some ⟨w2.heap.size + 1, 0, none⟩) 3 [3, 0, 1] _ (HIN.out _) oneF_cnt).mono ?_
    rintro e w3 ⟨hb3, -, hy3⟩
    obtain ⟨rfl, -⟩ := hy3 oneF_room
    have hbW3 : Below W.heap.size W w3 := ((Below.refl W.heap.size W).alloc (Nat.le_refl _) _).trans (hb3.mono (by simp))
    have q0 := keep hbW3 HA.out.2.2.2.2.2.1 HA.out.2.2.2.1
    have q1 := keep hbW3 HA.out.2.2.2.2.2.1 HA.out.2.2.2.2.1
    have HF3 : Hid (Ins w3 al l ∧ Ins w3 at0 t ∧ Byt w3 a' es ∧ w3.cell? ⟨w2.heap.size, 0, none⟩ = some (.slice a' es.length cp) ∧ w3.cell? ⟨w2.heap.size, 1, none⟩ = some (.int .i64 N) ∧ w2.heap.size < w3.heap.size ∧ Below w.heap.size w w3) := ⟨HA.out.1.below hbW3 (Nat.le_refl _), HA.out.2.1.below hbW3 (Nat.le_refl _), HA.out.2.2.1.below hbW3 (Nat.le_refl _), q0, q1, Nat.lt_of_lt_of_le HA.out.2.2.2.2.2.1 hbW3.size, HA.out.2.2.2.2.2.2.trans (hbW3.mono HA.out.2.2.2.2.2.2.size)⟩
    clear hb3 hbW3 HA hy3 HIN
    have HG := HFG.out w3 a' cp HF3.out.1 HF3.out.2.2.1 (HSN.out.1.below HF3.out.2.2.2.2.2.2)
    clear HFG
    go_wp2_with fail
    refine HG.mono ?_
    clear HG
    rintro e w4 ⟨gq, rfl, hiq, hb4⟩
    have HF4 : Hid (Ins w4 (some ⟨gq, 0, none⟩) t ∧ Ins w4 at0 t ∧ Byt w4 a' es ∧ Below w.heap.size w w4) := ⟨hiq, HF3.out.2.1.below hb4 (Nat.le_refl _), HF3.out.2.2.1.below hb4 (Nat.le_refl _), HF3.out.2.2.2.2.2.2.trans (hb4.mono HF3.out.2.2.2.2.2.2.size)⟩
    have r0 := keep hb4 HF3.out.2.2.2.2.2.1 HF3.out.2.2.2.1
    have r1 := keep hb4 HF3.out.2.2.2.2.2.1 HF3.out.2.2.2.2.1
    clear hiq hb4 q0 q1 HF3
    have HSM := sameInts_yes (some ⟨gq, 0, none⟩) at0 t.length ct t w4 HF4.out.1 HF4.out.2.1 (by omega)
    go_wp2_with fail
    refine HSM.mono ?_
    clear HSM
    rintro e w5 ⟨rfl, m5, rfl⟩
    have HBK := implOk_any a' cp es (N : Int) (w4.drewN m5) (HF4.out.2.2.1.drewN m5) (by have := HOK.out.2; omega)
    rw [HOK.out.1] at HBK
    go_wp2_with fail
    refine HBK.mono ?_
    clear HBK
    rintro e w6 ⟨rfl, hb6⟩
    have HF6 : Hid (Below w.heap.size w w6 ∧ True) := ⟨(below_dP HF4.out.2.2.2 m5).trans (hb6.mono HF4.out.2.2.2.size), trivial⟩
    clear hb6
    go_wp2
    go_ret
    exact ⟨rfl, HF6.out.1⟩
  · have HIP : Calls Tryd.prog 7 #[.slice al l.length cl, .slice at0 t.length ct] w1 fun e w' => e = .returned (.tuple #[.agg #[.slice none 0 0, .int .i64 0], .bool false]) ∧ Below w1.heap.size w1 w' := by
      by_cases hf : fpArgs l t
      · refine (implFsePut_ok al cl l at0 ct t _ w1 HL1.out.1 HL1.out.2.1 hf.1 hf.2 rfl (HSN.out.2.below HL1.out.2.2)).mono ?_
        rintro e w' ⟨hb', -, hn⟩
        exact ⟨hn (fun h => hargs ⟨hf, h⟩), hb'⟩
      · exact implFsePut_no al cl l at0 ct t w1 HL1.out.1 HL1.out.2.1 (by omega) (by omega) hf
    clear hargs
    go_wp2_with fail
    refine HIP.mono ?_
    clear HIP
    rintro e w2 ⟨rfl, hb2⟩
    have hA : Below w2.heap.size w2 (w2.alloc (Obj.cells #[Value.slice none 0 0, Value.int IntKind.i64 0] 27)) := (Below.refl _ _).alloc (Nat.le_refl _) _
    have HA : Hid ((w2.alloc (Obj.cells #[Value.slice none 0 0, Value.int IntKind.i64 0] 27)).cell? ⟨w2.heap.size, 1, none⟩ = some (.int .i64 0) ∧ w2.heap.size < (w2.alloc (Obj.cells #[Value.slice none 0 0, Value.int IntKind.i64 0] 27)).heap.size ∧ Below w.heap.size w (w2.alloc (Obj.cells #[Value.slice none 0 0, Value.int IntKind.i64 0] 27))) := ⟨by simp, by simp, (HL1.out.2.2.trans (hb2.mono HL1.out.2.2.size)).trans (hA.mono (Nat.le_trans HL1.out.2.2.size hb2.size))⟩
    have HIN : Hid (∀ T, Ins ((w2.alloc (Obj.cells #[Value.slice none 0 0, Value.int IntKind.i64 0] 27)).alloc (.cells #[.int .i64 3, .int .i64 0, .int .i64 1] T)) (some ⟨w2.heap.size + 1, 0, none⟩) [3, 0, 1]) := fun T => by
      have := ins_newN (w2.alloc (Obj.cells #[Value.slice none 0 0, Value.int IntKind.i64 0] 27)) T [3, 0, 1] (by intro z hz; simp at hz; omega)
      rw [World.size_alloc] at this
      simpa using this
    clear hb2 hA HL1
    go_wp2_with fail
    generalize w2.alloc (Obj.cells #[Value.slice none 0 0, Value.int IntKind.i64 0] 27) = W at *
    refine (implNorm_ok (some ⟨w2.heap.size + 1, 0, none⟩) 3 [3, 0, 1] _ (HIN.out _) oneF_cnt).mono ?_
    rintro e w3 ⟨hb3, -, hy3⟩
    obtain ⟨rfl, -⟩ := hy3 oneF_room
    have hbW3 : Below W.heap.size W w3 := ((Below.refl W.heap.size W).alloc (Nat.le_refl _) _).trans (hb3.mono (by simp))
    have q1 := keep hbW3 HA.out.2.1 HA.out.1
    have HF3 : Hid (Below w.heap.size w w3 ∧ True) := ⟨HA.out.2.2.trans (hbW3.mono HA.out.2.2.size), trivial⟩
    clear hb3 hbW3 HA hy3 HIN
    go_wp2
    go_ret
    exact ⟨rfl, HF3.out.1⟩
end Go.Proofs.YtmhpgkfaihcmeaaDoor
namespace Go.Proofs.YtmhpgkfaihcmeaaDoor.cardFnFses
open Go.ChangeShapes Go.WideShapes Go.ChangeAt Go.RowKit Go.Joins
set_option linter.unusedVariables false

theorem g_errOver : Tryd.prog.globalNamed "loop.example/g00528/impl.errOver" = some 5 := by kernel_rfl
theorem t_errOver : (Tryd.prog.globals[5]?).map (·.type) = some 55 := by kernel_rfl
theorem g_errFull : Tryd.prog.globalNamed "loop.example/g00528/impl.errFull" = some 4 := by kernel_rfl
theorem t_errFull : (Tryd.prog.globals[4]?).map (·.type) = some 55 := by kernel_rfl
theorem g_errRange : Tryd.prog.globalNamed "loop.example/g00528/impl.errRange" = some 3 := by kernel_rfl
theorem t_errRange : (Tryd.prog.globals[3]?).map (·.type) = some 55 := by kernel_rfl
theorem g_errNoShare : Tryd.prog.globalNamed "loop.example/g00528/impl.errNoShare" = some 2 := by kernel_rfl
theorem t_errNoShare : (Tryd.prog.globals[2]?).map (·.type) = some 55 := by kernel_rfl
theorem g_errOtherText : Tryd.prog.globalNamed "loop.example/g00528/impl.errOtherText" = some 0 := by kernel_rfl
theorem t_errOtherText : (Tryd.prog.globals[0]?).map (·.type) = some 55 := by kernel_rfl
theorem door_met (os : Os) (args : Array Value) : laidMetH Tryd.prog Rows.fnFsesRow.laid ((World.doorLaid Tryd.prog 123 os).forCall (fun _ _ => 0) ⟨#[], args, []⟩).memory :=
  laidMetH_of_parts3 (fuel := 8) (laidMet_of_run' 8 (by kernel_rfl) (by kernel_rfl)) (by kernel_rfl) (by kernel_rfl)

set_option maxRecDepth 100000 in
theorem lifted (os : Os) (started : os.Started) (H : Type) (enc : TypeId × Value → H) :
    ReturnsInHanded {} Tryd.checked os 3 .any (fun w args => (Rows.fnFsesSpec.pre enc Tryd.prog Tryd.f3 [] false w args ∧ laidMetH Tryd.prog Rows.fnFsesRow.laid w) ∧ sizedMet enc Tryd.prog Tryd.f3 (OpenSpec.ofChange Rows.fnFsesSpec) false w args)
      (Rows.fnFsesSpec.post enc Tryd.prog Tryd.f3 false true false false) := by
  refine returnsInHanded_of_change_and (C := Tryd.checked) (X := fun w _ => laidMetH Tryd.prog Rows.fnFsesRow.laid w) (fun _ _ _ hh h => h.of_heap hh) Tryd.own started (by kernel_rfl) Tryd.func3
    (ChangeSpec.witness_shaped (enc := enc) (C := Tryd.checked) (os := os) (X := fun w _ => laidMetH Tryd.prog Rows.fnFsesRow.laid w) false (World.doorLaid Tryd.prog 123 os) #[.slice .none 0 0] 8 rfl (World.shaped_of_RefB (by kernel_rfl) (by kernel_rfl)) (by kernel_rfl) (by kernel_rfl) (by kernel_rfl) (door_met os _)) ?_
  intro W base args ds gs before hval0 hW _ _ hL _
  have hval : ∀ (j : Nat) t v, Tryd.f3.params[j]? = some t → args[j]? = some v → Value.okWide Tryd.prog W .any base t v := hval0
  have hW' := hW
  obtain ⟨p, q, hA0, hV0, rfl, hfz, hnd⟩ := hW
  have hA : DataW.TrodAll enc Tryd.prog W 0 (fun _ => true) true Tryd.f3.params.toList args.toList ds p := hA0
  have hV : DataW.TrodVars enc Tryd.prog W (fun _ => true) ["loop.example/g00528/impl.errNoShare", "loop.example/g00528/impl.errRange", "loop.example/g00528/impl.errFull", "loop.example/g00528/impl.errOtherText", "loop.example/g00528/impl.errOver"] gs q := hV0
  rw [Tryd.params3] at hA hval
  obtain ⟨v0, vs0, d0, ds0, p0, q0, hargs, rfl, rfl, h0, r0⟩ := trodAll_cons hA
  obtain ⟨rfl, rfl, rfl⟩ := trodAll_nil r0
  obtain rfl : args = #[v0] := by cases args; simp_all
  have k0 := h0
  have lt0 : ∀ x ∈ p0, x.block < W.heap.size := by obtain ⟨m, hm⟩ := k0; exact DataW.trod_lt m _ _ _ hm
  obtain ⟨sa0, sl0, sc0, rfl⟩ := okWide_slice Tryd.underlying22 (hval 0 22 v0 rfl rfl)
  obtain ⟨fuel0, hf0⟩ := h0
  obtain ⟨a0, zs0, cap0, hv0, hb0, hm0⟩ := byt_of_trod (v := .slice sa0 sl0 sc0) (by simpa [Value.cells] using hf0)
  rw [hv0] at hW' k0 ⊢
  rw [MakeChecks.laidMetH_plain _ _ _ (by kernel_rfl)] at hL
  obtain ⟨s_errOver, hv_errOver, hc_errOver⟩ := sentinel hL g_errOver t_errOver
  have hG_errOver : 5 < W.heap.size := World.block_lt_of_cell? _ _ hc_errOver
  obtain ⟨s_errFull, hv_errFull, hc_errFull⟩ := sentinel hL.tail g_errFull t_errFull
  have hG_errFull : 4 < W.heap.size := World.block_lt_of_cell? _ _ hc_errFull
  obtain ⟨s_errRange, hv_errRange, hc_errRange⟩ := sentinel hL.tail.tail g_errRange t_errRange
  have hG_errRange : 3 < W.heap.size := World.block_lt_of_cell? _ _ hc_errRange
  obtain ⟨s_errNoShare, hv_errNoShare, hc_errNoShare⟩ := sentinel hL.tail.tail.tail g_errNoShare t_errNoShare
  have hG_errNoShare : 2 < W.heap.size := World.block_lt_of_cell? _ _ hc_errNoShare
  obtain ⟨s_errOtherText, hv_errOtherText, hc_errOtherText⟩ := sentinel hL.tail.tail.tail.tail g_errOtherText t_errOtherText
  have hG_errOtherText : 0 < W.heap.size := World.block_lt_of_cell? _ _ hc_errOtherText
  have read : ∀ (W' : World) (sp : Nat → Bool), Below W.heap.size W W' → DataW.TrodVars enc Tryd.prog W' sp ["loop.example/g00528/impl.errNoShare", "loop.example/g00528/impl.errRange", "loop.example/g00528/impl.errFull", "loop.example/g00528/impl.errOtherText", "loop.example/g00528/impl.errOver"] _ _ := fun W' sp bel =>
    vars_consC enc g_errNoShare t_errNoShare Tryd.underlying55 (var?_below bel g_errNoShare hG_errNoShare hv_errNoShare) trivial (vars_consC enc g_errRange t_errRange Tryd.underlying55 (var?_below bel g_errRange hG_errRange hv_errRange) trivial (vars_consC enc g_errFull t_errFull Tryd.underlying55 (var?_below bel g_errFull hG_errFull hv_errFull) trivial (vars_consC enc g_errOtherText t_errOtherText Tryd.underlying55 (var?_below bel g_errOtherText hG_errOtherText hv_errOtherText) trivial (vars_consC enc g_errOver t_errOver Tryd.underlying55 (var?_below bel g_errOver hG_errOver hv_errOver) trivial (vars_nil enc _)))))
  obtain ⟨rfl, rfl⟩ := hV.unique (read W _ (Below.refl _ _))
  clear hA0 hV0 hval0
  refine (lawFnFses_any a0 cap0 zs0 W hb0 hm0 ⟨⟨_, _, hc_errRange⟩, ⟨_, _, hc_errOver⟩, ⟨_, _, hc_errOtherText⟩, hG_errRange, hG_errOver, hG_errOtherText⟩ ⟨⟨_, _, hc_errNoShare⟩, hG_errNoShare⟩).mono fun e W' ⟨he, bel⟩ => ?_
  subst he
  exact ⟨_, rfl, _, _, _, [], _, _, hW', trodAll_mk1 (shut_bool Tryd.underlying4 _),
    (trodAll_cons_mk (Below.trod Tryd.laidOut (by kernel_rfl) (of_decide_eq_true (by kernel_rfl)) k0 bel lt0) trodAll_mk0),
    read W' _ bel, bel.frame _, fun h => by cases h⟩

theorem said : Rows.FnFsesSaid :=
  OpenClaim.holds_of_wide 3 Tryd.f3 rfl rfl rfl rfl rfl rfl rfl ⟨rfl, rfl, rfl, rfl, rfl⟩ rfl rfl rfl rfl rfl (by kernel_rfl) Tryd.func3 (by kernel_rfl)
    (of_decide_eq_true (by kernel_rfl)) (by unfold Func.isWrapper; first | (rw [if_pos (by decide +kernel)]; kernel_rfl) | (rw [if_neg (by decide +kernel)]; exact ⟨rfl, rfl⟩))
    (fun os started H enc _ => lifted os started H enc)

theorem plain (f : FuncId) (fn : Func) (hf : Tryd.pinned.checked.prog.funcNamed "loop.example/g00528/laws.FnFses" = some f) (hfn : Tryd.pinned.checked.prog.funcs[f]? = some fn) :
    false = Tryd.pinned.checked.prog.looks [] ∧ ∀ (j : Nat) t, fn.params[j]? = some t → Tryd.pinned.checked.prog.wantsStandIn t = false := by
  obtain rfl : f = 3 := Option.some.inj ((show Tryd.prog.funcNamed "loop.example/g00528/laws.FnFses" = some 3 by kernel_rfl).symm.trans hf) |>.symm
  obtain rfl : fn = Tryd.f3 := (Option.some.inj (Tryd.func3.symm.trans hfn)).symm
  refine ⟨by kernel_rfl, fun j t ht => ?_⟩
  rw [Tryd.params3] at ht
  have hmem := Array.mem_of_getElem? ht
  have h' : t = 22 := by simpa using hmem
  rcases h' with rfl
  · exact (show Tryd.prog.wantsStandIn 22 = false by kernel_rfl)

end cardFnFses

theorem fnFses_card : Rows.FnFsesCardSaid :=
  Claim7.holds_tied_plain_at .later [] _ _ _ _ cardFnFses.said (fun _ h => by cases h) (by kernel_rfl) (fun _ h => by cases h) fnFses_row_tie rfl ⟨rfl, rfl⟩ (by kernel_rfl) rfl cardFnFses.plain (by kernel_rfl)
#print axioms fnFses_card
end Go.Proofs.YtmhpgkfaihcmeaaDoor
