/-
  The law on PackBytes returns true, whatever is handed in, and writes nothing that was there.
-/
import Derived.Test.YtdkffeemnenhdaaGreatDoorPkB
import Derived.Test.YtdkffeemnenhdaaGreatDoorItM
import Derived.Test.YtdkffeemnenhdaaGreatDoorSnp0
namespace Go.Proofs.YtdkffeemnenhdaaGreatDoor
open Go.RowKit
set_option linter.unusedVariables false
set_option linter.unusedSimpArgs false

set_option maxRecDepth 20000 in
set_option maxHeartbeats 1000000 in
theorem specPackBytes_any (f : List Int → Option (List Int)) (hf : DecF f) (E O : Int) (a : Option Addr) (cap : Nat) (es : List El) (w : World) (hi : ItI w a es) (hx : FewJ es) :
    Calls Tryz.prog 26 #[.agg #[.int .i64 E, .int .i64 O, .slice a es.length cap]] w (PbA f E O es w) := by
  have hw : Below w.heap.size w (w.alloc (Obj.cells #[Value.int IntKind.i64 E, Value.int IntKind.i64 O, Value.slice a es.length cap] 29)) := (Below.refl _ _).alloc (Nat.le_refl _) _
  have hbx := Box3.new w (.int .i64 E) (.int .i64 O) (.slice a es.length cap) 29
  have HOK := specPackOk_any f hf E O a cap es _ (hi.below hw (Nat.le_refl _)) hx
  have HPB : Hid (PkR f E O es → PbR E O es) := fun h => h.pb hf hx.l (fun e he => (hi.els.1 e he).2.1)
  have HB : Hid (Els true w a es) := hi.els
  clear hi hx
  go_enter Tryz.func26, Tryz.ntmps26
  go_wp2_with fail
  generalize w.alloc (Obj.cells #[Value.int IntKind.i64 E, Value.int IntKind.i64 O, Value.slice a es.length cap] 29) = W0 at *
  refine HOK.mono ?_
  clear HOK
  rintro e w1 ⟨⟨hp, rfl⟩ | ⟨hp, rfl⟩, hb1⟩
  · have HW1 : Hid (Below w.heap.size w w1 ∧ PkR f E O es) := ⟨hw.trans (hb1.mono hw.size), hp⟩
    obtain ⟨p0, p1, p2, -, -, -, pl⟩ := hbx.step hb1
    have HSZ := l7bytes_any E O a cap es w1 (HB.out.below HW1.out.1 (Nat.le_refl _)) (HPB.out hp)
    clear hb1 hp hbx
    go_wp2_with fail
    refine HSZ.mono ?_
    clear HSZ
    rintro e w2 ⟨⟨v, rfl, hov⟩, hb2⟩
    have HW2 : Hid (Below w.heap.size w w2 ∧ OVB w2 w.heap.size v (pkL E O es)) := ⟨HW1.out.1.trans (hb2.mono HW1.out.1.size), hov.weak HW1.out.1.size⟩
    obtain ⟨va, vc, rfl⟩ := hov.form
    clear hb2 hov
    go_wp2
    go_ret2
    exact ⟨.inl ⟨_, HW1.out.2, rfl, HW2.out.2⟩, HW2.out.1⟩
  · have HW1 : Hid (Below w.heap.size w w1 ∧ ¬ PkR f E O es) := ⟨hw.trans (hb1.mono hw.size), hp⟩
    clear hb1 hp hbx
    go_wp2
    go_ret2
    exact ⟨.inr ⟨HW1.out.2, rfl⟩, HW1.out.1⟩

/-- What both answer of copies of es. -/
theorem PbA.mine {f : List Int → Option (List Int)} {E O : Int} {es ts : List El} {w w' : World} {r : Ending} {ls : List Int} {R : Bool} (h : PbA f E O ts w r w') (hc : ts.map El.ct = es.map El.ct) (hy : PkR f E O es → ls = pkL E O es ∧ R = true) (hn : ¬ PkR f E O es → ls = [] ∧ R = false) :
    (∃ a c, r = .returned (.tuple #[.slice a ls.length c, .bool R]) ∧ Mine w' w.heap.size w'.heap.size a c ls) ∧ Below w.heap.size w w' := by
  obtain ⟨⟨v, h1, rfl, h3⟩ | ⟨h1, rfl⟩, hb⟩ := h
  · obtain ⟨rfl, rfl⟩ := hy (h1.ct hc)
    rw [pkL_ct hc] at h3
    obtain ⟨a, c, rfl, hm⟩ := h3.mine
    exact ⟨⟨a, c, rfl, hm⟩, hb⟩
  · obtain ⟨rfl, rfl⟩ := hn (fun h => h1 (h.ct hc.symm))
    exact ⟨⟨none, 0, rfl, .inl ⟨rfl, rfl, rfl⟩⟩, hb⟩

/-- Copies that lie ahead of block X. -/
structure CopU (W : World) (B X : Nat) (v : Value) (ts ss : List El) : Prop where
  cop : CopT W B v ts ss
  r : ∀ k, v.ownBlock = some k → k < X
  d : ∀ e ∈ ts, ∀ k, rowOf e.a k → k < X
theorem CopU.stab {lo hi B X : Nat} {v : Value} {ts ss : List El} (h1 : lo ≤ B) (h2 : X ≤ hi) : Stab lo hi (fun W => CopU W B X v ts ss) := fun T W W' hp ho ht hl =>
  ⟨⟨hp.cop.ct, hp.cop.row.stay ho (fun k hk => ht k (by have := (hp.cop.row.blk hk).1; omega) (by have := hp.r k hk; omega)), hp.cop.deep.stay ho (fun e he k hk => ht k (by have := ((hp.cop.deep.mine e he).rowE hk).1; omega) (by have := hp.d e he k hk; omega)), hp.cop.rng⟩, hp.r, hp.d⟩
/-- The cells of a box of three. -/
def Cel3 (W : World) (b : Nat) (x y z : Value) : Prop := W.cell? ⟨b, 0, none⟩ = some x ∧ W.cell? ⟨b, 1, none⟩ = some y ∧ W.cell? ⟨b, 2, none⟩ = some z
theorem Cel3.stab {lo hi b : Nat} {x y z : Value} (h1 : lo ≤ b) (h2 : b < hi) : Stab lo hi (fun W => Cel3 W b x y z) := (Stab.cell h1 h2).and ((Stab.cell h1 h2).and (Stab.cell h1 h2))

set_option maxRecDepth 20000 in
set_option maxHeartbeats 8000000 in
theorem lawPackBytes_any (E O : Int) (a : Option Addr) (cap : Nat) (es : List El) (w : World) (hb : Els true w a es) (hm : es.length ≤ maxLen) (hS : SentB w) :
    Calls Tryz.prog 7 #[.agg #[.int .i64 E, .int .i64 O, .slice a es.length cap]] w fun e w' => e = .returned (.bool true) ∧ Below w.heap.size w w' := by
  obtain ⟨f, hf⟩ := decF_ex
  have hw : Below w.heap.size w (w.alloc (Obj.cells #[Value.int IntKind.i64 E, Value.int IntKind.i64 O, Value.slice a es.length cap] 24)) := (Below.refl _ _).alloc (Nat.le_refl _) _
  have hbx := Box3.new w (.int .i64 E) (.int .i64 O) (.slice a es.length cap) 24
  have HSZ := szPack_any E O a cap es _ (hb.below hw (Nat.le_refl _)) hm 1048576 (by omega) (by omega)
  have HB : Hid (Els true w a es ∧ SentB w) := ⟨hb, hS⟩
  obtain ⟨ls, R, hy, hno, hll⟩ : ∃ (ls : List Int) (R : Bool), (PkR f E O es → ls = pkL E O es ∧ R = true) ∧ (¬ PkR f E O es → ls = [] ∧ R = false) ∧ ls.length ≤ 256 := by
    by_cases h : PkR f E O es
    · exact ⟨pkL E O es, true, fun _ => ⟨rfl, rfl⟩, fun h' => absurd h h', by rw [pkL_len h.sz]; exact Nat.le_refl _⟩
    · exact ⟨[], false, fun h' => absurd h' h, fun _ => ⟨rfl, rfl⟩, by simp⟩
  have HSPEC : Hid (∀ (b : Option Addr) (c : Nat) (ts : List El) (W : World), ItI W b ts → FewJ ts → ts.map El.ct = es.map El.ct → Calls Tryz.prog 26 #[.agg #[.int .i64 E, .int .i64 O, .slice b es.length c]] W fun e w' => (∃ a c, e = .returned (.tuple #[.slice a ls.length c, .bool R]) ∧ Mine w' W.heap.size w'.heap.size a c ls) ∧ Below W.heap.size W w') := fun b c ts W h1 h2 h3 => by
    have h9 := specPackBytes_any f hf E O b c ts W h1 h2
    rw [len_ctE h3] at h9
    exact h9.mono fun r w' h => h.mine h3 hy hno
  have HIMPL : Hid (∀ (b : Option Addr) (c : Nat) (ts : List El) (W : World), ItI W b ts → FewJ ts → ts.map El.ct = es.map El.ct → Below w.heap.size w W → Calls Tryz.prog 27 #[.agg #[.int .i64 E, .int .i64 O, .slice b es.length c]] W fun e w' => (∃ a c, e = .returned (.tuple #[.slice a ls.length c, .bool R]) ∧ Mine w' W.heap.size w'.heap.size a c ls) ∧ Below W.heap.size W w') := fun b c ts W h1 h2 h3 h4 => by
    have h9 := implPackBytes_any f hf E O b c ts W h1 h2 (hS.below h4)
    rw [len_ctE h3] at h9
    exact h9.mono fun r w' h => h.mine h3 hy hno
  have hRR : (R != R) = false := by simp
  clear hb hS hy hno hf
  go_enter Tryz.func7, Tryz.ntmps7
  go_wp2_with fail
  generalize hW0 : w.alloc (Obj.cells #[Value.int IntKind.i64 E, Value.int IntKind.i64 O, Value.slice a es.length cap] 24) = W0 at *
  have z0 : w.heap.size < W0.heap.size := hbx.lt
  clear hW0
  refine HSZ.mono ?_
  clear HSZ
  rintro e w1 ⟨⟨z, rfl, hz⟩, hb1⟩
  have hx1 := hbx.step hb1
  have HB1 : Hid (Below w.heap.size w w1) := hw.trans (hb1.mono (by have := hw.size; omega))
  clear hb1 hw hbx z0
  rcases hz with rfl | ⟨hz0, hz1, hz2⟩
  · clear hx1
    go_wp2
    go_ret
    exact ⟨rfl, HB1.out⟩
  · have HF : Hid (FewI es ∧ es.length + elets es ≤ 1048576) := ⟨FewI.mk' (by omega), by omega⟩
    have hzn : ¬ z < 0 := by omega
    clear hz2
    obtain ⟨p0, p1, p2, -, -, -, pl⟩ := id hx1
    have HX1 : Hid _ := hx1
    clear hx1
    go_wp2_with fail
    refine (toPack_any E O a cap es w1 (HB.out.1.below HB1.out (Nat.le_refl _)) HF.out.1.n HF.out.1.l).mono ?_
    rintro e w2 ⟨⟨g2, ts, rfl, hcop⟩, hb2⟩
    have hx2 := HX1.out.step hb2
    have HB2 : Hid (Below w.heap.size w w2 ∧ w.heap.size < w2.heap.size) := ⟨HB1.out.trans (hb2.mono HB1.out.size), hx2.lt⟩
    have HSP := HSPEC.out (some ⟨g2, 0, none⟩) es.length ts w2 hcop.its (HF.out.1.ct hcop.ct).j hcop.ct
    clear HB1 p0 p1 p2 pl hb2 hcop HX1 HSPEC
    go_wp2_with fail
    refine HSP.mono ?_
    clear HSP
    rintro e w3 ⟨⟨aw, cw, rfl, hmw⟩, hb3⟩
    have hx3 := hx2.step hb3
    have HB3 : Hid (Below w.heap.size w w3 ∧ Mine w3 (w.heap.size + 1) w3.heap.size aw cw ls ∧ w.heap.size + 1 ≤ w3.heap.size) := ⟨HB2.out.1.trans (hb3.mono HB2.out.1.size), hmw.mono (by have := HB2.out.2; omega) (Nat.le_refl _), hx3.lt⟩
    clear hb3 HB2 hx2 hmw
    obtain ⟨p0, p1, p2, -, -, -, pl⟩ := id hx3
    have HX3 : Hid _ := hx3
    clear hx3
    go_wp2_with fail
    refine (toPack_any E O a cap es w3 (HB.out.1.below HB3.out.1 (Nat.le_refl _)) HF.out.1.n HF.out.1.l).mono ?_
    rintro e w4 ⟨⟨g4, us, rfl, hcop⟩, hb4⟩
    have hx4 := HX3.out.step hb4
    have hba : Below w4.heap.size w4 (w4.alloc (Obj.cells #[Value.int IntKind.i64 E, Value.int IntKind.i64 O, Value.slice (some ⟨g4, 0, none⟩) es.length es.length] 29)) := (Below.refl _ _).alloc (Nat.le_refl _) _
    have hy5 := Box3.new w4 (.int .i64 E) (.int .i64 O) (.slice (some ⟨g4, 0, none⟩) es.length es.length) 29
    have hx5 := hx4.step hba
    have hb5 := hb4.trans (hba.mono hb4.size)
    have HC5 : Hid (CopU (w4.alloc (Obj.cells #[Value.int IntKind.i64 E, Value.int IntKind.i64 O, Value.slice (some ⟨g4, 0, none⟩) es.length es.length] 29)) w3.heap.size w4.heap.size (.slice (some ⟨g4, 0, none⟩) es.length es.length) us es ∧ Below w.heap.size w (w4.alloc (Obj.cells #[Value.int IntKind.i64 E, Value.int IntKind.i64 O, Value.slice (some ⟨g4, 0, none⟩) es.length es.length] 29)) ∧ Mine (w4.alloc (Obj.cells #[Value.int IntKind.i64 E, Value.int IntKind.i64 O, Value.slice (some ⟨g4, 0, none⟩) es.length es.length] 29)) (w.heap.size + 1) w3.heap.size aw cw ls ∧ w3.heap.size ≤ w4.heap.size ∧ w4.heap.size + 1 = (w4.alloc (Obj.cells #[Value.int IntKind.i64 E, Value.int IntKind.i64 O, Value.slice (some ⟨g4, 0, none⟩) es.length es.length] 29)).heap.size) :=
      ⟨⟨hcop.below hba, fun k hk => (hcop.row.blk hk).2, fun e he k hk => ((hcop.deep.mine e he).rowE hk).2⟩, HB3.out.1.trans (hb5.mono HB3.out.1.size), HB3.out.2.1.below hb5, hb4.size, by simp⟩
    clear hcop hb4 hx4 hba p0 p1 p2 pl HX3 hb5
    obtain ⟨q0, q1, q2, -, -, -, ql⟩ := id hy5
    have HXY : Hid _ := (⟨hx5, hy5⟩ : _ ∧ _)
    clear hx5 hy5
    go_wp2_with fail
    generalize w4.alloc (Obj.cells #[Value.int IntKind.i64 E, Value.int IntKind.i64 O, Value.slice (some ⟨g4, 0, none⟩) es.length es.length] 29) = w5 at *
    have HIM := HIMPL.out (some ⟨g4, 0, none⟩) es.length us w5 HC5.out.1.cop.its (HF.out.1.ct HC5.out.1.cop.ct).j HC5.out.1.cop.ct HC5.out.2.1
    refine HIM.mono ?_
    clear HIM
    rintro e w6 ⟨⟨ag, cg, rfl, hmg⟩, hb6⟩
    have hxy6 := And.intro (HXY.out.1.step hb6) (HXY.out.2.step hb6)
    have HS6 : Hid (Snp w w6 (w.heap.size + 1) w3.heap.size (w4.heap.size + 1) w6.heap.size (fun W => Cel3 W w.heap.size (.int .i64 E) (.int .i64 O) (.slice a es.length cap)) (fun W => Mine W (w.heap.size + 1) w3.heap.size aw cw ls) (fun W => CopU W w3.heap.size w4.heap.size (.slice (some ⟨g4, 0, none⟩) es.length es.length) us es ∧ Cel3 W w4.heap.size (.int .i64 E) (.int .i64 O) (.slice (some ⟨g4, 0, none⟩) es.length es.length)) (fun W => Mine W (w4.heap.size + 1) w6.heap.size ag cg ls)) := by
      obtain ⟨h1, h2, h3, h4, h5⟩ := HC5.out
      have h6 := hb6.size
      have h7 := HB3.out.2.2
      refine ⟨h2.trans (hb6.mono (by omega)), by omega, Cel3.stab (Nat.le_refl _) (by omega), ⟨hxy6.1.c0, hxy6.1.c1, hxy6.1.c2⟩, Stab.mine (Nat.le_refl _) (Nat.le_refl _), h3.below hb6, (CopU.stab (Nat.le_refl _) (by omega)).and (Cel3.stab h4 (by omega)), ⟨⟨h1.cop.below hb6, h1.r, h1.d⟩, ⟨hxy6.2.c0, hxy6.2.c1, hxy6.2.c2⟩⟩, Stab.mine (Nat.le_refl _) (Nat.le_refl _), hmg.mono (by omega) (Nat.le_refl _)⟩
    have HU3 : Hid (w3.heap.size ≤ w4.heap.size) := HC5.out.2.2.2.1
    clear hmg hb6 HC5 HXY q0 q1 q2 ql HB3 hxy6
    generalize w6.heap.size = Z at *
    generalize w4.heap.size = X at *
    generalize w3.heap.size = U at *
    go_wp2_with fail
    refine (eqByteS_yes ag aw cg cw ls w6 HS6.out.hg.byt HS6.out.hw.byt (by omega)).mono ?_
    rintro e w7 ⟨rfl, n7, rfl⟩
    have HS7 : Hid _ := HS6.out.drew n7
    clear HS6
    generalize w6.drewN n7 = w7 at *
    go_wp2_with fail
    go_region_held3 (fun W => W.cell? ⟨w.heap.size, 0, none⟩ = some (.int .i64 E) ∧ W.cell? ⟨w.heap.size, 1, none⟩ = some (.int .i64 O) ∧ W.cell? ⟨w.heap.size, 2, none⟩ = some (.slice a es.length cap) ∧ W.cell? ⟨X, 0, none⟩ = some (.int .i64 E) ∧ W.cell? ⟨X, 1, none⟩ = some (.int .i64 O) ∧ W.cell? ⟨X, 2, none⟩ = some (.slice (some ⟨g4, 0, none⟩) es.length es.length))
      (first | exact ⟨HS7.out.hb.1, HS7.out.hb.2.1, HS7.out.hb.2.2, HS7.out.hx.2.1, HS7.out.hx.2.2.1, HS7.out.hx.2.2.2⟩ | exact ⟨HS8.out.hb.1, HS8.out.hb.2.1, HS8.out.hb.2.2, HS8.out.hx.2.1, HS8.out.hx.2.2.1, HS8.out.hx.2.2.2⟩ | exact ⟨HS9.out.hb.1, HS9.out.hb.2.1, HS9.out.hb.2.2, HS9.out.hx.2.1, HS9.out.hx.2.2.1, HS9.out.hx.2.2.2⟩)
      (first
        | (go_at_call 11; refine (toPack_any E O a cap es _ (HB.out.1.below HS7.out.bel.drew (Nat.le_refl _)) HF.out.1.n HF.out.1.l).mono ?_; rintro e w8 ⟨⟨g8, vs, rfl, hcop8⟩, hb8'⟩; have HS8 : Hid _ := HS7.out.step (Below.drewS hb8'); have HC8 : Hid _ := hcop8; clear hcop8 hb8')
        | (go_at_call 13; refine (eqPack_two E O (some ⟨g4, 0, none⟩) (some ⟨g8, 0, none⟩) es us vs w8 HS8.out.hx.1.cop HC8.out HF.out.1).mono ?_; rintro e w9 ⟨rfl, hb9⟩; have HS9 : Hid _ := HS8.out.step hb9; clear hb9))
    clear HS7 HS8 HC8
    obtain ⟨q0, q1, q2⟩ := HS9.out.hx.2
    have hul : us.length = es.length := len_ctE HS9.out.hx.1.cop.ct
    have HMK := markPack_own E O (some ⟨g4, 0, none⟩) es.length U us 1 w9 (by rw [hul]; exact HS9.out.hx.1.cop.row) HS9.out.hx.1.cop.deep (by rw [hul, elets_ct _ _ HS9.out.hx.1.cop.ct]; exact HF.out.2) (by omega) (by rw [hul, elets_ct _ _ HS9.out.hx.1.cop.ct]; have := HF.out.2; omega)
    rw [hul] at HMK
    clear hul
    go_wp2_with fail
    refine HMK.mono ?_
    clear HMK
    rintro e w10 ⟨rfl, -, ho10⟩
    have HS10 : Hid (Snp w w10 (w.heap.size + 1) U (X + 1) Z (fun W => Cel3 W w.heap.size (.int .i64 E) (.int .i64 O) (.slice a es.length cap)) (fun W => Mine W (w.heap.size + 1) U aw cw ls) (fun _ => True) (fun W => Mine W (X + 1) Z ag cg ls)) := HS9.out.markX ho10 (fun k hk => by
      rcases hk with hk | ⟨s, hs, hk⟩
      · exact ⟨(HS9.out.hx.1.cop.row.blk hk).1, by have := HS9.out.hx.1.r k hk; omega⟩
      · exact ⟨((HS9.out.hx.1.cop.deep.mine s hs).rowE hk).1, by have := HS9.out.hx.1.d s hs k hk; omega⟩) (Stab.true _ _) trivial
    clear ho10 HS9 q0 q1 q2
    have hk0 : ¬ ((1 : Int) + (elets us : Nat) + (es.length : Nat) < 0) := by omega
    go_wp2_with fail
    refine (eqByteS_yes ag aw cg cw ls w10 HS10.out.hg.byt HS10.out.hw.byt (by omega)).mono ?_
    rintro e w11 ⟨rfl, n11, rfl⟩
    have HS11 : Hid _ := HS10.out.drew n11
    clear HS10
    generalize w10.drewN n11 = w11 at *
    go_wp2_with fail
    refine (markByteS_any ag (X + 1) Z cg ls 1 _ HS11.out.hg (by omega) (by omega) (by omega)).mono ?_
    rintro e w12 ⟨rfl, hm12, ho12⟩
    have HS12 : Hid _ := HS11.out.markG ho12 (fun k hk => hm12.rowT hk) (Stab.mine (B := X + 1) (U := Z) (a := ag) (c := cg) (zs := marks 1 ls.length) (Nat.le_refl _) (Nat.le_refl _)) hm12
    clear hm12 ho12 HS11
    go_wp2_with fail
    refine (heldByteS_any ag cg ls.length 1 _ HS12.out.hg.byt (by omega) (by omega) (by omega)).mono ?_
    rintro e w13 ⟨rfl, rfl⟩
    obtain ⟨p0, p1, p2⟩ := HS12.out.hb
    go_wp2_with fail
    refine (toPack_any E O a cap es _ (HB.out.1.below HS12.out.bel (Nat.le_refl _)) HF.out.1.n HF.out.1.l).mono ?_
    rintro e w14 ⟨⟨g14, vs, rfl, hcop14⟩, hb14⟩
    have HS14 : Hid _ := HS12.out.step hb14
    have HIM := HIMPL.out (some ⟨g14, 0, none⟩) es.length vs w14 hcop14.its (HF.out.1.ct hcop14.ct).j hcop14.ct HS14.out.bel
    clear hb14 hcop14 HS12 p0 p1 p2 HIMPL
    go_wp2_with fail
    refine HIM.mono ?_
    clear HIM
    rintro e w15 ⟨⟨ah, ch, rfl, hmh⟩, hb15⟩
    have HS15 : Hid _ := HS14.out.step hb15
    have HMH : Hid (Byt w15 ah ls) := hmh.byt
    clear hmh hb15 HS14
    go_wp2_with fail
    refine (eqByteS_yes ah aw ch cw ls w15 HMH.out HS15.out.hw.byt (by omega)).mono ?_
    rintro e w16 ⟨rfl, n16, rfl⟩
    have HS16 : Hid _ := HS15.out.drew n16
    clear HS15 HMH
    generalize w15.drewN n16 = w16 at *
    go_wp2_with fail
    refine (heldByteS_any ag cg ls.length 1 _ HS16.out.hg.byt (by omega) (by omega) (by omega)).mono ?_
    rintro e w17 ⟨rfl, rfl⟩
    go_wp2
    go_ret
    exact ⟨rfl, HS16.out.bel⟩
end Go.Proofs.YtdkffeemnenhdaaGreatDoor
