/-
  FnSupers returns true, whatever is handed in, and writes nothing that was there. (Typed by wip/mkfnsup.py.)
-/
import Derived.Test.YtnelpioadpdphaaDrNs
import Derived.Test.YtnelpioadpdphaaSupP
import Derived.Test.YtnelpioadpdphaaMpNwI
import Derived.Test.YtnelpioadpdphaaMpOkS
namespace Go.Proofs.Ytnelpioadpdphaa
open Go.RowKit
set_option linter.unusedVariables false
set_option linter.unusedSimpArgs false

theorem OVB.caps {w : World} {B : Nat} {a : Option Addr} {n c : Nat} {zs : List Int} (h : OVB w B (.slice a n c) zs) : zs.length ≤ c ∧ c ≤ 9223372036854775807 := by
  rcases h.1.2 with ⟨e, h0⟩ | ⟨g', cap', cur, e, _, _, h1, h2, _⟩
  · simp at e
    omega
  · simp at e
    obtain ⟨-, -, rfl⟩ := e
    unfold maxLen at h2
    omega
theorem DrY.caps {w W : World} {sa : Option Addr} {sc : Nat} {zs : List Int} (h : DrY w W sa sc zs) : zs.length ≤ sc ∧ sc ≤ 9223372036854775807 := by
  have := h.cap
  unfold maxLen at this
  omega
theorem srP_lenS (zs : List Int) : (srP zs).length ≤ 16 := by
  unfold srP
  split
  · rename_i h
    unfold srB at h
    simp only [Bool.and_eq_true] at h
    have hb := h.2.1
    unfold sbB at hb
    simp only [Bool.and_eq_true] at hb
    exact (mapB_len _ hb.2).2
  · simp
theorem nsP_lenS (zs ys : List Int) : (nsP zs ys).length ≤ 16 := by
  unfold nsP
  split
  · exact srP_lenS ys
  · exact srP_lenS zs

theorem or_noS {a b : Bool} (h : false = (a || b)) : a = false ∧ b = false := by
  cases a <;> cases b <;> simp_all
theorem or_yesS {a b : Bool} (h : true = (a || b)) : (a = true ∧ b = false) ∨ (a = false ∧ b = true) ∨ (a = true ∧ b = true) := by
  cases a <;> cases b <;> simp_all

set_option maxRecDepth 20000 in
set_option maxHeartbeats 32000000 in
theorem lawFnSupers_any (a : Option Addr) (cap : Nat) (bs : List Int) (w : World) (hb : Byt w a bs) (hm : bs.length ≤ maxLen) :
    Calls Try.prog 3 #[.slice a bs.length cap] w fun e w' => e = .returned (.bool true) ∧ Below w.heap.size w w' := by
  have HB : Hid (Byt w a bs) := hb
  have HM : Hid (bs.length ≤ maxLen) := hm
  clear hb hm
  go_enter Try.func3, Try.ntmps3
  go_wp2_with fail
  refine (drawSuperBytes_any a bs cap w HB.out HM.out).mono ?_
  rintro r w1 ⟨e, va, vc, ps, rfl, hl1, hp1, hb1⟩
  have hba : Below w1.heap.size w1 (w1.alloc (Obj.cells #[.slice va ps.length vc] 25)) := (Below.refl _ _).alloc (Nat.le_refl _) _
  have H1 : Hid (Below w.heap.size w (w1.alloc (Obj.cells #[.slice va ps.length vc] 25)) ∧ Pls (w1.alloc (Obj.cells #[.slice va ps.length vc] 25)) va ps ∧ (w1.alloc (Obj.cells #[.slice va ps.length vc] 25)).cell? ⟨w1.heap.size, 0, none⟩ = some (.slice va ps.length vc) ∧ w1.heap.size < (w1.alloc (Obj.cells #[.slice va ps.length vc] 25)).heap.size ∧ w.heap.size ≤ w1.heap.size) := ⟨hb1.trans (hba.mono hb1.size), hp1.below hba (Nat.le_refl _), by simp, by simp, hb1.size⟩
  have HSB := implSuperBytes_any va vc ps e _ H1.out.2.1 (by omega)
  clear hba hp1 hb1
  go_wp2_with fail
  refine HSB.mono ?_
  clear HSB
  generalize w1.alloc (Obj.cells #[.slice va ps.length vc] 25) = w2 at *
  generalize w1.heap.size = X at *
  rintro r w3 ⟨⟨vs, rfl, hos⟩, hb3⟩
  obtain ⟨sa, sc, hvs⟩ := hos.form
  subst hvs
  have hX3 : X < w3.heap.size := Nat.lt_of_lt_of_le H1.out.2.2.2.1 hb3.size
  have H3 : Hid (Below w.heap.size w w3 ∧ Pls w3 va ps ∧ OVB w3 w2.heap.size (.slice sa (sbA e ps).length sc) (sbA e ps) ∧ w.heap.size ≤ X ∧ w.heap.size ≤ w3.heap.size) := ⟨H1.out.1.trans (hb3.mono H1.out.1.size), H1.out.2.1.below hb3 (Nat.le_refl _), hos, H1.out.2.2.2.2, Nat.le_trans H1.out.1.size hb3.size⟩
  have c3 := keep hb3 H1.out.2.2.2.1 H1.out.2.2.1
  clear hos hb3 H1
  by_cases he : 0 ≤ e ∧ e ≤ 60000
  · have h60 : e ≤ 60000 := he.2
    have he0 : 0 ≤ e := he.1
    have HMO := specMapOk_any va vc ps w3 H3.out.2.1 (by omega)
    cases hmb : mapB ps with
    | true =>
      obtain ⟨hsb, hsa⟩ := sb_yes e ps he hmb
      rw [hmb] at HMO
      obtain ⟨q1, q2, q3⟩ := sr_back hsb
      rw [hsa] at H3 ⊢
      rw [hsb]
      clear hsa he
      go_wp2_with fail
      refine HMO.mono ?_
      clear HMO
      rintro r w4 ⟨rfl, hb4⟩
      have c4 := keep hb4 hX3 c3
      have H4 : Hid (Below w.heap.size w w4 ∧ Pls w4 va ps ∧ OVB w4 w2.heap.size (.slice sa (sbL e ps).length sc) (sbL e ps) ∧ w.heap.size ≤ w4.heap.size) := ⟨H3.out.1.trans (hb4.mono H3.out.2.2.2.2), H3.out.2.1.below hb4 (Nat.le_refl _), H3.out.2.2.1.below hb4, Nat.le_trans H3.out.2.2.2.2 hb4.size⟩
      have hX4 : X < w4.heap.size := Nat.lt_of_lt_of_le hX3 hb4.size
      have hsl := sbL_len e ps (mapB_len ps hmb).2
      have hcp := H4.out.2.2.1.caps
      have HRD := implSuperRead_any sa sc (sbL e ps) w4 H4.out.2.2.1.byt (by omega) hcp.1 hcp.2
      rw [q1, q2, q3] at HRD
      clear hb4 c3 H3 hmb hsl hcp q1 q2 q3 hsb
      go_wp2_with fail
      refine HRD.mono ?_
      clear HRD
      rintro r w5 ⟨⟨na, nc, rfl, hmn⟩, hb5⟩
      have hba : Below w5.heap.size w5 (w5.alloc (Obj.cells #[.slice na ps.length nc] 25)) := (Below.refl _ _).alloc (Nat.le_refl _) _
      have hb6 := hb5.trans (hba.mono hb5.size)
      have c6 := keep hb6 hX4 c4
      have hee : (e != e) = false := by simp
      have HSP := samePlaces_yes na va nc vc ps _ (hmn.below hba).pls (H4.out.2.1.below hb6 (Nat.le_refl _)) (by omega)
      have H6 : Hid (Below w.heap.size w (w5.alloc (Obj.cells #[.slice na ps.length nc] 25)) ∧ w.heap.size ≤ (w5.alloc (Obj.cells #[.slice na ps.length nc] 25)).heap.size) := by
        have h7 := hb6.size
        have h8 := H4.out.2.2.2
        exact ⟨H4.out.1.trans (hb6.mono h8), by omega⟩
      clear hba hb5 hb6 hmn c4 H4
      go_wp2_with fail
      refine HSP.mono ?_
      clear HSP
      rintro r W ⟨rfl, hb7⟩
      have HW : Hid (Below w.heap.size w W) := H6.out.1.trans (hb7.mono H6.out.2)
      clear hb7 H6 c6
      go_wp2_with fail
      refine (drawNewest_any a bs cap W (HB.out.below HW.out (Nat.le_refl _)) HM.out).mono ?_
      rintro r x1 ⟨pa, pc, zs, qa, qc, ys, rfl, hp, hq, hbx1⟩
      have HX1 : Hid (Below w.heap.size w x1 ∧ Byt x1 pa zs ∧ Byt x1 qa ys) := ⟨HW.out.trans (hbx1.mono HW.out.size), hp.byt, hq.byt⟩
      have hzl := hp.len
      have hyl := hq.len
      have HCP : Hid ((zs.length ≤ pc ∧ pc ≤ 9223372036854775807) ∧ (ys.length ≤ qc ∧ qc ≤ 9223372036854775807)) := ⟨hp.caps, hq.caps⟩
      have HNW := implNewest_any pa qa pc qc zs ys x1 hp.byt hq.byt (by omega) (by omega) HCP.out.1 HCP.out.2
      have hnl := nsP_lenS zs ys
      have HPURE : Hid (nsB zs ys = (srB zs || srB ys) ∧ (nsB zs ys = true → sbB (nsE zs ys) (nsP zs ys) = true ∧ (sm8 (sbA (nsE zs ys) (nsP zs ys)) zs = true ∨ sm8 (sbA (nsE zs ys) (nsP zs ys)) ys = true) ∧ (srB zs = true → srE zs ≤ nsE zs ys) ∧ (srB ys = true → srE ys ≤ nsE zs ys))) := ⟨ns_fine zs ys, fun h => ns_is h⟩
      have HR1 : Hid (∀ w, Byt w pa zs → Calls Try.prog 7 #[.slice pa zs.length pc] w fun r w' => (∃ a c, r = .returned (.tuple #[.int .i64 (srE zs), .agg #[.slice a (srP zs).length c], .bool (srB zs)]) ∧ MinP w' w.heap.size w'.heap.size a c (srP zs)) ∧ Below w.heap.size w w') := fun w h => implSuperRead_any pa pc zs w h (by omega) HCP.out.1.1 HCP.out.1.2
      have HR2 : Hid (∀ w, Byt w qa ys → Calls Try.prog 7 #[.slice qa ys.length qc] w fun r w' => (∃ a c, r = .returned (.tuple #[.int .i64 (srE ys), .agg #[.slice a (srP ys).length c], .bool (srB ys)]) ∧ MinP w' w.heap.size w'.heap.size a c (srP ys)) ∧ Below w.heap.size w w') := fun w h => implSuperRead_any qa qc ys w h (by omega) HCP.out.2.1 HCP.out.2.2
      have HSS : Hid (∀ (a : Option Addr) (c : Nat) (w : World), Pls w a (nsP zs ys) → Calls Try.prog 5 #[.int .i64 (nsE zs ys), .agg #[.slice a (nsP zs ys).length c]] w fun r w' => (∃ v, r = .returned (.tuple #[v, .bool (sbB (nsE zs ys) (nsP zs ys))]) ∧ OVB w' w.heap.size v (sbA (nsE zs ys) (nsP zs ys))) ∧ Below w.heap.size w w') := fun a c w h => implSuperBytes_any a c (nsP zs ys) (nsE zs ys) w h (by omega)
      clear hp hq hbx1 HCP
      generalize srE zs = i1 at *
      generalize srE ys = i2 at *
      generalize srB zs = b1 at *
      generalize srB ys = b2 at *
      generalize nsE zs ys = f at *
      generalize nsP zs ys = ns at *
      generalize nsB zs ys = fine at *
      generalize sbB f ns = good at *
      generalize hcc : sbA f ns = cs at *
      clear hcc
      go_wp2_with fail
      refine HNW.mono ?_
      clear HNW
      rintro r x2 ⟨⟨na, nc, rfl, hmn⟩, hbx2⟩
      have hba : Below x2.heap.size x2 (x2.alloc (Obj.cells #[.slice na ns.length nc] 25)) := (Below.refl _ _).alloc (Nat.le_refl _) _
      have hb13 := hbx2.trans (hba.mono hbx2.size)
      have HX3 : Hid (Below w.heap.size w (x2.alloc (Obj.cells #[.slice na ns.length nc] 25)) ∧ Byt (x2.alloc (Obj.cells #[.slice na ns.length nc] 25)) pa zs ∧ Byt (x2.alloc (Obj.cells #[.slice na ns.length nc] 25)) qa ys ∧ Pls (x2.alloc (Obj.cells #[.slice na ns.length nc] 25)) na ns ∧ (x2.alloc (Obj.cells #[.slice na ns.length nc] 25)).cell? ⟨x2.heap.size, 0, none⟩ = some (.slice na ns.length nc) ∧ x2.heap.size < (x2.alloc (Obj.cells #[.slice na ns.length nc] 25)).heap.size) := ⟨HX1.out.1.trans (hb13.mono HX1.out.1.size), HX1.out.2.1.below hb13 (Nat.le_refl _), HX1.out.2.2.below hb13 (Nat.le_refl _), (hmn.below hba).pls, by simp, by simp⟩
      clear hba hb13 hbx2 hmn HX1
      go_wp2_with fail
      generalize x2.alloc (Obj.cells #[.slice na ns.length nc] 25) = x3 at *
      generalize x2.heap.size = Y at *
      refine (HR1.out x3 HX3.out.2.1).mono ?_
      rintro r x4 ⟨⟨ia, ic, rfl, -⟩, hbx4⟩
      have hba : Below x4.heap.size x4 (x4.alloc (Obj.cells #[.slice ia (srP zs).length ic] 25)) := (Below.refl _ _).alloc (Nat.le_refl _) _
      have hb35 := hbx4.trans (hba.mono hbx4.size)
      have HX5 : Hid (Below w.heap.size w (x4.alloc (Obj.cells #[.slice ia (srP zs).length ic] 25)) ∧ Byt (x4.alloc (Obj.cells #[.slice ia (srP zs).length ic] 25)) pa zs ∧ Byt (x4.alloc (Obj.cells #[.slice ia (srP zs).length ic] 25)) qa ys ∧ Pls (x4.alloc (Obj.cells #[.slice ia (srP zs).length ic] 25)) na ns ∧ (x4.alloc (Obj.cells #[.slice ia (srP zs).length ic] 25)).cell? ⟨Y, 0, none⟩ = some (.slice na ns.length nc) ∧ Y < (x4.alloc (Obj.cells #[.slice ia (srP zs).length ic] 25)).heap.size) := ⟨HX3.out.1.trans (hb35.mono HX3.out.1.size), HX3.out.2.1.below hb35 (Nat.le_refl _), HX3.out.2.2.1.below hb35 (Nat.le_refl _), HX3.out.2.2.2.1.below hb35 (Nat.le_refl _), keep hb35 HX3.out.2.2.2.2.2 HX3.out.2.2.2.2.1, Nat.lt_of_lt_of_le HX3.out.2.2.2.2.2 hb35.size⟩
      clear hba hb35 hbx4 HX3
      go_wp2_with fail
      generalize x4.alloc (Obj.cells #[.slice ia (srP zs).length ic] 25) = x5 at *
      refine (HR2.out x5 HX5.out.2.2.1).mono ?_
      rintro r x6 ⟨⟨ja, jc, rfl, -⟩, hbx6⟩
      have hba : Below x6.heap.size x6 (x6.alloc (Obj.cells #[.slice ja (srP ys).length jc] 25)) := (Below.refl _ _).alloc (Nat.le_refl _) _
      have hb57 := hbx6.trans (hba.mono hbx6.size)
      have HX7 : Hid (Below w.heap.size w (x6.alloc (Obj.cells #[.slice ja (srP ys).length jc] 25)) ∧ Byt (x6.alloc (Obj.cells #[.slice ja (srP ys).length jc] 25)) pa zs ∧ Byt (x6.alloc (Obj.cells #[.slice ja (srP ys).length jc] 25)) qa ys ∧ Pls (x6.alloc (Obj.cells #[.slice ja (srP ys).length jc] 25)) na ns) := ⟨HX5.out.1.trans (hb57.mono HX5.out.1.size), HX5.out.2.1.below hb57 (Nat.le_refl _), HX5.out.2.2.1.below hb57 (Nat.le_refl _), HX5.out.2.2.2.1.below hb57 (Nat.le_refl _)⟩
      have y7 := keep hb57 HX5.out.2.2.2.2.2 HX5.out.2.2.2.2.1
      clear hba hb57 hbx6 HX5
      go_wp2_with fail
      generalize x6.alloc (Obj.cells #[.slice ja (srP ys).length jc] 25) = x7 at *
      refine (HSS.out na nc x7 HX7.out.2.2.2).mono ?_
      rintro r x8 ⟨⟨vv, rfl, hov⟩, hbx8⟩
      obtain ⟨ca, cc, hvv⟩ := hov.form
      subst hvv
      have HX8 : Hid (Below w.heap.size w x8 ∧ Byt x8 pa zs ∧ Byt x8 qa ys ∧ Byt x8 ca cs) := ⟨HX7.out.1.trans (hbx8.mono HX7.out.1.size), HX7.out.2.1.below hbx8 (Nat.le_refl _), HX7.out.2.2.1.below hbx8 (Nat.le_refl _), hov.byt⟩
      clear hov hbx8 HX7 y7
      have HMN := implMapNew_any 3 x8
      rw [show nwN 3 = 3 from rfl, show nwB 3 = true from rfl] at HMN
      go_wp2_with fail
      refine HMN.mono ?_
      clear HMN
      rintro r x9 ⟨⟨la, lc, rfl, -⟩, hbx9⟩
      have hba : Below x9.heap.size x9 (x9.alloc (Obj.cells #[.slice la 3 lc] 25)) := (Below.refl _ _).alloc (Nat.le_refl _) _
      have hb810 := hbx9.trans (hba.mono hbx9.size)
      have HX10 : Hid (Below w.heap.size w (x9.alloc (Obj.cells #[.slice la 3 lc] 25)) ∧ Byt (x9.alloc (Obj.cells #[.slice la 3 lc] 25)) pa zs ∧ Byt (x9.alloc (Obj.cells #[.slice la 3 lc] 25)) qa ys ∧ Byt (x9.alloc (Obj.cells #[.slice la 3 lc] 25)) ca cs) := ⟨HX8.out.1.trans (hb810.mono HX8.out.1.size), HX8.out.2.1.below hb810 (Nat.le_refl _), HX8.out.2.2.1.below hb810 (Nat.le_refl _), HX8.out.2.2.2.below hb810 (Nat.le_refl _)⟩
      clear hba hb810 hbx9 HX8 HSS HR1 HR2
      cases fine with
      | false =>
        obtain ⟨rfl, rfl⟩ := or_noS HPURE.out.1
        clear HPURE
        go_wp2
        go_ret
        exact ⟨rfl, HX10.out.1⟩
      | true =>
        obtain ⟨hgd, hsm, hge1, hge2⟩ := HPURE.out.2 rfl
        subst hgd
        have HS1 := same8 ca pa cc pc cs zs _ HX10.out.2.2.2 HX10.out.2.1
        have HS2 := same8 ca qa cc qc cs ys _ HX10.out.2.2.2 HX10.out.2.2.1
        have hor := HPURE.out.1
        clear HPURE
        have key : (b1 = true ∧ b2 = false) ∨ (b1 = false ∧ b2 = true) ∨ (b1 = true ∧ b2 = true) := or_yesS hor
        clear hor
        cases h1 : sm8 cs zs with
        | true =>
          rw [h1] at HS1
          clear hsm h1 HS2
          rcases key with ⟨rfl, rfl⟩ | ⟨rfl, rfl⟩ | ⟨rfl, rfl⟩
          · have hg1 : i1 ≤ f := hge1 rfl
            clear hge1 hge2
            go_wp2_with fail
            refine HS1.mono ?_
            rintro r x11 ⟨rfl, rfl⟩
            go_wp2
            go_ret
            exact ⟨by simp [hg1], HX10.out.1⟩
          · have hg2 : i2 ≤ f := hge2 rfl
            clear hge1 hge2
            go_wp2_with fail
            refine HS1.mono ?_
            rintro r x11 ⟨rfl, rfl⟩
            go_wp2
            go_ret
            exact ⟨by simp [hg2], HX10.out.1⟩
          · have hg1 : i1 ≤ f := hge1 rfl
            have hg2 : i2 ≤ f := hge2 rfl
            clear hge1 hge2
            go_wp2_with fail
            refine HS1.mono ?_
            rintro r x11 ⟨rfl, rfl⟩
            go_wp2
            go_ret
            exact ⟨by simp [hg1, hg2], HX10.out.1⟩
        | false =>
          have h2 : sm8 cs ys = true := by
            rcases hsm with h | h
            · rw [h1] at h; cases h
            · exact h
          rw [h1] at HS1
          rw [h2] at HS2
          clear hsm h1 h2
          rcases key with ⟨rfl, rfl⟩ | ⟨rfl, rfl⟩ | ⟨rfl, rfl⟩
          · have hg1 : i1 ≤ f := hge1 rfl
            clear hge1 hge2
            go_wp2_with fail
            refine HS1.mono ?_
            rintro r x11 ⟨rfl, rfl⟩
            go_wp2_with fail
            refine HS2.mono ?_
            rintro r x12 ⟨rfl, rfl⟩
            go_wp2
            go_ret
            exact ⟨by simp [hg1], HX10.out.1⟩
          · have hg2 : i2 ≤ f := hge2 rfl
            clear hge1 hge2
            go_wp2_with fail
            refine HS1.mono ?_
            rintro r x11 ⟨rfl, rfl⟩
            go_wp2_with fail
            refine HS2.mono ?_
            rintro r x12 ⟨rfl, rfl⟩
            go_wp2
            go_ret
            exact ⟨by simp [hg2], HX10.out.1⟩
          · have hg1 : i1 ≤ f := hge1 rfl
            have hg2 : i2 ≤ f := hge2 rfl
            clear hge1 hge2
            go_wp2_with fail
            refine HS1.mono ?_
            rintro r x11 ⟨rfl, rfl⟩
            go_wp2_with fail
            refine HS2.mono ?_
            rintro r x12 ⟨rfl, rfl⟩
            go_wp2
            go_ret
            exact ⟨by simp [hg1, hg2], HX10.out.1⟩
    | false =>
      obtain ⟨hsb, hsa⟩ := sb_no e ps (.inr hmb)
      rw [hmb] at HMO
      rw [hsa] at H3 ⊢
      rw [hsb]
      clear hsa hsb hmb he
      go_wp2_with fail
      refine HMO.mono ?_
      clear HMO
      rintro r W ⟨rfl, hb4⟩
      have HW : Hid (Below w.heap.size w W) := H3.out.1.trans (hb4.mono H3.out.2.2.2.2)
      clear hb4 c3 H3
      go_wp2_with fail
      refine (drawNewest_any a bs cap W (HB.out.below HW.out (Nat.le_refl _)) HM.out).mono ?_
      rintro r x1 ⟨pa, pc, zs, qa, qc, ys, rfl, hp, hq, hbx1⟩
      have HX1 : Hid (Below w.heap.size w x1 ∧ Byt x1 pa zs ∧ Byt x1 qa ys) := ⟨HW.out.trans (hbx1.mono HW.out.size), hp.byt, hq.byt⟩
      have hzl := hp.len
      have hyl := hq.len
      have HCP : Hid ((zs.length ≤ pc ∧ pc ≤ 9223372036854775807) ∧ (ys.length ≤ qc ∧ qc ≤ 9223372036854775807)) := ⟨hp.caps, hq.caps⟩
      have HNW := implNewest_any pa qa pc qc zs ys x1 hp.byt hq.byt (by omega) (by omega) HCP.out.1 HCP.out.2
      have hnl := nsP_lenS zs ys
      have HPURE : Hid (nsB zs ys = (srB zs || srB ys) ∧ (nsB zs ys = true → sbB (nsE zs ys) (nsP zs ys) = true ∧ (sm8 (sbA (nsE zs ys) (nsP zs ys)) zs = true ∨ sm8 (sbA (nsE zs ys) (nsP zs ys)) ys = true) ∧ (srB zs = true → srE zs ≤ nsE zs ys) ∧ (srB ys = true → srE ys ≤ nsE zs ys))) := ⟨ns_fine zs ys, fun h => ns_is h⟩
      have HR1 : Hid (∀ w, Byt w pa zs → Calls Try.prog 7 #[.slice pa zs.length pc] w fun r w' => (∃ a c, r = .returned (.tuple #[.int .i64 (srE zs), .agg #[.slice a (srP zs).length c], .bool (srB zs)]) ∧ MinP w' w.heap.size w'.heap.size a c (srP zs)) ∧ Below w.heap.size w w') := fun w h => implSuperRead_any pa pc zs w h (by omega) HCP.out.1.1 HCP.out.1.2
      have HR2 : Hid (∀ w, Byt w qa ys → Calls Try.prog 7 #[.slice qa ys.length qc] w fun r w' => (∃ a c, r = .returned (.tuple #[.int .i64 (srE ys), .agg #[.slice a (srP ys).length c], .bool (srB ys)]) ∧ MinP w' w.heap.size w'.heap.size a c (srP ys)) ∧ Below w.heap.size w w') := fun w h => implSuperRead_any qa qc ys w h (by omega) HCP.out.2.1 HCP.out.2.2
      have HSS : Hid (∀ (a : Option Addr) (c : Nat) (w : World), Pls w a (nsP zs ys) → Calls Try.prog 5 #[.int .i64 (nsE zs ys), .agg #[.slice a (nsP zs ys).length c]] w fun r w' => (∃ v, r = .returned (.tuple #[v, .bool (sbB (nsE zs ys) (nsP zs ys))]) ∧ OVB w' w.heap.size v (sbA (nsE zs ys) (nsP zs ys))) ∧ Below w.heap.size w w') := fun a c w h => implSuperBytes_any a c (nsP zs ys) (nsE zs ys) w h (by omega)
      clear hp hq hbx1 HCP
      generalize srE zs = i1 at *
      generalize srE ys = i2 at *
      generalize srB zs = b1 at *
      generalize srB ys = b2 at *
      generalize nsE zs ys = f at *
      generalize nsP zs ys = ns at *
      generalize nsB zs ys = fine at *
      generalize sbB f ns = good at *
      generalize hcc : sbA f ns = cs at *
      clear hcc
      go_wp2_with fail
      refine HNW.mono ?_
      clear HNW
      rintro r x2 ⟨⟨na, nc, rfl, hmn⟩, hbx2⟩
      have hba : Below x2.heap.size x2 (x2.alloc (Obj.cells #[.slice na ns.length nc] 25)) := (Below.refl _ _).alloc (Nat.le_refl _) _
      have hb13 := hbx2.trans (hba.mono hbx2.size)
      have HX3 : Hid (Below w.heap.size w (x2.alloc (Obj.cells #[.slice na ns.length nc] 25)) ∧ Byt (x2.alloc (Obj.cells #[.slice na ns.length nc] 25)) pa zs ∧ Byt (x2.alloc (Obj.cells #[.slice na ns.length nc] 25)) qa ys ∧ Pls (x2.alloc (Obj.cells #[.slice na ns.length nc] 25)) na ns ∧ (x2.alloc (Obj.cells #[.slice na ns.length nc] 25)).cell? ⟨x2.heap.size, 0, none⟩ = some (.slice na ns.length nc) ∧ x2.heap.size < (x2.alloc (Obj.cells #[.slice na ns.length nc] 25)).heap.size) := ⟨HX1.out.1.trans (hb13.mono HX1.out.1.size), HX1.out.2.1.below hb13 (Nat.le_refl _), HX1.out.2.2.below hb13 (Nat.le_refl _), (hmn.below hba).pls, by simp, by simp⟩
      clear hba hb13 hbx2 hmn HX1
      go_wp2_with fail
      generalize x2.alloc (Obj.cells #[.slice na ns.length nc] 25) = x3 at *
      generalize x2.heap.size = Y at *
      refine (HR1.out x3 HX3.out.2.1).mono ?_
      rintro r x4 ⟨⟨ia, ic, rfl, -⟩, hbx4⟩
      have hba : Below x4.heap.size x4 (x4.alloc (Obj.cells #[.slice ia (srP zs).length ic] 25)) := (Below.refl _ _).alloc (Nat.le_refl _) _
      have hb35 := hbx4.trans (hba.mono hbx4.size)
      have HX5 : Hid (Below w.heap.size w (x4.alloc (Obj.cells #[.slice ia (srP zs).length ic] 25)) ∧ Byt (x4.alloc (Obj.cells #[.slice ia (srP zs).length ic] 25)) pa zs ∧ Byt (x4.alloc (Obj.cells #[.slice ia (srP zs).length ic] 25)) qa ys ∧ Pls (x4.alloc (Obj.cells #[.slice ia (srP zs).length ic] 25)) na ns ∧ (x4.alloc (Obj.cells #[.slice ia (srP zs).length ic] 25)).cell? ⟨Y, 0, none⟩ = some (.slice na ns.length nc) ∧ Y < (x4.alloc (Obj.cells #[.slice ia (srP zs).length ic] 25)).heap.size) := ⟨HX3.out.1.trans (hb35.mono HX3.out.1.size), HX3.out.2.1.below hb35 (Nat.le_refl _), HX3.out.2.2.1.below hb35 (Nat.le_refl _), HX3.out.2.2.2.1.below hb35 (Nat.le_refl _), keep hb35 HX3.out.2.2.2.2.2 HX3.out.2.2.2.2.1, Nat.lt_of_lt_of_le HX3.out.2.2.2.2.2 hb35.size⟩
      clear hba hb35 hbx4 HX3
      go_wp2_with fail
      generalize x4.alloc (Obj.cells #[.slice ia (srP zs).length ic] 25) = x5 at *
      refine (HR2.out x5 HX5.out.2.2.1).mono ?_
      rintro r x6 ⟨⟨ja, jc, rfl, -⟩, hbx6⟩
      have hba : Below x6.heap.size x6 (x6.alloc (Obj.cells #[.slice ja (srP ys).length jc] 25)) := (Below.refl _ _).alloc (Nat.le_refl _) _
      have hb57 := hbx6.trans (hba.mono hbx6.size)
      have HX7 : Hid (Below w.heap.size w (x6.alloc (Obj.cells #[.slice ja (srP ys).length jc] 25)) ∧ Byt (x6.alloc (Obj.cells #[.slice ja (srP ys).length jc] 25)) pa zs ∧ Byt (x6.alloc (Obj.cells #[.slice ja (srP ys).length jc] 25)) qa ys ∧ Pls (x6.alloc (Obj.cells #[.slice ja (srP ys).length jc] 25)) na ns) := ⟨HX5.out.1.trans (hb57.mono HX5.out.1.size), HX5.out.2.1.below hb57 (Nat.le_refl _), HX5.out.2.2.1.below hb57 (Nat.le_refl _), HX5.out.2.2.2.1.below hb57 (Nat.le_refl _)⟩
      have y7 := keep hb57 HX5.out.2.2.2.2.2 HX5.out.2.2.2.2.1
      clear hba hb57 hbx6 HX5
      go_wp2_with fail
      generalize x6.alloc (Obj.cells #[.slice ja (srP ys).length jc] 25) = x7 at *
      refine (HSS.out na nc x7 HX7.out.2.2.2).mono ?_
      rintro r x8 ⟨⟨vv, rfl, hov⟩, hbx8⟩
      obtain ⟨ca, cc, hvv⟩ := hov.form
      subst hvv
      have HX8 : Hid (Below w.heap.size w x8 ∧ Byt x8 pa zs ∧ Byt x8 qa ys ∧ Byt x8 ca cs) := ⟨HX7.out.1.trans (hbx8.mono HX7.out.1.size), HX7.out.2.1.below hbx8 (Nat.le_refl _), HX7.out.2.2.1.below hbx8 (Nat.le_refl _), hov.byt⟩
      clear hov hbx8 HX7 y7
      have HMN := implMapNew_any 3 x8
      rw [show nwN 3 = 3 from rfl, show nwB 3 = true from rfl] at HMN
      go_wp2_with fail
      refine HMN.mono ?_
      clear HMN
      rintro r x9 ⟨⟨la, lc, rfl, -⟩, hbx9⟩
      have hba : Below x9.heap.size x9 (x9.alloc (Obj.cells #[.slice la 3 lc] 25)) := (Below.refl _ _).alloc (Nat.le_refl _) _
      have hb810 := hbx9.trans (hba.mono hbx9.size)
      have HX10 : Hid (Below w.heap.size w (x9.alloc (Obj.cells #[.slice la 3 lc] 25)) ∧ Byt (x9.alloc (Obj.cells #[.slice la 3 lc] 25)) pa zs ∧ Byt (x9.alloc (Obj.cells #[.slice la 3 lc] 25)) qa ys ∧ Byt (x9.alloc (Obj.cells #[.slice la 3 lc] 25)) ca cs) := ⟨HX8.out.1.trans (hb810.mono HX8.out.1.size), HX8.out.2.1.below hb810 (Nat.le_refl _), HX8.out.2.2.1.below hb810 (Nat.le_refl _), HX8.out.2.2.2.below hb810 (Nat.le_refl _)⟩
      clear hba hb810 hbx9 HX8 HSS HR1 HR2
      cases fine with
      | false =>
        obtain ⟨rfl, rfl⟩ := or_noS HPURE.out.1
        clear HPURE
        go_wp2
        go_ret
        exact ⟨rfl, HX10.out.1⟩
      | true =>
        obtain ⟨hgd, hsm, hge1, hge2⟩ := HPURE.out.2 rfl
        subst hgd
        have HS1 := same8 ca pa cc pc cs zs _ HX10.out.2.2.2 HX10.out.2.1
        have HS2 := same8 ca qa cc qc cs ys _ HX10.out.2.2.2 HX10.out.2.2.1
        have hor := HPURE.out.1
        clear HPURE
        have key : (b1 = true ∧ b2 = false) ∨ (b1 = false ∧ b2 = true) ∨ (b1 = true ∧ b2 = true) := or_yesS hor
        clear hor
        cases h1 : sm8 cs zs with
        | true =>
          rw [h1] at HS1
          clear hsm h1 HS2
          rcases key with ⟨rfl, rfl⟩ | ⟨rfl, rfl⟩ | ⟨rfl, rfl⟩
          · have hg1 : i1 ≤ f := hge1 rfl
            clear hge1 hge2
            go_wp2_with fail
            refine HS1.mono ?_
            rintro r x11 ⟨rfl, rfl⟩
            go_wp2
            go_ret
            exact ⟨by simp [hg1], HX10.out.1⟩
          · have hg2 : i2 ≤ f := hge2 rfl
            clear hge1 hge2
            go_wp2_with fail
            refine HS1.mono ?_
            rintro r x11 ⟨rfl, rfl⟩
            go_wp2
            go_ret
            exact ⟨by simp [hg2], HX10.out.1⟩
          · have hg1 : i1 ≤ f := hge1 rfl
            have hg2 : i2 ≤ f := hge2 rfl
            clear hge1 hge2
            go_wp2_with fail
            refine HS1.mono ?_
            rintro r x11 ⟨rfl, rfl⟩
            go_wp2
            go_ret
            exact ⟨by simp [hg1, hg2], HX10.out.1⟩
        | false =>
          have h2 : sm8 cs ys = true := by
            rcases hsm with h | h
            · rw [h1] at h; cases h
            · exact h
          rw [h1] at HS1
          rw [h2] at HS2
          clear hsm h1 h2
          rcases key with ⟨rfl, rfl⟩ | ⟨rfl, rfl⟩ | ⟨rfl, rfl⟩
          · have hg1 : i1 ≤ f := hge1 rfl
            clear hge1 hge2
            go_wp2_with fail
            refine HS1.mono ?_
            rintro r x11 ⟨rfl, rfl⟩
            go_wp2_with fail
            refine HS2.mono ?_
            rintro r x12 ⟨rfl, rfl⟩
            go_wp2
            go_ret
            exact ⟨by simp [hg1], HX10.out.1⟩
          · have hg2 : i2 ≤ f := hge2 rfl
            clear hge1 hge2
            go_wp2_with fail
            refine HS1.mono ?_
            rintro r x11 ⟨rfl, rfl⟩
            go_wp2_with fail
            refine HS2.mono ?_
            rintro r x12 ⟨rfl, rfl⟩
            go_wp2
            go_ret
            exact ⟨by simp [hg2], HX10.out.1⟩
          · have hg1 : i1 ≤ f := hge1 rfl
            have hg2 : i2 ≤ f := hge2 rfl
            clear hge1 hge2
            go_wp2_with fail
            refine HS1.mono ?_
            rintro r x11 ⟨rfl, rfl⟩
            go_wp2_with fail
            refine HS2.mono ?_
            rintro r x12 ⟨rfl, rfl⟩
            go_wp2
            go_ret
            exact ⟨by simp [hg1, hg2], HX10.out.1⟩
  · obtain ⟨hsb, hsa⟩ := sb_no e ps (.inl he)
    rw [hsa] at H3 ⊢
    rw [hsb]
    have HW : Hid (Below w.heap.size w w3) := H3.out.1
    have key : (decide (0 ≤ e) = false) ∨ (decide (0 ≤ e) = true ∧ decide (e ≤ 60000) = false) := by
      by_cases h0 : 0 ≤ e
      · exact .inr ⟨decide_eq_true h0, decide_eq_false (fun h => he ⟨h0, h⟩)⟩
      · exact .inl (decide_eq_false h0)
    have key2 : e < 0 ∨ (0 ≤ e ∧ 60000 < e) := by omega
    clear hsa hsb he key c3 H3
    generalize w3 = W at *
    rcases key2 with h | ⟨h, h2⟩
    · skip
      go_wp2_with fail
      refine (drawNewest_any a bs cap W (HB.out.below HW.out (Nat.le_refl _)) HM.out).mono ?_
      rintro r x1 ⟨pa, pc, zs, qa, qc, ys, rfl, hp, hq, hbx1⟩
      have HX1 : Hid (Below w.heap.size w x1 ∧ Byt x1 pa zs ∧ Byt x1 qa ys) := ⟨HW.out.trans (hbx1.mono HW.out.size), hp.byt, hq.byt⟩
      have hzl := hp.len
      have hyl := hq.len
      have HCP : Hid ((zs.length ≤ pc ∧ pc ≤ 9223372036854775807) ∧ (ys.length ≤ qc ∧ qc ≤ 9223372036854775807)) := ⟨hp.caps, hq.caps⟩
      have HNW := implNewest_any pa qa pc qc zs ys x1 hp.byt hq.byt (by omega) (by omega) HCP.out.1 HCP.out.2
      have hnl := nsP_lenS zs ys
      have HPURE : Hid (nsB zs ys = (srB zs || srB ys) ∧ (nsB zs ys = true → sbB (nsE zs ys) (nsP zs ys) = true ∧ (sm8 (sbA (nsE zs ys) (nsP zs ys)) zs = true ∨ sm8 (sbA (nsE zs ys) (nsP zs ys)) ys = true) ∧ (srB zs = true → srE zs ≤ nsE zs ys) ∧ (srB ys = true → srE ys ≤ nsE zs ys))) := ⟨ns_fine zs ys, fun h => ns_is h⟩
      have HR1 : Hid (∀ w, Byt w pa zs → Calls Try.prog 7 #[.slice pa zs.length pc] w fun r w' => (∃ a c, r = .returned (.tuple #[.int .i64 (srE zs), .agg #[.slice a (srP zs).length c], .bool (srB zs)]) ∧ MinP w' w.heap.size w'.heap.size a c (srP zs)) ∧ Below w.heap.size w w') := fun w h => implSuperRead_any pa pc zs w h (by omega) HCP.out.1.1 HCP.out.1.2
      have HR2 : Hid (∀ w, Byt w qa ys → Calls Try.prog 7 #[.slice qa ys.length qc] w fun r w' => (∃ a c, r = .returned (.tuple #[.int .i64 (srE ys), .agg #[.slice a (srP ys).length c], .bool (srB ys)]) ∧ MinP w' w.heap.size w'.heap.size a c (srP ys)) ∧ Below w.heap.size w w') := fun w h => implSuperRead_any qa qc ys w h (by omega) HCP.out.2.1 HCP.out.2.2
      have HSS : Hid (∀ (a : Option Addr) (c : Nat) (w : World), Pls w a (nsP zs ys) → Calls Try.prog 5 #[.int .i64 (nsE zs ys), .agg #[.slice a (nsP zs ys).length c]] w fun r w' => (∃ v, r = .returned (.tuple #[v, .bool (sbB (nsE zs ys) (nsP zs ys))]) ∧ OVB w' w.heap.size v (sbA (nsE zs ys) (nsP zs ys))) ∧ Below w.heap.size w w') := fun a c w h => implSuperBytes_any a c (nsP zs ys) (nsE zs ys) w h (by omega)
      clear hp hq hbx1 HCP
      generalize srE zs = i1 at *
      generalize srE ys = i2 at *
      generalize srB zs = b1 at *
      generalize srB ys = b2 at *
      generalize nsE zs ys = f at *
      generalize nsP zs ys = ns at *
      generalize nsB zs ys = fine at *
      generalize sbB f ns = good at *
      generalize hcc : sbA f ns = cs at *
      clear hcc
      go_wp2_with fail
      refine HNW.mono ?_
      clear HNW
      rintro r x2 ⟨⟨na, nc, rfl, hmn⟩, hbx2⟩
      have hba : Below x2.heap.size x2 (x2.alloc (Obj.cells #[.slice na ns.length nc] 25)) := (Below.refl _ _).alloc (Nat.le_refl _) _
      have hb13 := hbx2.trans (hba.mono hbx2.size)
      have HX3 : Hid (Below w.heap.size w (x2.alloc (Obj.cells #[.slice na ns.length nc] 25)) ∧ Byt (x2.alloc (Obj.cells #[.slice na ns.length nc] 25)) pa zs ∧ Byt (x2.alloc (Obj.cells #[.slice na ns.length nc] 25)) qa ys ∧ Pls (x2.alloc (Obj.cells #[.slice na ns.length nc] 25)) na ns ∧ (x2.alloc (Obj.cells #[.slice na ns.length nc] 25)).cell? ⟨x2.heap.size, 0, none⟩ = some (.slice na ns.length nc) ∧ x2.heap.size < (x2.alloc (Obj.cells #[.slice na ns.length nc] 25)).heap.size) := ⟨HX1.out.1.trans (hb13.mono HX1.out.1.size), HX1.out.2.1.below hb13 (Nat.le_refl _), HX1.out.2.2.below hb13 (Nat.le_refl _), (hmn.below hba).pls, by simp, by simp⟩
      clear hba hb13 hbx2 hmn HX1
      go_wp2_with fail
      generalize x2.alloc (Obj.cells #[.slice na ns.length nc] 25) = x3 at *
      generalize x2.heap.size = Y at *
      refine (HR1.out x3 HX3.out.2.1).mono ?_
      rintro r x4 ⟨⟨ia, ic, rfl, -⟩, hbx4⟩
      have hba : Below x4.heap.size x4 (x4.alloc (Obj.cells #[.slice ia (srP zs).length ic] 25)) := (Below.refl _ _).alloc (Nat.le_refl _) _
      have hb35 := hbx4.trans (hba.mono hbx4.size)
      have HX5 : Hid (Below w.heap.size w (x4.alloc (Obj.cells #[.slice ia (srP zs).length ic] 25)) ∧ Byt (x4.alloc (Obj.cells #[.slice ia (srP zs).length ic] 25)) pa zs ∧ Byt (x4.alloc (Obj.cells #[.slice ia (srP zs).length ic] 25)) qa ys ∧ Pls (x4.alloc (Obj.cells #[.slice ia (srP zs).length ic] 25)) na ns ∧ (x4.alloc (Obj.cells #[.slice ia (srP zs).length ic] 25)).cell? ⟨Y, 0, none⟩ = some (.slice na ns.length nc) ∧ Y < (x4.alloc (Obj.cells #[.slice ia (srP zs).length ic] 25)).heap.size) := ⟨HX3.out.1.trans (hb35.mono HX3.out.1.size), HX3.out.2.1.below hb35 (Nat.le_refl _), HX3.out.2.2.1.below hb35 (Nat.le_refl _), HX3.out.2.2.2.1.below hb35 (Nat.le_refl _), keep hb35 HX3.out.2.2.2.2.2 HX3.out.2.2.2.2.1, Nat.lt_of_lt_of_le HX3.out.2.2.2.2.2 hb35.size⟩
      clear hba hb35 hbx4 HX3
      go_wp2_with fail
      generalize x4.alloc (Obj.cells #[.slice ia (srP zs).length ic] 25) = x5 at *
      refine (HR2.out x5 HX5.out.2.2.1).mono ?_
      rintro r x6 ⟨⟨ja, jc, rfl, -⟩, hbx6⟩
      have hba : Below x6.heap.size x6 (x6.alloc (Obj.cells #[.slice ja (srP ys).length jc] 25)) := (Below.refl _ _).alloc (Nat.le_refl _) _
      have hb57 := hbx6.trans (hba.mono hbx6.size)
      have HX7 : Hid (Below w.heap.size w (x6.alloc (Obj.cells #[.slice ja (srP ys).length jc] 25)) ∧ Byt (x6.alloc (Obj.cells #[.slice ja (srP ys).length jc] 25)) pa zs ∧ Byt (x6.alloc (Obj.cells #[.slice ja (srP ys).length jc] 25)) qa ys ∧ Pls (x6.alloc (Obj.cells #[.slice ja (srP ys).length jc] 25)) na ns) := ⟨HX5.out.1.trans (hb57.mono HX5.out.1.size), HX5.out.2.1.below hb57 (Nat.le_refl _), HX5.out.2.2.1.below hb57 (Nat.le_refl _), HX5.out.2.2.2.1.below hb57 (Nat.le_refl _)⟩
      have y7 := keep hb57 HX5.out.2.2.2.2.2 HX5.out.2.2.2.2.1
      clear hba hb57 hbx6 HX5
      go_wp2_with fail
      generalize x6.alloc (Obj.cells #[.slice ja (srP ys).length jc] 25) = x7 at *
      refine (HSS.out na nc x7 HX7.out.2.2.2).mono ?_
      rintro r x8 ⟨⟨vv, rfl, hov⟩, hbx8⟩
      obtain ⟨ca, cc, hvv⟩ := hov.form
      subst hvv
      have HX8 : Hid (Below w.heap.size w x8 ∧ Byt x8 pa zs ∧ Byt x8 qa ys ∧ Byt x8 ca cs) := ⟨HX7.out.1.trans (hbx8.mono HX7.out.1.size), HX7.out.2.1.below hbx8 (Nat.le_refl _), HX7.out.2.2.1.below hbx8 (Nat.le_refl _), hov.byt⟩
      clear hov hbx8 HX7 y7
      have HMN := implMapNew_any 3 x8
      rw [show nwN 3 = 3 from rfl, show nwB 3 = true from rfl] at HMN
      go_wp2_with fail
      refine HMN.mono ?_
      clear HMN
      rintro r x9 ⟨⟨la, lc, rfl, -⟩, hbx9⟩
      have hba : Below x9.heap.size x9 (x9.alloc (Obj.cells #[.slice la 3 lc] 25)) := (Below.refl _ _).alloc (Nat.le_refl _) _
      have hb810 := hbx9.trans (hba.mono hbx9.size)
      have HX10 : Hid (Below w.heap.size w (x9.alloc (Obj.cells #[.slice la 3 lc] 25)) ∧ Byt (x9.alloc (Obj.cells #[.slice la 3 lc] 25)) pa zs ∧ Byt (x9.alloc (Obj.cells #[.slice la 3 lc] 25)) qa ys ∧ Byt (x9.alloc (Obj.cells #[.slice la 3 lc] 25)) ca cs) := ⟨HX8.out.1.trans (hb810.mono HX8.out.1.size), HX8.out.2.1.below hb810 (Nat.le_refl _), HX8.out.2.2.1.below hb810 (Nat.le_refl _), HX8.out.2.2.2.below hb810 (Nat.le_refl _)⟩
      clear hba hb810 hbx9 HX8 HSS HR1 HR2
      cases fine with
      | false =>
        obtain ⟨rfl, rfl⟩ := or_noS HPURE.out.1
        clear HPURE
        go_wp2
        go_ret
        exact ⟨rfl, HX10.out.1⟩
      | true =>
        obtain ⟨hgd, hsm, hge1, hge2⟩ := HPURE.out.2 rfl
        subst hgd
        have HS1 := same8 ca pa cc pc cs zs _ HX10.out.2.2.2 HX10.out.2.1
        have HS2 := same8 ca qa cc qc cs ys _ HX10.out.2.2.2 HX10.out.2.2.1
        have hor := HPURE.out.1
        clear HPURE
        have key : (b1 = true ∧ b2 = false) ∨ (b1 = false ∧ b2 = true) ∨ (b1 = true ∧ b2 = true) := or_yesS hor
        clear hor
        cases h1 : sm8 cs zs with
        | true =>
          rw [h1] at HS1
          clear hsm h1 HS2
          rcases key with ⟨rfl, rfl⟩ | ⟨rfl, rfl⟩ | ⟨rfl, rfl⟩
          · have hg1 : i1 ≤ f := hge1 rfl
            clear hge1 hge2
            go_wp2_with fail
            refine HS1.mono ?_
            rintro r x11 ⟨rfl, rfl⟩
            go_wp2
            go_ret
            exact ⟨by simp [hg1], HX10.out.1⟩
          · have hg2 : i2 ≤ f := hge2 rfl
            clear hge1 hge2
            go_wp2_with fail
            refine HS1.mono ?_
            rintro r x11 ⟨rfl, rfl⟩
            go_wp2
            go_ret
            exact ⟨by simp [hg2], HX10.out.1⟩
          · have hg1 : i1 ≤ f := hge1 rfl
            have hg2 : i2 ≤ f := hge2 rfl
            clear hge1 hge2
            go_wp2_with fail
            refine HS1.mono ?_
            rintro r x11 ⟨rfl, rfl⟩
            go_wp2
            go_ret
            exact ⟨by simp [hg1, hg2], HX10.out.1⟩
        | false =>
          have h2 : sm8 cs ys = true := by
            rcases hsm with h | h
            · rw [h1] at h; cases h
            · exact h
          rw [h1] at HS1
          rw [h2] at HS2
          clear hsm h1 h2
          rcases key with ⟨rfl, rfl⟩ | ⟨rfl, rfl⟩ | ⟨rfl, rfl⟩
          · have hg1 : i1 ≤ f := hge1 rfl
            clear hge1 hge2
            go_wp2_with fail
            refine HS1.mono ?_
            rintro r x11 ⟨rfl, rfl⟩
            go_wp2_with fail
            refine HS2.mono ?_
            rintro r x12 ⟨rfl, rfl⟩
            go_wp2
            go_ret
            exact ⟨by simp [hg1], HX10.out.1⟩
          · have hg2 : i2 ≤ f := hge2 rfl
            clear hge1 hge2
            go_wp2_with fail
            refine HS1.mono ?_
            rintro r x11 ⟨rfl, rfl⟩
            go_wp2_with fail
            refine HS2.mono ?_
            rintro r x12 ⟨rfl, rfl⟩
            go_wp2
            go_ret
            exact ⟨by simp [hg2], HX10.out.1⟩
          · have hg1 : i1 ≤ f := hge1 rfl
            have hg2 : i2 ≤ f := hge2 rfl
            clear hge1 hge2
            go_wp2_with fail
            refine HS1.mono ?_
            rintro r x11 ⟨rfl, rfl⟩
            go_wp2_with fail
            refine HS2.mono ?_
            rintro r x12 ⟨rfl, rfl⟩
            go_wp2
            go_ret
            exact ⟨by simp [hg1, hg2], HX10.out.1⟩
    · skip
      go_wp2_with fail
      refine (drawNewest_any a bs cap W (HB.out.below HW.out (Nat.le_refl _)) HM.out).mono ?_
      rintro r x1 ⟨pa, pc, zs, qa, qc, ys, rfl, hp, hq, hbx1⟩
      have HX1 : Hid (Below w.heap.size w x1 ∧ Byt x1 pa zs ∧ Byt x1 qa ys) := ⟨HW.out.trans (hbx1.mono HW.out.size), hp.byt, hq.byt⟩
      have hzl := hp.len
      have hyl := hq.len
      have HCP : Hid ((zs.length ≤ pc ∧ pc ≤ 9223372036854775807) ∧ (ys.length ≤ qc ∧ qc ≤ 9223372036854775807)) := ⟨hp.caps, hq.caps⟩
      have HNW := implNewest_any pa qa pc qc zs ys x1 hp.byt hq.byt (by omega) (by omega) HCP.out.1 HCP.out.2
      have hnl := nsP_lenS zs ys
      have HPURE : Hid (nsB zs ys = (srB zs || srB ys) ∧ (nsB zs ys = true → sbB (nsE zs ys) (nsP zs ys) = true ∧ (sm8 (sbA (nsE zs ys) (nsP zs ys)) zs = true ∨ sm8 (sbA (nsE zs ys) (nsP zs ys)) ys = true) ∧ (srB zs = true → srE zs ≤ nsE zs ys) ∧ (srB ys = true → srE ys ≤ nsE zs ys))) := ⟨ns_fine zs ys, fun h => ns_is h⟩
      have HR1 : Hid (∀ w, Byt w pa zs → Calls Try.prog 7 #[.slice pa zs.length pc] w fun r w' => (∃ a c, r = .returned (.tuple #[.int .i64 (srE zs), .agg #[.slice a (srP zs).length c], .bool (srB zs)]) ∧ MinP w' w.heap.size w'.heap.size a c (srP zs)) ∧ Below w.heap.size w w') := fun w h => implSuperRead_any pa pc zs w h (by omega) HCP.out.1.1 HCP.out.1.2
      have HR2 : Hid (∀ w, Byt w qa ys → Calls Try.prog 7 #[.slice qa ys.length qc] w fun r w' => (∃ a c, r = .returned (.tuple #[.int .i64 (srE ys), .agg #[.slice a (srP ys).length c], .bool (srB ys)]) ∧ MinP w' w.heap.size w'.heap.size a c (srP ys)) ∧ Below w.heap.size w w') := fun w h => implSuperRead_any qa qc ys w h (by omega) HCP.out.2.1 HCP.out.2.2
      have HSS : Hid (∀ (a : Option Addr) (c : Nat) (w : World), Pls w a (nsP zs ys) → Calls Try.prog 5 #[.int .i64 (nsE zs ys), .agg #[.slice a (nsP zs ys).length c]] w fun r w' => (∃ v, r = .returned (.tuple #[v, .bool (sbB (nsE zs ys) (nsP zs ys))]) ∧ OVB w' w.heap.size v (sbA (nsE zs ys) (nsP zs ys))) ∧ Below w.heap.size w w') := fun a c w h => implSuperBytes_any a c (nsP zs ys) (nsE zs ys) w h (by omega)
      clear hp hq hbx1 HCP
      generalize srE zs = i1 at *
      generalize srE ys = i2 at *
      generalize srB zs = b1 at *
      generalize srB ys = b2 at *
      generalize nsE zs ys = f at *
      generalize nsP zs ys = ns at *
      generalize nsB zs ys = fine at *
      generalize sbB f ns = good at *
      generalize hcc : sbA f ns = cs at *
      clear hcc
      go_wp2_with fail
      refine HNW.mono ?_
      clear HNW
      rintro r x2 ⟨⟨na, nc, rfl, hmn⟩, hbx2⟩
      have hba : Below x2.heap.size x2 (x2.alloc (Obj.cells #[.slice na ns.length nc] 25)) := (Below.refl _ _).alloc (Nat.le_refl _) _
      have hb13 := hbx2.trans (hba.mono hbx2.size)
      have HX3 : Hid (Below w.heap.size w (x2.alloc (Obj.cells #[.slice na ns.length nc] 25)) ∧ Byt (x2.alloc (Obj.cells #[.slice na ns.length nc] 25)) pa zs ∧ Byt (x2.alloc (Obj.cells #[.slice na ns.length nc] 25)) qa ys ∧ Pls (x2.alloc (Obj.cells #[.slice na ns.length nc] 25)) na ns ∧ (x2.alloc (Obj.cells #[.slice na ns.length nc] 25)).cell? ⟨x2.heap.size, 0, none⟩ = some (.slice na ns.length nc) ∧ x2.heap.size < (x2.alloc (Obj.cells #[.slice na ns.length nc] 25)).heap.size) := ⟨HX1.out.1.trans (hb13.mono HX1.out.1.size), HX1.out.2.1.below hb13 (Nat.le_refl _), HX1.out.2.2.below hb13 (Nat.le_refl _), (hmn.below hba).pls, by simp, by simp⟩
      clear hba hb13 hbx2 hmn HX1
      go_wp2_with fail
      generalize x2.alloc (Obj.cells #[.slice na ns.length nc] 25) = x3 at *
      generalize x2.heap.size = Y at *
      refine (HR1.out x3 HX3.out.2.1).mono ?_
      rintro r x4 ⟨⟨ia, ic, rfl, -⟩, hbx4⟩
      have hba : Below x4.heap.size x4 (x4.alloc (Obj.cells #[.slice ia (srP zs).length ic] 25)) := (Below.refl _ _).alloc (Nat.le_refl _) _
      have hb35 := hbx4.trans (hba.mono hbx4.size)
      have HX5 : Hid (Below w.heap.size w (x4.alloc (Obj.cells #[.slice ia (srP zs).length ic] 25)) ∧ Byt (x4.alloc (Obj.cells #[.slice ia (srP zs).length ic] 25)) pa zs ∧ Byt (x4.alloc (Obj.cells #[.slice ia (srP zs).length ic] 25)) qa ys ∧ Pls (x4.alloc (Obj.cells #[.slice ia (srP zs).length ic] 25)) na ns ∧ (x4.alloc (Obj.cells #[.slice ia (srP zs).length ic] 25)).cell? ⟨Y, 0, none⟩ = some (.slice na ns.length nc) ∧ Y < (x4.alloc (Obj.cells #[.slice ia (srP zs).length ic] 25)).heap.size) := ⟨HX3.out.1.trans (hb35.mono HX3.out.1.size), HX3.out.2.1.below hb35 (Nat.le_refl _), HX3.out.2.2.1.below hb35 (Nat.le_refl _), HX3.out.2.2.2.1.below hb35 (Nat.le_refl _), keep hb35 HX3.out.2.2.2.2.2 HX3.out.2.2.2.2.1, Nat.lt_of_lt_of_le HX3.out.2.2.2.2.2 hb35.size⟩
      clear hba hb35 hbx4 HX3
      go_wp2_with fail
      generalize x4.alloc (Obj.cells #[.slice ia (srP zs).length ic] 25) = x5 at *
      refine (HR2.out x5 HX5.out.2.2.1).mono ?_
      rintro r x6 ⟨⟨ja, jc, rfl, -⟩, hbx6⟩
      have hba : Below x6.heap.size x6 (x6.alloc (Obj.cells #[.slice ja (srP ys).length jc] 25)) := (Below.refl _ _).alloc (Nat.le_refl _) _
      have hb57 := hbx6.trans (hba.mono hbx6.size)
      have HX7 : Hid (Below w.heap.size w (x6.alloc (Obj.cells #[.slice ja (srP ys).length jc] 25)) ∧ Byt (x6.alloc (Obj.cells #[.slice ja (srP ys).length jc] 25)) pa zs ∧ Byt (x6.alloc (Obj.cells #[.slice ja (srP ys).length jc] 25)) qa ys ∧ Pls (x6.alloc (Obj.cells #[.slice ja (srP ys).length jc] 25)) na ns) := ⟨HX5.out.1.trans (hb57.mono HX5.out.1.size), HX5.out.2.1.below hb57 (Nat.le_refl _), HX5.out.2.2.1.below hb57 (Nat.le_refl _), HX5.out.2.2.2.1.below hb57 (Nat.le_refl _)⟩
      have y7 := keep hb57 HX5.out.2.2.2.2.2 HX5.out.2.2.2.2.1
      clear hba hb57 hbx6 HX5
      go_wp2_with fail
      generalize x6.alloc (Obj.cells #[.slice ja (srP ys).length jc] 25) = x7 at *
      refine (HSS.out na nc x7 HX7.out.2.2.2).mono ?_
      rintro r x8 ⟨⟨vv, rfl, hov⟩, hbx8⟩
      obtain ⟨ca, cc, hvv⟩ := hov.form
      subst hvv
      have HX8 : Hid (Below w.heap.size w x8 ∧ Byt x8 pa zs ∧ Byt x8 qa ys ∧ Byt x8 ca cs) := ⟨HX7.out.1.trans (hbx8.mono HX7.out.1.size), HX7.out.2.1.below hbx8 (Nat.le_refl _), HX7.out.2.2.1.below hbx8 (Nat.le_refl _), hov.byt⟩
      clear hov hbx8 HX7 y7
      have HMN := implMapNew_any 3 x8
      rw [show nwN 3 = 3 from rfl, show nwB 3 = true from rfl] at HMN
      go_wp2_with fail
      refine HMN.mono ?_
      clear HMN
      rintro r x9 ⟨⟨la, lc, rfl, -⟩, hbx9⟩
      have hba : Below x9.heap.size x9 (x9.alloc (Obj.cells #[.slice la 3 lc] 25)) := (Below.refl _ _).alloc (Nat.le_refl _) _
      have hb810 := hbx9.trans (hba.mono hbx9.size)
      have HX10 : Hid (Below w.heap.size w (x9.alloc (Obj.cells #[.slice la 3 lc] 25)) ∧ Byt (x9.alloc (Obj.cells #[.slice la 3 lc] 25)) pa zs ∧ Byt (x9.alloc (Obj.cells #[.slice la 3 lc] 25)) qa ys ∧ Byt (x9.alloc (Obj.cells #[.slice la 3 lc] 25)) ca cs) := ⟨HX8.out.1.trans (hb810.mono HX8.out.1.size), HX8.out.2.1.below hb810 (Nat.le_refl _), HX8.out.2.2.1.below hb810 (Nat.le_refl _), HX8.out.2.2.2.below hb810 (Nat.le_refl _)⟩
      clear hba hb810 hbx9 HX8 HSS HR1 HR2
      cases fine with
      | false =>
        obtain ⟨rfl, rfl⟩ := or_noS HPURE.out.1
        clear HPURE
        go_wp2
        go_ret
        exact ⟨rfl, HX10.out.1⟩
      | true =>
        obtain ⟨hgd, hsm, hge1, hge2⟩ := HPURE.out.2 rfl
        subst hgd
        have HS1 := same8 ca pa cc pc cs zs _ HX10.out.2.2.2 HX10.out.2.1
        have HS2 := same8 ca qa cc qc cs ys _ HX10.out.2.2.2 HX10.out.2.2.1
        have hor := HPURE.out.1
        clear HPURE
        have key : (b1 = true ∧ b2 = false) ∨ (b1 = false ∧ b2 = true) ∨ (b1 = true ∧ b2 = true) := or_yesS hor
        clear hor
        cases h1 : sm8 cs zs with
        | true =>
          rw [h1] at HS1
          clear hsm h1 HS2
          rcases key with ⟨rfl, rfl⟩ | ⟨rfl, rfl⟩ | ⟨rfl, rfl⟩
          · have hg1 : i1 ≤ f := hge1 rfl
            clear hge1 hge2
            go_wp2_with fail
            refine HS1.mono ?_
            rintro r x11 ⟨rfl, rfl⟩
            go_wp2
            go_ret
            exact ⟨by simp [hg1], HX10.out.1⟩
          · have hg2 : i2 ≤ f := hge2 rfl
            clear hge1 hge2
            go_wp2_with fail
            refine HS1.mono ?_
            rintro r x11 ⟨rfl, rfl⟩
            go_wp2
            go_ret
            exact ⟨by simp [hg2], HX10.out.1⟩
          · have hg1 : i1 ≤ f := hge1 rfl
            have hg2 : i2 ≤ f := hge2 rfl
            clear hge1 hge2
            go_wp2_with fail
            refine HS1.mono ?_
            rintro r x11 ⟨rfl, rfl⟩
            go_wp2
            go_ret
            exact ⟨by simp [hg1, hg2], HX10.out.1⟩
        | false =>
          have h2 : sm8 cs ys = true := by
            rcases hsm with h | h
            · rw [h1] at h; cases h
            · exact h
          rw [h1] at HS1
          rw [h2] at HS2
          clear hsm h1 h2
          rcases key with ⟨rfl, rfl⟩ | ⟨rfl, rfl⟩ | ⟨rfl, rfl⟩
          · have hg1 : i1 ≤ f := hge1 rfl
            clear hge1 hge2
            go_wp2_with fail
            refine HS1.mono ?_
            rintro r x11 ⟨rfl, rfl⟩
            go_wp2_with fail
            refine HS2.mono ?_
            rintro r x12 ⟨rfl, rfl⟩
            go_wp2
            go_ret
            exact ⟨by simp [hg1], HX10.out.1⟩
          · have hg2 : i2 ≤ f := hge2 rfl
            clear hge1 hge2
            go_wp2_with fail
            refine HS1.mono ?_
            rintro r x11 ⟨rfl, rfl⟩
            go_wp2_with fail
            refine HS2.mono ?_
            rintro r x12 ⟨rfl, rfl⟩
            go_wp2
            go_ret
            exact ⟨by simp [hg2], HX10.out.1⟩
          · have hg1 : i1 ≤ f := hge1 rfl
            have hg2 : i2 ≤ f := hge2 rfl
            clear hge1 hge2
            go_wp2_with fail
            refine HS1.mono ?_
            rintro r x11 ⟨rfl, rfl⟩
            go_wp2_with fail
            refine HS2.mono ?_
            rintro r x12 ⟨rfl, rfl⟩
            go_wp2
            go_ret
            exact ⟨by simp [hg1, hg2], HX10.out.1⟩
end Go.Proofs.Ytnelpioadpdphaa
