/-
  The program's SuperRead.
-/
import Derived.Test.YtnelpioadpdphaaMpSm
namespace Go.Proofs.Ytnelpioadpdphaa
open Go.RowKit
set_option linter.unusedVariables false
set_option linter.unusedSimpArgs false

set_option maxRecDepth 20000 in
set_option maxHeartbeats 8000000 in
theorem implSuperRead_any (a : Option Addr) (c : Nat) (zs : List Int) (w : World) (hb : Byt w a zs) (hn : zs.length ≤ 1048576) (hc : zs.length ≤ c) (hc2 : c ≤ 9223372036854775807) :
    Calls Try.prog 7 #[.slice a zs.length c] w fun r w' => (∃ a c, r = .returned (.tuple #[.int .i64 (srE zs), .agg #[.slice a (srP zs).length c], .bool (srB zs)]) ∧ MinP w' w.heap.size w'.heap.size a c (srP zs)) ∧ Below w.heap.size w w' := by
  have HW : Hid (Below w.heap.size w (w.alloc (Obj.cells #[.slice none 0 0] 25))) := (Below.refl _ _).alloc (Nat.le_refl _) _
  by_cases hl : zs.length = 256
  · have HB : Hid (Byt w a zs) := hb
    obtain ⟨b, off, rfl, hbw, hcc⟩ := hb.2 (by omega)
    have hbw2 := hbw
    have c1 : (w.alloc (Obj.cells #[.slice none 0 0] 25)).cell? ⟨b, off + 1, none⟩ = some (.int .u8 (zs.getD 1 0)) := keepA _ hbw (hcc 1 (by omega))
    have c2 : (w.alloc (Obj.cells #[.slice none 0 0] 25)).cell? ⟨b, off + 2, none⟩ = some (.int .u8 (zs.getD 2 0)) := keepA _ hbw (hcc 2 (by omega))
    have c3 : (w.alloc (Obj.cells #[.slice none 0 0] 25)).cell? ⟨b, off + 3, none⟩ = some (.int .u8 (zs.getD 3 0)) := keepA _ hbw (hcc 3 (by omega))
    have r1 := getD_rng hb.1 1
    have r2 := getD_rng hb.1 2
    have r3 := getD_rng hb.1 3
    have t0 : (w.alloc (Obj.cells #[.slice none 0 0] 25)).cell? ⟨w.heap.size, 0, none⟩ = some (.slice none 0 0) := by simp
    have f0 : (w.alloc (Obj.cells #[.slice none 0 0] 25)).frozen? ⟨w.heap.size, 0, none⟩ = false := by simp
    have tl : w.heap.size < (w.alloc (Obj.cells #[.slice none 0 0] 25)).heap.size := by simp
    have hcd : ¬ c = 4 := by omega
    have hc4 : 4 ≤ c := by omega
    have hc256 : 256 ≤ c := by omega
    have HEP : Hid (epo zs = zs.getD 1 0 * 256 + zs.getD 2 0 ∧ mny zs = (zs.getD 3 0).toNat ∧ zs.length = 256) := ⟨rfl, rfl, hl⟩
    rw [hl]
    clear hcc hb hl hc hn
    generalize hx1 : zs.getD 1 0 = x at *
    generalize hy1 : zs.getD 2 0 = y at *
    generalize hz1 : zs.getD 3 0 = z at *
    have hwx : IntKind.i64.wrap x = x := IntWalk.i64_in _ (by omega)
    have hwy : IntKind.i64.wrap y = y := IntWalk.i64_in _ (by omega)
    have hwz : IntKind.i64.wrap z = z := IntWalk.i64_in _ (by omega)
    have hor := or_epo x y r1 r2
    have hsh : IntKind.i64.wrap (x * 256) = x * 256 := IntWalk.i64_in _ (by omega)
    have HZ3 : Hid (zs.getD 3 0 = z ∧ True) := ⟨hz1, trivial⟩
    clear hx1 hy1 hz1
    by_cases h16 : z ≤ 16
    · have HSB : Hid (srB zs = (sbB (epo zs) (rdP zs) && sm8 (sbA (epo zs) (rdP zs)) zs) ∧ True) := ⟨srB_in ⟨HEP.out.2.2, by rw [HZ3.out.1]; exact h16⟩, trivial⟩
      obtain ⟨m, rfl⟩ := Int.eq_ofNat_of_zero_le r3.1
      have hm : m ≤ 16 := by omega
      have HRP : Hid (rdP zs = pl2 (zs.drop 4) m ∧ (zs.drop 4).length = 252 ∧ (pl2 (zs.drop 4) m).length ≤ 16) := ⟨by unfold rdP; rw [HEP.out.2.1]; rfl, by rw [List.length_drop, HEP.out.2.2], by rw [pl2_len]; exact hm⟩
      have h16' : ¬ (16 < (m : Int)) := by omega
      go_enter Try.func7, Try.ntmps7
      go_wp2_with fail
      go_quiet (fail)
      have hbd : Below (w.alloc (Obj.cells #[.slice none 0 0] 25)).heap.size (w.alloc (Obj.cells #[.slice none 0 0] 25)) ((w.alloc (Obj.cells #[.slice none 0 0] 25)).drewN nq) := ⟨rfl, rfl, rfl, Nat.le_refl _, fun _ _ => rfl⟩
      have t1 := keep hbd tl t0
      have f1 := (hbd.frozen (p := ⟨w.heap.size, 0, none⟩) tl).trans f0
      have HW1 : Hid (Below w.heap.size w ((w.alloc (Obj.cells #[.slice none 0 0] 25)).drewN nq)) := HW.out.trans (hbd.mono HW.out.size)
      have tl1 : w.heap.size < ((w.alloc (Obj.cells #[.slice none 0 0] 25)).drewN nq).heap.size := tl
      clear hbd t0 f0 tl c1 c2 c3 HW hor hsh hwx hwy hwz h16'
      generalize (w.alloc (Obj.cells #[.slice none 0 0] 25)).drewN nq = W at *
      have HEP2 : Hid (epo zs = x * 256 + y ∧ True) := ⟨HEP.out.1, trivial⟩
      generalize x * 256 + y = e at *
      have HSV := savedPlaces_any (some ⟨b, off + 4, none⟩) (c - 4) (zs.drop 4) m W ((HB.out.below HW1.out (Nat.le_refl _)).drop 4) hm (by rw [HRP.out.2.1]; omega) (by rw [HRP.out.2.1]; omega)
      rw [HRP.out.2.1] at HSV
      go_wp2_with fail
      refine HSV.mono ?_
      clear HSV
      rintro r w2 ⟨⟨v, rfl, hov⟩, hb2⟩
      rw [← HRP.out.1] at hov
      obtain ⟨va, vc, rfl, hmp⟩ := hov.mine
      have t2 := keep hb2 tl1 t1
      have f2 := (hb2.frozen (p := ⟨w.heap.size, 0, none⟩) tl1).trans f1
      have hba : Below w2.heap.size w2 (w2.alloc (Obj.cells #[.slice va (rdP zs).length vc] 25)) := (Below.refl _ _).alloc (Nat.le_refl _) _
      have tl2 : w.heap.size < w2.heap.size := Nat.lt_of_lt_of_le tl1 hb2.size
      have t3 := keep hba tl2 t2
      have f3 := (hba.frozen (p := ⟨w.heap.size, 0, none⟩) tl2).trans f2
      have HW3 : Hid (Below w.heap.size w (w2.alloc (Obj.cells #[.slice va (rdP zs).length vc] 25)) ∧ MinP (w2.alloc (Obj.cells #[.slice va (rdP zs).length vc] 25)) (w.heap.size + 1) w2.heap.size va vc (rdP zs)) := ⟨(HW1.out.trans (hb2.mono (by omega))).trans (hba.mono (by omega)), (hmp.mono (by omega) (Nat.le_refl _)).below hba⟩
      have v3 : (w2.alloc (Obj.cells #[.slice va (rdP zs).length vc] 25)).cell? ⟨w2.heap.size, 0, none⟩ = some (.slice va (rdP zs).length vc) := by simp
      have vl3 : w2.heap.size < (w2.alloc (Obj.cells #[.slice va (rdP zs).length vc] 25)).heap.size := by simp
      have hvne : ¬ w2.heap.size = w.heap.size := by omega
      have hln : (rdP zs).length ≤ 16 := by rw [HRP.out.1]; exact HRP.out.2.2
      clear hba hb2 hov hmp t1 f1 t2 f2 tl1 HW1
      have HSS := implSuperBytes_any va vc (rdP zs) e _ HW3.out.2.pls (by omega)
      go_wp2_with fail
      refine HSS.mono ?_
      clear HSS
      generalize w2.alloc (Obj.cells #[.slice va (rdP zs).length vc] 25) = V at *
      generalize w2.heap.size = X at *
      rintro r w4 ⟨⟨vs, rfl, hos⟩, hb4⟩
      have tl3 : w.heap.size < V.heap.size := by omega
      have t4 := keep hb4 tl3 t3
      have f4 := (hb4.frozen (p := ⟨w.heap.size, 0, none⟩) tl3).trans f3
      have v4 := keep hb4 vl3 v3
      have HW4 : Hid (Below w.heap.size w w4 ∧ MinP w4 (w.heap.size + 1) X va vc (rdP zs) ∧ X < w4.heap.size) := ⟨HW3.out.1.trans (hb4.mono (by omega)), HW3.out.2.below hb4, Nat.lt_of_lt_of_le vl3 hb4.size⟩
      obtain ⟨sa, sc, hvs⟩ := hos.form
      subst hvs
      have HOS : Hid (Byt w4 sa (sbA e (rdP zs))) := hos.byt
      rw [HEP2.out.1] at HSB
      clear t3 f3 v3 hb4 HW3 hos
      cases hsb : sbB e (rdP zs) with
      | false =>
        have HF : Hid (srB zs = false ∧ srE zs = 0 ∧ srP zs = []) := by
          have : srB zs = false := by rw [HSB.out.1, hsb]; rfl
          exact ⟨this, sr_no this⟩
        clear HSB hsb
        go_wp2
        refine bodyPost_ret (v := .tuple #[.int .i64 0, .agg #[.slice none 0 0], .bool false]) (by simp [results, Try.results7, go_sem, t4]) rfl ⟨⟨none, 0, by rw [HF.out.1, HF.out.2.1, HF.out.2.2]; rfl, .inl ⟨rfl, HF.out.2.2, rfl⟩⟩, ?_⟩
        exact HW4.out.1.setCell (p := ⟨w.heap.size, 0, none⟩) (by simp) _
      | true =>
        have HQ := bytesEqual_any sa (some ⟨b, off, none⟩) sc c (sbA e (rdP zs)) zs w4 HOS.out (HB.out.below HW4.out.1 (Nat.le_refl _))
        rw [HEP.out.2.2] at HQ
        have HSB2 : Hid (srB zs = sm8 (sbA e (rdP zs)) zs ∧ True) := ⟨by rw [HSB.out.1, hsb]; rfl, trivial⟩
        clear HSB hsb
        go_wp2_with fail
        refine HQ.mono ?_
        clear HQ
        rintro r w5 ⟨rfl, rfl⟩
        cases hsm : sm8 (sbA e (rdP zs)) zs with
        | false =>
          have HF : Hid (srB zs = false ∧ srE zs = 0 ∧ srP zs = []) := by
            have : srB zs = false := by rw [HSB2.out.1, hsm]
            exact ⟨this, sr_no this⟩
          clear HSB2 hsm
          go_wp2
          refine bodyPost_ret (v := .tuple #[.int .i64 0, .agg #[.slice none 0 0], .bool false]) (by simp [results, Try.results7, go_sem, t4]) rfl ⟨⟨none, 0, by rw [HF.out.1, HF.out.2.1, HF.out.2.2]; rfl, .inl ⟨rfl, HF.out.2.2, rfl⟩⟩, ?_⟩
          exact HW4.out.1.setCell (p := ⟨w.heap.size, 0, none⟩) (by simp) _
        | true =>
          have HF : Hid (srB zs = true ∧ srE zs = e ∧ srP zs = rdP zs) := by
            have : srB zs = true := by rw [HSB2.out.1, hsm]
            exact ⟨this, by rw [(sr_yes this).1, HEP2.out.1], (sr_yes this).2⟩
          clear HSB2 hsm
          have hon : Only (fun k => k = w.heap.size) w5 ((w5.drew).setCell ⟨w.heap.size, 0, none⟩ (.slice va (rdP zs).length vc)) := (Only.drew (Only.refl (fun k => k = w.heap.size) w5)).setCell (p := ⟨w.heap.size, 0, none⟩) (.inl rfl) _
          have HMF : Hid (MinP ((w5.drew).setCell ⟨w.heap.size, 0, none⟩ (.slice va (rdP zs).length vc)) w.heap.size ((w5.drew).setCell ⟨w.heap.size, 0, none⟩ (.slice va (rdP zs).length vc)).heap.size va vc (rdP zs)) := (HW4.out.2.1.only hon (fun k h1 h2 h3 => by omega)).mono (by omega) (by have h7 := hon.size; have h8 := HW4.out.2.2; omega)
          clear hon
          go_wp2
          go_region
          all_goals
            go_wp2
            refine bodyPost_ret (v := .tuple #[.int .i64 e, .agg #[.slice va (rdP zs).length vc], .bool true]) (by simp [results, Try.results7, go_sem, t4]) rfl ⟨⟨va, vc, by rw [HF.out.1, HF.out.2.1, HF.out.2.2], by rw [HF.out.2.2]; exact HMF.out⟩, ?_⟩
            exact (HW4.out.1.drew).setCell (p := ⟨w.heap.size, 0, none⟩) (by simp) _
    · have HF : Hid (srB zs = false ∧ srE zs = 0 ∧ srP zs = []) := by
        have : srB zs = false := srB_len (fun h => h16 (by rw [← HZ3.out.1]; exact h.2))
        exact ⟨this, sr_no this⟩
      have h16' : 16 < z := by omega
      clear h16
      go_enter Try.func7, Try.ntmps7
      go_wp2
      refine bodyPost_ret (v := .tuple #[.int .i64 0, .agg #[.slice none 0 0], .bool false]) (by simp [results, Try.results7, go_sem]) rfl ⟨⟨none, 0, by rw [HF.out.1, HF.out.2.1, HF.out.2.2]; rfl, .inl ⟨rfl, HF.out.2.2, rfl⟩⟩, ?_⟩
      first | exact HW.out | exact HW.out.setCell (p := ⟨w.heap.size, 0, none⟩) (by simp) _
  · have HF : Hid (srB zs = false ∧ srE zs = 0 ∧ srP zs = []) := by
      have : srB zs = false := srB_len (fun h => hl h.1)
      exact ⟨this, sr_no this⟩
    have hl2 : ((zs.length : Int) != 256) = true := by rw [bne_iff_ne]; omega
    clear hb
    go_enter Try.func7, Try.ntmps7
    go_wp2
    refine bodyPost_ret (v := .tuple #[.int .i64 0, .agg #[.slice none 0 0], .bool false]) (by simp [results, Try.results7, go_sem]) rfl ⟨⟨none, 0, by rw [HF.out.1, HF.out.2.1, HF.out.2.2]; rfl, .inl ⟨rfl, HF.out.2.2, rfl⟩⟩, ?_⟩
    first | exact HW.out | exact HW.out.setCell (p := ⟨w.heap.size, 0, none⟩) (by simp) _
end Go.Proofs.Ytnelpioadpdphaa
