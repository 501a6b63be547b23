/-
  The law on RawNew returns true, whatever is handed in, and writes nothing that was there.
-/
import Derived.Test.YtajhaoclkomjnaaRwNew
import Derived.Test.YtajhaoclkomjnaaSnN
import Derived.Test.YtajhaoclkomjnaaElEq
namespace Go.Proofs.Ytajhaoclkomjnaa
open Go.RowKit
set_option linter.unusedVariables false

theorem newN_le (n : Int) : newN n ≤ 24 := by
  unfold newN
  split <;> omega
theorem elets_new {es : List El} {k : Nat} (h : es.map El.ct = List.replicate k (0, Z256)) : elets es = k * 256 := by
  induction es generalizing k with
  | nil => cases k with
    | zero => rfl
    | succ k => simp [List.replicate_succ] at h
  | cons e es ih => cases k with
    | zero => simp at h
    | succ k =>
      simp only [List.map_cons, List.replicate_succ, List.cons.injEq] at h
      have h1 : e.ls = Z256 := congrArg Prod.snd h.1
      simp only [elets, ih h.2, h1, Z256_len]
      omega
theorem few_new {es : List El} {n : Int} (h : es.map El.ct = List.replicate (newN n) (0, Z256)) : Few es [] := by
  have h1 := elets_new h
  have h2 : es.length = newN n := by have := congrArg List.length h; simpa using this
  have h3 := newN_le n
  exact Few.mk' (by rw [h1, h2]; simp [elets]; omega)

set_option maxHeartbeats 4000000 in
theorem lawRawNew_any (n : Int) (w : World) :
    Calls Try.prog 4 #[.int .i64 n] w fun e w' => e = .returned (.bool true) ∧ Below w.heap.size w w' := by
  go_enter Try.func4, Try.ntmps4
  go_wp2_with fail
  refine (specRawNew_any n w).mono ?_
  rintro e w1 ⟨⟨va, ms, rfl, hca, hra⟩, hb1⟩
  have hla : ms.length = newN n := by have := congrArg List.length hca; simpa using this
  obtain ⟨aa, ac, -, -, rfl, -⟩ := hra.form
  rw [hla] at hra ⊢
  have HCA : Hid (ms.map El.ct = List.replicate (newN n) (0, Z256) ∧ Few ms []) := ⟨hca, few_new hca⟩
  have HW2 : Hid (Below w.heap.size w (w1.alloc (Obj.cells #[.slice aa (newN n) ac, .slice none 0 0] 30)) ∧ RawO (w1.alloc (Obj.cells #[.slice aa (newN n) ac, .slice none 0 0] 30)) w.heap.size (.slice aa (newN n) ac) (.slice none 0 0) ms [] ∧ (∀ k, blkR (.slice aa (newN n) ac) (.slice none 0 0) ms [] k → k < w1.heap.size) ∧ Box2 (w1.alloc (Obj.cells #[.slice aa (newN n) ac, .slice none 0 0] 30)) w1.heap.size (.slice aa (newN n) ac) (.slice none 0 0) ∧ w.heap.size ≤ w1.heap.size ∧ (w1.alloc (Obj.cells #[.slice aa (newN n) ac, .slice none 0 0] 30)).heap.size = w1.heap.size + 1) :=
    ⟨hb1.alloc hb1.size _, hra.below ((Below.refl _ _).alloc (Nat.le_refl _) _), fun k hk => (hra.inside k hk).2, Box2.new _ _ _ _, hb1.size, by simp⟩
  clear hra hb1 hca hla
  go_wp2_with fail
  generalize w1.alloc (Obj.cells #[.slice aa (newN n) ac, .slice none 0 0] 30) = w2 at *
  refine (implRawNew_any n w2).mono ?_
  rintro e w3 ⟨⟨vg, gs, rfl, hcg, hrg⟩, hb3⟩
  have hlg : gs.length = newN n := by have := congrArg List.length hcg; simpa using this
  obtain ⟨ga, gc, -, -, rfl, -⟩ := hrg.form
  rw [hlg] at hrg ⊢
  have HCG : Hid (gs.map El.ct = List.replicate (newN n) (0, Z256) ∧ gs.length = newN n ∧ Few gs []) := ⟨hcg, hlg, few_new hcg⟩
  have hba : Below w3.heap.size w3 (w3.alloc (Obj.cells #[.slice ga (newN n) gc, .slice none 0 0] 30)) := (Below.refl _ _).alloc (Nat.le_refl _) _
  have hb4 := hb3.trans (hba.mono hb3.size)
  have HS4 : Hid (SnN w (w3.alloc (Obj.cells #[.slice ga (newN n) gc, .slice none 0 0] 30)) w1.heap.size (.slice aa (newN n) ac) (.slice none 0 0) ms [] w2.heap.size w3.heap.size (.slice ga (newN n) gc) (.slice none 0 0) gs []) :=
    ⟨HW2.out.1.trans (hb4.mono HW2.out.1.size), HW2.out.2.2.2.2.1, by rw [HW2.out.2.2.2.2.2]; omega, hb3.size, HW2.out.2.1.below hb4, HW2.out.2.2.1, HW2.out.2.2.2.1.keep hb4 HW2.out.2.2.2.1.lt, hrg.below hba, fun k hk => (hrg.inside k hk).2, Box2.new _ _ _ _⟩
  obtain ⟨p0, p1, -, -, pl⟩ := HW2.out.2.2.2.1.keep hb3 HW2.out.2.2.2.1.lt
  clear hrg hb3 hcg hlg hba hb4 HW2
  go_wp2_with fail
  generalize w3.alloc (Obj.cells #[.slice ga (newN n) gc, .slice none 0 0] 30) = w4 at *
  generalize w1.heap.size = U at *
  generalize w2.heap.size = X at *
  generalize w3.heap.size = Y at *
  have hBB : (newB n != newB n) = false := by simp
  have HEQ := eqRaw_yes ga none aa none gc 0 ac 0 gs [] ms [] w4 HS4.out.mg.inn HS4.out.mw.inn (HCG.out.1.trans HCA.out.1.symm) rfl HCG.out.2.2
  rw [HCG.out.2.1] at HEQ
  clear p0 p1 pl
  refine HEQ.mono ?_
  clear HEQ
  rintro e w5 ⟨rfl, hb5⟩
  have HS5 : Hid _ := HS4.out.step hb5
  clear hb5 HS4
  obtain ⟨p0, p1, -, -, pl⟩ := HS5.out.bg
  have hmg := HS5.out.mg
  rw [← HCG.out.2.1] at hmg
  have HMK := markRaw_own ga none gc 0 X gs [] w5 hmg HCG.out.2.2
  rw [HCG.out.2.1] at HMK
  clear hmg
  go_wp2_with fail
  refine HMK.mono ?_
  clear HMK
  rintro e w6 ⟨rfl, hr6, ho6⟩
  have HS6 : Hid _ := HS5.out.markG ho6 hr6 (mk_a gs [])
  clear hr6 ho6 HS5 p0 p1 pl
  obtain ⟨p0, p1, -, -, pl⟩ := HS6.out.bg
  have hmg := HS6.out.mg.inn
  have HHD := heldRaw_any ga none gc 0 gs [] w6 hmg HCG.out.2.2
  rw [HCG.out.2.1] at HHD
  have hkb : 0 ≤ mkN gs [] := by unfold mkN; omega
  clear hmg
  generalize hkk0 : mkN gs [] = kk at *
  have HKK : Hid (mkN gs [] = kk ∧ True) := ⟨hkk0, trivial⟩
  clear hkk0
  have hkk : (kk != kk) = false := by simp
  go_wp2_with fail
  refine HHD.mono ?_
  clear HHD
  rintro e w7 ⟨rfl, hb7⟩
  have HS7 : Hid _ := HS6.out.step hb7
  clear hb7 HS6 p0 p1 pl
  go_wp2_with fail
  refine (implRawNew_any n w7).mono ?_
  rintro e w8 ⟨⟨vh, hs, rfl, hch, hrh⟩, hb8⟩
  have hlh : hs.length = newN n := by have := congrArg List.length hch; simpa using this
  obtain ⟨ha, hc, -, -, rfl, -⟩ := hrh.form
  rw [hlh] at hrh ⊢
  have HCH : Hid (hs.map El.ct = List.replicate (newN n) (0, Z256) ∧ hs.length = newN n ∧ Few hs []) := ⟨hch, hlh, few_new hch⟩
  have HS8 : Hid _ := HS7.out.step hb8
  have hba : Below w8.heap.size w8 (w8.alloc (Obj.cells #[.slice ha (newN n) hc, .slice none 0 0] 30)) := (Below.refl _ _).alloc (Nat.le_refl _) _
  have HRH : Hid (RawO (w8.alloc (Obj.cells #[.slice ha (newN n) hc, .slice none 0 0] 30)) w7.heap.size (.slice ha (newN n) hc) (.slice none 0 0) hs []) := hrh.below hba
  have HS9 : Hid (SnN w (w8.alloc (Obj.cells #[.slice ha (newN n) hc, .slice none 0 0] 30)) U (.slice aa (newN n) ac) (.slice none 0 0) ms [] X Y (.slice ga (newN n) gc) (.slice none 0 0) (mkSs gs) (mkPs gs [])) := HS8.out.step hba
  obtain ⟨p0, p1, -, -, pl⟩ := HS8.out.bw
  obtain ⟨q0, q1, -, -, ql⟩ := HS8.out.bg
  clear hch hlh hrh hb8 HS7 hba HS8
  go_wp2_with fail
  generalize w8.alloc (Obj.cells #[.slice ha (newN n) hc, .slice none 0 0] 30) = w9 at *
  have hr1 := HRH.out.inn
  have HEQ := eqRaw_yes ha none aa none hc 0 ac 0 hs [] ms [] w9 hr1 HS9.out.mw.inn (HCH.out.1.trans HCA.out.1.symm) rfl HCH.out.2.2
  rw [HCH.out.2.1] at HEQ
  clear hr1 p0 p1 pl q0 q1 ql HRH
  refine HEQ.mono ?_
  clear HEQ
  rintro e w10 ⟨rfl, hb10⟩
  have HS10 : Hid _ := HS9.out.step hb10
  clear hb10 HS9
  obtain ⟨p0, p1, -, -, pl⟩ := HS10.out.bg
  have HHD := heldRaw_any ga none gc 0 gs [] w10 HS10.out.mg.inn HCG.out.2.2
  rw [HCG.out.2.1, HKK.out.1] at HHD
  go_wp2_with fail
  refine HHD.mono ?_
  clear HHD
  rintro e w11 ⟨rfl, hb11⟩
  have HS11 : Hid _ := HS10.out.step hb11
  clear hb11
  go_wp2
  go_ret
  exact ⟨rfl, HS11.out.bel⟩
end Go.Proofs.Ytajhaoclkomjnaa
