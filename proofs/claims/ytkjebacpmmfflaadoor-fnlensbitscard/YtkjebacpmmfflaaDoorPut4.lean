/-
  The program's put: bits put behind others, as many at once as a byte takes.
-/
import Derived.Test.YtkjebacpmmfflaaDoorPut3
namespace Go.Proofs.YtkjebacpmmfflaaDoor
open Go.RowKit
set_option linter.unusedVariables false

set_option maxRecDepth 100000 in
set_option maxHeartbeats 2000000 in
theorem wput_yes (R B : Nat) (v : Value) (n V : Nat) (x width room : Int) (w : World) (hR : w.heap[R]? = some (.cells #[v, .int .i64 n, .int .i64 room] 75 (0, 0))) (hv : OwnV w B v (enc n V)) (hV : V < 2 ^ n) (hB : B ≤ w.heap.size)
    (hx : 0 ≤ x) (h1 : 0 ≤ width) (h2 : width ≤ 30) (hxw : x < 2 ^ width.toNat) (h3 : width ≤ room - n) (hn : n ≤ 4104) (hroom : room ≤ 5000) :
    Calls Tryd.prog 66 #[.pointer (some ⟨R, 0, none⟩), .int .i64 x, .int .i64 width] w fun e w' => e = .returned .nilIface ∧
      ∃ v', w'.heap[R]? = some (.cells #[v', .int .i64 ((n + width.toNat : Nat) : Int), .int .i64 room] 75 (0, 0)) ∧ OwnV w' B v' (enc (n + width.toNat) (V + x.toNat * 2 ^ n)) ∧
        Only (fun k => k = R ∨ v.ownBlock = some k) w w' ∧ (v'.ownBlock = v.ownBlock ∨ ∃ k, v'.ownBlock = some k ∧ w.heap.size ≤ k) := by
  obtain ⟨X, rfl⟩ := Int.eq_ofNat_of_zero_le hx
  obtain ⟨m, rfl⟩ := Int.eq_ofNat_of_zero_le h1
  simp only [Int.toNat_natCast] at *
  have hXm : X < 2 ^ m := by
    have e : ((2 : Int) ^ m) = ((2 ^ m : Nat) : Int) := by simp
    rw [e] at hxw
    omega
  have hXb : X ≤ 1073741824 := by
    have : 2 ^ m ≤ 2 ^ 30 := Nat.pow_le_pow_right (by omega) (by omega)
    omega
  have HXM : Hid (X < 2 ^ m) := hXm
  rw [← wrap_pow m (by omega)] at hxw
  have hRlt : R < w.heap.size := (Array.getElem?_eq_some_iff.1 hR).1
  have HR : Hid (w.heap[R]? = some (.cells #[v, .int .i64 n, .int .i64 room] 75 (0, 0))) := hR
  have HV : Hid (OwnV w B v (enc n V)) := hv
  have HVV : Hid (V < 2 ^ n) := hV
  have c1 : w.cell? ⟨R, 1, none⟩ = some (.int .i64 n) := cellR (j := 1) hR rfl
  have c2 : w.cell? ⟨R, 2, none⟩ = some (.int .i64 room) := cellR (j := 2) hR rfl
  have hd : Hid (decide (0 ≤ (m : Int) ∧ (m : Int) ≤ 30) = true) := by simp [Hid]; omega
  clear hR hv hV hXm
  obtain ⟨i0, hi, hz0, hz1, hz2⟩ := info_parts Tryd.infoU8
  go_enter Tryd.func66, Tryd.ntmps66
  go_wp2_with fail
  refine (widthOk_any _ _).mono ?_
  rintro e w1 ⟨rfl, hw1⟩
  rw [hd.out]
  rw [hw1]
  clear hw1
  go_wp2
  go_quiet (fail)
  go_wp2
  clear hxw c1 c2
  go_loopw [1, 7] (fun y l wr => ∃ (d : Nat) (u : Value), d ≤ m ∧ l = .int .i64 ((m : Int) - d) ∧ y = .int .i64 ((X / 2 ^ d : Nat) : Int) ∧ wr.heap[R]? = some (.cells #[u, .int .i64 ((n + d : Nat) : Int), .int .i64 room] 75 (0, 0)) ∧ OwnV wr B u (enc (n + d) (V + (X % 2 ^ d) * 2 ^ n)) ∧
      Only (fun k => k = R ∨ v.ownBlock = some k) w wr ∧ (u.ownBlock = v.ownBlock ∨ ∃ k, u.ownBlock = some k ∧ w.heap.size ≤ k)) (fun _ l _ => (intOf l).toNat)
  case atStart => exact ⟨0, v, Nat.zero_le _, by simp, by simp, HR.out, by simp only [Nat.pow_zero, Nat.mod_one, Nat.zero_mul, Nat.add_zero]; exact HV.out, (Only.refl _ _).drewN _, .inl rfl⟩
  case round =>
    obtain ⟨d, u, hdm, rfl, rfl, hRr, hur, honly, hrow⟩ := hrel
    by_cases hlt : d < m
    · obtain ⟨s, hs⟩ : ∃ s, s = min (8 - (n + d) % 8) (m - d) := ⟨_, rfl⟩
      have hs1 : 0 < s := by omega
      have hVk : V + X % 2 ^ d * 2 ^ n < 2 ^ (n + d) := put_lt n V d _ HVV.out (Nat.mod_lt _ (Nat.pow_pos (by omega)))
      have hY : X / 2 ^ d < 2 ^ (m - d) := by
        rw [Nat.div_lt_iff_lt_mul (Nat.pow_pos (by omega)), ← Nat.pow_add, show m - d + d = m from by omega]
        exact HXM.out
      have hYb : X / 2 ^ d ≤ X := Nat.div_le_self _ _
      have hnext := enc_step (n + d) (V + X % 2 ^ d * 2 ^ n) s (X / 2 ^ d % 2 ^ s) hVk (Nat.mod_lt _ (Nat.pow_pos (by omega))) hs1 (by omega)
      rw [put_part n V X d s] at hnext
      have htop := enc_top (n + d) _ hVk
      have hlast := enc_last (n + d) _ hVk
      have hlen := enc_len (n + d) (V + X % 2 ^ d * 2 ^ n)
      have hdiv : X / 2 ^ (d + s) = X / 2 ^ d / 2 ^ s := by rw [Nat.div_div_eq_div_mul, ← Nat.pow_add]
      have HDIV : Hid (X / 2 ^ (d + s) = X / 2 ^ d / 2 ^ s) := hdiv
      generalize hZp : enc (n + d + s) (V + X % 2 ^ (d + s) * 2 ^ n) = Z' at *
      have HPART : Hid (enc (n + d + s) (V + X % 2 ^ (d + s) * 2 ^ n) = Z') := hZp
      clear hZp hdiv
      generalize (V + X % 2 ^ d * 2 ^ n) / 256 ^ ((n + d) / 8) = old at *
      generalize enc (n + d) (V + X % 2 ^ d * 2 ^ n) = Z at *
      generalize hYY : X / 2 ^ d = Y at *
      have HYY : Hid (X / 2 ^ d = Y) := hYY
      have hq4 : n + d ≤ 4134 := by omega
      generalize hq : n + d = q at *
      have HQ : Hid (n + d = q) := hq
      clear hq hYY hVk
      have hch := put_chunk old Y (q % 8) s (m - d) (by omega) htop hY hs (by omega)
      have hrng : (0 : Int) ≤ ((old + Y % 2 ^ s * 2 ^ (q % 8) : Nat) : Int) ∧ ((old + Y % 2 ^ s * 2 ^ (q % 8) : Nat) : Int) ≤ 255 := by omega
      rw [← hch.1] at hrng hnext
      have HRNG : Hid (0 ≤ bits .or .u8 (old : Int) (wrap64 ((Y : Int) * 2 ^ (q % 8)) % 256) ∧ bits .or .u8 (old : Int) (wrap64 ((Y : Int) * 2 ^ (q % 8)) % 256) ≤ 255) := hrng
      clear hrng hch hY
      by_cases h8 : q % 8 = 0
      · rw [if_pos h8] at hnext
        have hlen' : Z.length = q / 8 := by omega
        have HNEXT : Hid (Z' = (Z ++ [0]).set (q / 8) (bits .or .u8 (old : Int) (wrap64 ((Y : Int) * 2 ^ (q % 8)) % 256))) := hnext
        have hold : old = 0 := by rw [h8] at htop; simp at htop; exact htop
        have hBw : B ≤ wr.heap.size := Nat.le_trans hB honly.size
        have h8' : ((q : Int) % 8 == 0) = true := by simp; omega
        have hu := hur.1
        rw [hlen'] at hu
        obtain ⟨au, cu, rfl⟩ : ∃ (x : Option Addr) (c : Nat), u = .slice x (q / 8) c := by
          rcases hu.2 with ⟨rfl, h0⟩ | ⟨g', cap', cur', rfl, _⟩
          · exact ⟨none, 0, by rw [h0]⟩
          · exact ⟨_, _, rfl⟩
        have c0 : wr.cell? ⟨R, 0, none⟩ = some (.slice au (q / 8) cu) := cellR (j := 0) hRr rfl
        have c1 : wr.cell? ⟨R, 1, none⟩ = some (.int .i64 (q : Nat)) := cellR (j := 1) hRr rfl
        have HRR : Hid (wr.heap[R]? = some (.cells #[.slice au (q / 8) cu, .int .i64 ((q : Nat) : Int), .int .i64 room] 75 (0, 0))) := hRr
        have HZR : Hid (∀ z ∈ Z, 0 ≤ z ∧ z ≤ 255) := hur.2
        have HONLY : Hid (Only (fun k => k = R ∨ v.ownBlock = some k) w wr) := honly
        have HROW : Hid ((Value.slice au (q / 8) cu).ownBlock = v.ownBlock ∨ ∃ k, (Value.slice au (q / 8) cu).ownBlock = some k ∧ w.heap.size ≤ k) := hrow
        have HZL : Hid (Z.length = q / 8) := hlen'
        have huR : Hid (some R ≠ (Value.slice au (q / 8) cu).ownBlock) := by
          intro he
          rcases hu.2 with ⟨h', _⟩ | ⟨g', cap', cur', h', hg', hh, r⟩
          · simp at h'
            rw [h'.1] at he
            simp [Value.ownBlock] at he
          · simp at h'
            rw [h'.1] at he
            simp [Value.ownBlock] at he
            subst he
            rw [hRr] at hh
            simp at hh
        have HS : Hid (s = min (8 - q % 8) (m - d)) := hs
        clear hnext hlast honly hrow hRr hlen hlen' hur hs
        go_wp2_with (at_builtin; (refine wpList_append_lies _ rfl (.tmp 53) (.tmp 54) 22 rfl B 5 i0 (.int .u8 0) 1 1 Tryd.underlying22 hi hz0 hz1 hz2 rfl (by decide) (.slice au (q / 8) cu) (q / 8) (Z.map (Value.int .u8)) rfl (hu.alloc _) ⟨wr.heap.size, 0, none⟩ 1 1 [.int .u8 0] rfl rfl (by intro j y hj; match j, hj with | 0, hj => (simp at hj; subst hj; simp [Addr.add])) (by intro y hy; simp at hy; subst hy; rfl) (by omega) (by unfold maxLen; omega) (by omega) (by simp; omega) _ rfl ?_); intro g cap w1 hown hgrow hat hlt1; have hR1 := app_keep hgrow HRR.out huR.out; have d0 := cellR (j := 0) hR1 rfl; have d1 := cellR (j := 1) hR1 rfl; have e0 := frozenR (j := 0) hR1)
        have G := put_grown3 (v := v) HRR.out huR.out HZR.out HZL.out hgrow hown hat HONLY.out HROW.out
        clear hown hgrow hat hR1 d0 d1 e0 c0 c1 hu hlt1
        generalize w1.setCell ⟨R, 0, none⟩ (.slice (some ⟨g, 0, none⟩) (q / 8 + 1) cap) = W at *
        obtain ⟨hRr, hown, honly, hrow'⟩ := G
        have hlen' : (Z ++ [0]).length = q / 8 + 1 := by rw [List.length_append, HZL.out]; rfl
        have CL : Hid _ := put_close3 (v := v) (s := s) hRr hlen' hown HNEXT.out HRNG.out honly hrow'
        have HROW2 : Hid (v.ownBlock = some g ∨ w.heap.size ≤ g) := hrow'
        have hne := hown.ne hRr (by decide)
        have c0 : W.cell? ⟨R, 0, none⟩ = some (.slice (some ⟨g, 0, none⟩) (q / 8 + 1) cap) := cellR (j := 0) hRr rfl
        have c1 : W.cell? ⟨R, 1, none⟩ = some (.int .i64 (q : Nat)) := cellR (j := 1) hRr rfl
        have f1 := frozenR (j := 1) hRr
        have cg : W.cell? ⟨g, q / 8, none⟩ = some (.int .u8 (old : Nat)) := by
          rw [hown.cell (q / 8) (by omega), hold]
          simp [← HZL.out]
        have fg := hown.frozen (q / 8)
        clear hown honly hrow' hRr hlen' HNEXT HRNG h8 hold HRR HZR HONLY HROW HZL huR
        go_region
        go_wp2
        go_roundw
        case rel =>
          have hmin : (if (m : Int) - (d : Int) < 8 - (q : Int) % 8 then (m : Int) - (d : Int) else 8 - (q : Int) % 8) = (s : Int) := by
            have := HS.out
            split <;> omega
          rw [hmin]
          have C := CL.out
          refine ⟨d + s, .slice (some ⟨g, 0, none⟩) (q / 8 + 1) cap, by have := HS.out; omega, congrArg (Value.int .i64) (by omega), congrArg (Value.int .i64) (by rw [HDIV.out]; simp), ?_, ?_, ?_, ?_⟩
          · rw [show n + (d + s) = q + s from by have := HQ.out; omega]; exact C.1
          · rw [show n + (d + s) = q + s from by have := HQ.out; omega, HPART.out]; exact C.2.1
          · exact C.2.2.drew
          · rcases HROW2.out with h | h
            · exact .inl h.symm
            · exact .inr ⟨g, rfl, h⟩
        case measure =>
          have := HS.out
          simp [intOf]
          split <;> omega
      · rw [if_neg h8] at hnext
        have hlen' : Z.length = q / 8 + 1 := by omega
        obtain ⟨g, cap, rfl, hown⟩ := hur.form (by omega)
        rw [hlen'] at hRr hrow
        have HNEXT : Hid (Z' = Z.set (q / 8) (bits .or .u8 (old : Int) (wrap64 ((Y : Int) * 2 ^ (q % 8)) % 256))) := hnext
        have hrow' : v.ownBlock = some g ∨ w.heap.size ≤ g := by
          rcases hrow with h | ⟨kk, h, h'⟩
          · exact .inl (h.symm.trans rfl)
          · right
            simp [Value.ownBlock] at h
            omega
        have CL : Hid _ := put_close3 (v := v) (s := s) hRr hlen' hown HNEXT.out HRNG.out honly hrow'
        have HROW : Hid (v.ownBlock = some g ∨ w.heap.size ≤ g) := hrow'
        have hne := hown.ne hRr (by decide)
        have c0 : wr.cell? ⟨R, 0, none⟩ = some (.slice (some ⟨g, 0, none⟩) (q / 8 + 1) cap) := cellR (j := 0) hRr rfl
        have c1 : wr.cell? ⟨R, 1, none⟩ = some (.int .i64 (q : Nat)) := cellR (j := 1) hRr rfl
        have f1 := frozenR (j := 1) hRr
        have cg := hown.cell (q / 8) (by omega)
        have fg := hown.frozen (q / 8)
        rw [hlast h8] at cg
        have h8' : ((q : Int) % 8 == 0) = false := by simp; omega
        have HS : Hid (s = min (8 - q % 8) (m - d)) := hs
        clear hnext hlast hown honly hrow hrow' hRr hlen hlen' hur HNEXT HRNG h8 hs
        go_wp2
        go_region
        go_wp2
        go_roundw
        case rel =>
          have hmin : (if (m : Int) - (d : Int) < 8 - (q : Int) % 8 then (m : Int) - (d : Int) else 8 - (q : Int) % 8) = (s : Int) := by
            have := HS.out
            split <;> omega
          rw [hmin]
          have C := CL.out
          refine ⟨d + s, .slice (some ⟨g, 0, none⟩) (q / 8 + 1) cap, by have := HS.out; omega, congrArg (Value.int .i64) (by omega), congrArg (Value.int .i64) (by rw [HDIV.out]; simp), ?_, ?_, ?_, ?_⟩
          · rw [show n + (d + s) = q + s from by have := HQ.out; omega]; exact C.1
          · rw [show n + (d + s) = q + s from by have := HQ.out; omega, HPART.out]; exact C.2.1
          · exact C.2.2.drew
          · rcases HROW.out with h | h
            · exact .inl h.symm
            · exact .inr ⟨g, rfl, h⟩
        case measure =>
          have := HS.out
          simp [intOf]
          split <;> omega
    · have hdm' : d = m := by omega
      subst hdm'
      rw [Nat.mod_eq_of_lt HXM.out] at hur
      have HF : Hid _ := (⟨hRr, hur, honly, hrow⟩ : _ ∧ _ ∧ _ ∧ _)
      clear hRr hur honly hrow
      go_wp2
      go_ret
      have F := HF.out
      exact ⟨rfl, u, F.1, F.2.1, F.2.2.1, F.2.2.2⟩
end Go.Proofs.YtkjebacpmmfflaaDoor
