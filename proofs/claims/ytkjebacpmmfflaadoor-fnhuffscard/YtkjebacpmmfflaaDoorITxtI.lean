/-
  What a text is, for the program; counting its symbols.
-/
import Derived.Test.YtkjebacpmmfflaaDoorHPut1
import Derived.Test.YtkjebacpmmfflaaDoorHGet6
import Derived.Test.YtkjebacpmmfflaaDoorCodes1
import Derived.Test.YtkjebacpmmfflaaDoorPcA
namespace Go.Proofs.YtkjebacpmmfflaaDoor
open Go.RowKit
set_option linter.unusedVariables false

/-- The model's bits at X; their row lies from block U on. -/
def SJ (w : World) (X U n V : Nat) : Prop := ∃ v, w.heap[X]? = some (.cells #[v, .int .i64 n] 36 (0, 0)) ∧ OwnV w U v (enc n V) ∧ V < 2 ^ n ∧ U ≤ w.heap.size
theorem SJ.put {w : World} {X U n V : Nat} (h : SJ w X U n V) (b : Nat) (hb : b ≤ 1) (hn : n ≤ 4096) :
    Calls Tryd.prog 68 #[.pointer (some ⟨X, 0, none⟩), .int .i64 (b : Nat), .int .i64 1] w fun e w' => e = .returned (.tuple #[]) ∧ SJ w' X U (n + 1) (V + b * 2 ^ n) ∧ Only (fun k => k = X ∨ U ≤ k) w w' := by
  obtain ⟨v, hR, hv, hV, hU⟩ := h
  refine (l1put_any X U v n V (b : Nat) 1 w hR hv hV hU (by omega) (by omega) (by omega) (by omega) (by omega)).mono ?_
  rintro e w' ⟨rfl, v', hR', hv', ho, _⟩
  have e1 : ((b : Nat) : Int).toNat % 2 ^ (1 : Int).toNat = b := by
    rw [Int.toNat_natCast]
    exact Nat.mod_eq_of_lt (by simp; omega)
  rw [e1] at hv'
  have hon : Only (fun k => k = X ∨ U ≤ k) w w' := ho.mono (fun k _ hk => by
    rcases hk with hk | hk
    · exact .inl hk
    · exact .inr (hv.blk hk))
  exact ⟨rfl, ⟨v', by simpa using hR', by simpa using hv', put_lt n V 1 b hV (by omega), Nat.le_trans hU hon.size⟩, hon⟩
theorem crun_rng2 (ls : List Int) (hl : ls.length ≤ 80) : ∀ z ∈ (crun ls (sbL ls 12)).2.2, 0 ≤ z ∧ z ≤ 8192000 := by
  have hsl : (sbL ls 12).length ≤ 2000 := by have := sbL_len ls 12; omega
  have key : ∀ t, t ≤ (sbL ls 12).length → ∀ z ∈ (crun ls ((sbL ls 12).take t)).2.2, 0 ≤ z ∧ z ≤ 8192000 := by
    intro t
    induction t with
    | zero => intro _ z hz; simp [crun_nil] at hz; omega
    | succ t ih =>
      intro ht z hz
      rw [take_snoc _ t (by omega), crun_snoc] at hz
      simp only [cst] at hz
      rcases List.mem_or_eq_of_mem_set hz with hz | rfl
      · exact ih (by omega) z hz
      · obtain ⟨b1, b2⟩ := cr_bound ls (sbL ls 12) (asc_sb ls 12) t (by omega)
        have b3 := (cr_step _ _ _ t (b2 (by omega)) b1).1
        have b4 := zN_sb ls 12 _ (getD_mem (zs := sbL ls 12) (k := t) (by omega))
        have b5 : 2 ^ zN ls ((sbL ls 12).getD t 0) ≤ 2 ^ 12 := Nat.pow_le_pow_right (by omega) b4
        have b6 : t * 2 ^ zN ls ((sbL ls 12).getD t 0) ≤ 2000 * 2 ^ 12 := Nat.mul_le_mul (by omega) b5
        omega
  intro z hz
  exact key _ (Nat.le_refl _) z (by rw [List.take_length]; exact hz)
theorem bit_i64 (c k : Nat) (hc : c ≤ 8192000) : bits .and .i64 ((c : Int) / 2 ^ k) 1 = ((c / 2 ^ k % 2 : Nat) : Int) := by
  have e : ((c : Int) / 2 ^ k) = ((c / 2 ^ k : Nat) : Int) := by simp
  have hle : c / 2 ^ k ≤ c := Nat.div_le_self _ _
  have h1 := i64_and_nat (c / 2 ^ k) 1 (by omega) (by omega)
  rw [show ((1 : Nat) : Int) = 1 from rfl, nat_mask1] at h1
  rw [e, h1]
theorem rvp_next (V c L j n : Nat) : V + rvp c L j * 2 ^ n + (c / 2 ^ (L - 1 - j) % 2) * 2 ^ (n + j) = V + rvp c L (j + 1) * 2 ^ n := by
  simp only [rvp]
  rw [Nat.add_mul, Nat.pow_add]
  have e : c / 2 ^ (L - 1 - j) % 2 * (2 ^ n * 2 ^ j) = c / 2 ^ (L - 1 - j) % 2 * 2 ^ j * 2 ^ n := by rw [Nat.mul_comm (2 ^ n), ← Nat.mul_assoc]
  omega
theorem shl_fact (nx ln c : Nat) (z : Int) (hz : (ln : Int) ≤ z) (hc : c = nx * 2 ^ (z.toNat - ln)) (hb : c ≤ 8192000) : wrap64 ((nx : Int) * 2 ^ (z.toNat - ln)) = ((c : Nat) : Int) := by
  rw [show ((nx : Int) * 2 ^ (z.toNat - ln)) = ((nx * 2 ^ (z.toNat - ln) : Nat) : Int) from by simp, ← hc]
  exact IntWalk.wrap64_in _ (by omega)

set_option maxHeartbeats 3200000 in
theorem codesOf_any (a : Option Addr) (cap : Nat) (zs : List Int) (w : World) (hb : Ins w a zs) (hn : zs.length ≤ 80) (hok : ∀ z ∈ zs, 0 ≤ z ∧ z ≤ 12) :
    Calls Tryd.prog 43 #[.slice a zs.length cap] w fun e w' =>
      e = .returned (.slice (some ⟨w.heap.size, 0, none⟩) zs.length zs.length) ∧ OwI w' w.heap.size w.heap.size zs.length (crun zs (sbL zs 12)).2.2 ∧ Below w.heap.size w w' := by
  obtain ⟨i0, hi, hz0, hz1, hz2⟩ := info_parts Tryd.infoI64
  have HSY : Hid (∀ w, Ins w a zs → Calls Tryd.prog 63 #[.slice a zs.length cap] w fun e w' => ∃ a' cp, e = .returned (.slice a' (sbL zs 12).length cp) ∧ MinI w' w.heap.size w'.heap.size a' cp (sbL zs 12) ∧ Below w.heap.size w w') := fun w h => syms_any a cap zs w h hn
  have hodl : (sbL zs 12).length ≤ 2000 := by have := sbL_len zs 12; omega
  have HMEM : Hid _ := sbL_mem zs 12
  have HBD : Hid _ := cr_bound zs (sbL zs 12) (asc_sb zs 12)
  have HCL : Hid _ := fun t => crun_len zs ((sbL zs 12).take t)
  have HST : Hid (∀ t, t < (sbL zs 12).length → crun zs ((sbL zs 12).take (t + 1)) = cst zs (crun zs ((sbL zs 12).take t)) ((sbL zs 12).getD t 0)) := fun t ht => by rw [take_snoc _ t ht, crun_snoc]
  have HC0 : Hid (crun zs ((sbL zs 12).take 0) = (0, 0, List.replicate zs.length 0)) := rfl
  have HCE : Hid (crun zs ((sbL zs 12).take (sbL zs 12).length) = crun zs (sbL zs 12)) := by unfold Hid; rw [List.take_length]
  generalize sbL zs 12 = od at *
  generalize hlen : zs.length = n at *
  have HL : Hid (zs.length = n) := hlen
  clear hlen hok
  generalize hN : od.length = N at *
  have HN : Hid (od.length = N) := hN
  clear hN
  go_enter Tryd.func43, Tryd.ntmps43
  go_wp2_with (at_make; refine wpList_make_full _ rfl _ _ 23 rfl w.heap.size 3 i0 (.int .i64 0) 1 Tryd.underlying23 hi hz0 hz1 .i64 .i64 _ _ n rfl rfl rfl rfl (by rw [hz2]; omega) (by unfold maxLen; omega) (Nat.le_refl _) ?_; intro w1 hown hgrow)
  have h0 : OwI w1 w.heap.size w.heap.size n (List.replicate n 0) := by
    refine ⟨?_, by intro z hz; simp at hz; omega⟩
    rw [made_zeroI] at hown
    simpa using hown
  have hbw : Below w.heap.size w w1 := (Below.refl _ _).grown hgrow (Nat.le_refl _) (by intro k hk; cases hk)
  have H0 : Hid (OwI w1 w.heap.size w.heap.size n (List.replicate n 0)) := h0
  clear h0 hown hgrow hi hz0 hz1 hz2
  refine (HSY.out _ (hb.below hbw (Nat.le_refl _))).mono ?_
  rintro e w2 ⟨ao, co, rfl, hmo, hb2⟩
  have hlt0 := H0.out.lt.2
  have HR2 : Hid (OwI w2 w.heap.size w.heap.size n (crun zs (od.take 0)).2.2) := by rw [HC0.out]; exact H0.out.below hb2 (Nat.le_refl _)
  have hbw2 : Below w.heap.size w w2 := hbw.trans (hb2.mono hbw.size)
  have HMO : Hid (MinI w2 w1.heap.size w2.heap.size ao co od) := hmo
  clear hmo hb2 H0 hbw HSY
  generalize w1.heap.size = U1 at *
  generalize hU2 : w2.heap.size = U2 at *
  clear hU2
  go_wp2
  go_loopw [4, 5, 14] (fun x l i wr => ∃ t : Nat, t ≤ N ∧ i = .int .i64 t ∧ x = .int .i64 ((crun zs (od.take t)).1 : Nat) ∧ l = .int .i64 ((crun zs (od.take t)).2.1 : Nat) ∧ OwI wr w.heap.size w.heap.size n (crun zs (od.take t)).2.2 ∧ MinI wr U1 U2 ao co od ∧ Below w.heap.size w wr) (fun _ _ i _ => N - (intOf i).toNat)
  case atStart => exact ⟨0, Nat.zero_le _, rfl, rfl, rfl, HR2.out, HMO.out, hbw2⟩
  case round =>
    clear HR2 HMO hbw2
    obtain ⟨t, ht, rfl, rfl, rfl, hown, hmo, hbel⟩ := hrel
    have HO : Hid (OwI wr w.heap.size w.heap.size n (crun zs (od.take t)).2.2) := hown
    have HM : Hid (MinI wr U1 U2 ao co od) := hmo
    clear hown hmo
    by_cases hlt : t < N
    · obtain ⟨b1, o1, rfl, hb1, hc1⟩ := HM.out.byt.len_pos t (by rw [HN.out]; exact hlt)
      have hs1 := hc1 t (by rw [HN.out]; exact hlt)
      obtain ⟨sn, hse, hsn, hz1, hz2⟩ := HMEM.out _ (getD_mem (k := t) (by rw [HN.out]; exact hlt))
      obtain ⟨B1, B2⟩ := HBD.out t (by omega)
      have B2 := B2 hlt
      have HS := HST.out t hlt
      have hcl := HCL.out t
      rw [hse] at hs1 B2 HS
      obtain ⟨b2, o2, rfl, hb2, hc2⟩ := (hb.below hbel (Nat.le_refl _)).len_pos sn (by rw [HL.out]; exact hsn)
      have hs2 := hc2 sn (by rw [HL.out]; exact hsn)
      clear hc1 hc2 hse
      simp only [cst, zN, Int.toNat_natCast] at B2 HS
      generalize hzz : zs.getD sn 0 = z at *
      generalize crun zs (od.take t) = st at *
      obtain ⟨nx, ln, out⟩ := st
      simp only at *
      have b3 := (cr_step nx ln z.toNat t B2 B1).1
      have b5 : 2 ^ z.toNat ≤ 2 ^ 12 := Nat.pow_le_pow_right (by omega) (by omega)
      have b6 : t * 2 ^ z.toNat ≤ 2000 * 2 ^ 12 := Nat.mul_le_mul (by omega) b5
      have hcb : nx * 2 ^ (z.toNat - ln) ≤ 8192000 := by omega
      generalize hcc : nx * 2 ^ (z.toNat - ln) = c at *
      have HSH : Hid (wrap64 ((nx : Int) * 2 ^ (z.toNat - ln)) = ((c : Nat) : Int)) := shl_fact nx ln c z (by omega) hcc.symm hcb
      have hlz : (ln : Int) ≤ z := by omega
      have hlnb : ln ≤ 12 := by omega
      have hU : ∀ k, U1 ≤ k → k ≠ w.heap.size := fun k hk => by omega
      have hnb : nx ≤ 8192000 := by
        have h2 : nx ≤ nx * 2 ^ (z.toNat - ln) := Nat.le_mul_of_pos_right _ (Nat.pow_pos (by decide))
        rw [hcc] at h2
        exact Nat.le_trans h2 hcb
      clear B1 B2 b3 b5 b6 hcc
      have HO2 : Hid (OwI wr w.heap.size w.heap.size n out) := HO.out
      clear HO
      have hcl2 : out.length = n := hcl
      clear hcl
      have hdst := HO2.out.cell sn (by rw [hcl2]; exact hsn)
      have hfz := HO2.out.frozen sn
      have hcr : -9223372036854775808 ≤ ((c : Nat) : Int) ∧ ((c : Nat) : Int) ≤ 9223372036854775807 := by omega
      have R := HO2.out.store sn ((c : Nat) : Int) hcr
      have HR : Hid (OwI (wr.setCell ⟨w.heap.size, sn, none⟩ (.int .i64 (c : Nat))) w.heap.size w.heap.size n (crun zs (od.take (t + 1))).2.2) := by rw [HS]; exact R
      have HB : Hid (Below w.heap.size w (wr.setCell ⟨w.heap.size, sn, none⟩ (.int .i64 (c : Nat)))) := hbel.setCell (p := ⟨w.heap.size, sn, none⟩) (Nat.le_refl _) _
      have HM2 : Hid (MinI (wr.setCell ⟨w.heap.size, sn, none⟩ (.int .i64 (c : Nat))) U1 U2 (some ⟨b1, o1, none⟩) co od) := HM.out.only (Only.setCell (Only.refl (fun b => b = w.heap.size) wr) (p := ⟨w.heap.size, sn, none⟩) (.inl rfl) _) (fun k h1 _ => hU k h1)
      have HS' : Hid _ := HS
      clear R HS hU HO2 HM hbel hcl2
      generalize out.getD sn 0 = old at *
      go_wp2
      go_roundw
      case rel => exact ⟨t + 1, by omega, by go_num, by rw [HSH.out, HS'.out]; show Value.int .i64 (wrap64 ((c : Int) + 1)) = Value.int .i64 ((c + 1 : Nat) : Int); rw [IntWalk.wrap64_in _ (by omega)]; simp, by rw [HS'.out]; go_num, by rw [HSH.out]; simpa using HR.out, by rw [HSH.out]; simpa using HM2.out, by rw [HSH.out]; simpa using HB.out⟩
      case measure => simp [intOf]; omega
    · have hkn : t = N := by omega
      subst hkn
      rw [HCE.out]
      have HA : Hid (OwI wr w.heap.size w.heap.size n (crun zs od).2.2) := by rw [← HCE.out]; exact HO.out
      clear HO HM
      go_wp2
      go_ret
      exact ⟨rfl, HA.out, hbel⟩
theorem WI.cells {w : World} {B R n V : Nat} (h : WI w B R n V) : ∃ a' cp, w.cell? ⟨R, 0, none⟩ = some (.slice a' (enc n V).length cp) ∧ w.cell? ⟨R, 1, none⟩ = some (.int .i64 n) ∧ Mine w B w.heap.size a' cp (enc n V) := by
  obtain ⟨v, hR, hv, _⟩ := h
  obtain ⟨a', cp, rfl, hm⟩ := hv.mine
  exact ⟨a', cp, cellR (j := 0) hR rfl, cellR (j := 1) hR rfl, hm⟩
theorem SI.cells {w : World} {B R n V : Nat} (h : SI w B R n V) : ∃ a' cp, w.cell? ⟨R, 0, none⟩ = some (.slice a' (enc n V).length cp) ∧ w.cell? ⟨R, 1, none⟩ = some (.int .i64 n) ∧ Mine w B w.heap.size a' cp (enc n V) := by
  obtain ⟨v, hR, hv, _⟩ := h
  obtain ⟨a', cp, rfl, hm⟩ := hv.mine
  exact ⟨a', cp, cellR (j := 0) hR rfl, cellR (j := 1) hR rfl, hm⟩

theorem mine_out {w3 : World} {B C g : Nat} {a' : Option Addr} {cp : Nat} {ys : List Int} (v0 v1 : Value) (hm : Mine w3 C w3.heap.size a' cp ys) (hg : g < C) (hB : B ≤ g) :
    Mine ((w3.setCell ⟨g, 0, none⟩ v0).setCell ⟨g, 1, none⟩ v1) B ((w3.setCell ⟨g, 0, none⟩ v0).setCell ⟨g, 1, none⟩ v1).heap.size a' cp ys := by
  have hO3 : Only (fun b => b = g) w3 ((w3.setCell ⟨g, 0, none⟩ v0).setCell ⟨g, 1, none⟩ v1) :=
    Only.setCell (Only.setCell (Only.refl (fun b => b = g) w3) (p := ⟨g, 0, none⟩) (.inl rfl) _) (p := ⟨g, 1, none⟩) (.inl rfl) _
  exact ((hm.only hO3 (fun b h1 _ => by omega)).mono (by omega) (by simp [World.setCell]))
/-- A text over n symbols. -/
def txtB (zs : List Int) (n : Int) : Bool := decide (1 ≤ n ∧ n ≤ 80 ∧ zs.length ≤ 300 ∧ ∀ z ∈ zs, 0 ≤ z ∧ z < n)

theorem txtB_bad {zs : List Int} {n : Int} {k : Nat} (hk : k < zs.length) (h : ¬ (0 ≤ zs.getD k 0 ∧ zs.getD k 0 < n)) : txtB zs n = false := by
  simp only [txtB, decide_eq_false_iff_not]
  exact fun h' => h (h'.2.2.2 _ (getD_mem hk))
theorem txtB_all {zs : List Int} {n : Int} (h1 : 1 ≤ n) (h2 : n ≤ 80) (h3 : zs.length ≤ 300) (h : ∀ z ∈ zs.take zs.length, 0 ≤ z ∧ z < n) : txtB zs n = true := by
  rw [List.take_length] at h
  simp only [txtB, decide_eq_true_eq]
  exact ⟨h1, h2, h3, h⟩
theorem txtB_len {zs : List Int} {n : Int} (h : ¬ (1 ≤ n ∧ n ≤ 80 ∧ zs.length ≤ 300)) : txtB zs n = false := by
  simp only [txtB, decide_eq_false_iff_not]
  exact fun h' => h ⟨h'.1, h'.2.1, h'.2.2.1⟩

set_option maxHeartbeats 800000 in
theorem implTxt_any (a : Option Addr) (cap : Nat) (zs : List Int) (s : Int) (w : World) (hb : Ins w a zs) (hn : zs.length ≤ 281474976710656) :
    Calls Tryd.prog 40 #[.slice a zs.length cap, .int .i64 s] w fun e w' => e = .returned (.bool (txtB zs s)) ∧ w' = w := by
  by_cases h : 1 ≤ s ∧ s ≤ 80 ∧ zs.length ≤ 300
  · obtain ⟨h1, h2, h5⟩ := h
    generalize hlen : zs.length = n at *
    have HL : Hid (zs.length = n) := hlen
    clear hlen
    go_enter Tryd.func40, Tryd.ntmps40
    go_wp2
    go_loop [20] (fun i => ∃ k : Nat, k ≤ n ∧ i = .int .i64 k ∧ ∀ z ∈ zs.take k, 0 ≤ z ∧ z < s) (fun i => n - (intOf i).toNat)
    case atStart => exact ⟨0, Nat.zero_le _, rfl, by simp⟩
    case round =>
      obtain ⟨k, hk, rfl, htk⟩ := hrel
      have HT : Hid (∀ z ∈ zs.take k, 0 ≤ z ∧ z < s) := htk
      clear htk
      by_cases hlt : k < n
      · obtain ⟨b1, o1, rfl, hb1, hc1⟩ := hb.len_pos k (by rw [HL.out]; exact hlt)
        have hs1 := hc1 k (by rw [HL.out]; exact hlt)
        have g1 := getD_rngI hb.1 k
        clear hc1 hb
        generalize hx : zs.getD k 0 = x at *
        have HX : Hid (zs.getD k 0 = x) := hx
        clear hx
        by_cases h3 : 0 ≤ x
        · by_cases h4 : x < s
          · have HT' : Hid (∀ z ∈ zs.take (k + 1), 0 ≤ z ∧ z < s) := all_take_succ HT.out (by rw [HL.out]; exact hlt) (by rw [HX.out]; exact ⟨h3, h4⟩)
            go_wp2
            go_round
            case rel => exact ⟨k + 1, by omega, by go_num, HT'.out⟩
            case measure => simp [intOf]; omega
          · have HN : Hid (txtB zs s = false) := txtB_bad (by rw [HL.out]; exact hlt) (by rw [HX.out]; omega)
            go_wp2
            go_ret
            exact ⟨by simp [HN.out], rfl⟩
        · have HN : Hid (txtB zs s = false) := txtB_bad (by rw [HL.out]; exact hlt) (by rw [HX.out]; omega)
          go_wp2
          go_ret
          exact ⟨by simp [HN.out], rfl⟩
      · have hkn : k = n := by omega
        subst hkn
        have HE : Hid (txtB zs s = true) := txtB_all h1 h2 (by rw [HL.out]; exact h5) (by rw [HL.out]; exact HT.out)
        go_wp2
        go_ret
        exact ⟨by simp [HE.out], rfl⟩
  · rw [txtB_len h]
    go_enter Tryd.func40, Tryd.ntmps40
    by_cases c1 : s < 1
    · go_wp2
      go_ret
      exact ⟨rfl, rfl⟩
    · by_cases c2 : 80 < s
      · go_wp2
        go_ret
        exact ⟨rfl, rfl⟩
      · have c3 : 300 < zs.length := by omega
        go_wp2
        go_ret
        exact ⟨rfl, rfl⟩

/-- All symbols counted. -/
def cnts (zs : List Int) (n : Nat) : List Int := zs.foldl bump (List.replicate n 0)

theorem cnts_len (zs : List Int) (n : Nat) : (cnts zs n).length = n := by
  unfold cnts
  have : ∀ (zs cs : List Int), (zs.foldl bump cs).length = cs.length := by
    intro zs
    induction zs with
    | nil => intro cs; rfl
    | cons z zs ih => intro cs; rw [List.foldl_cons, ih, bump_len]
  rw [this]
  simp
theorem cnts_rng (zs : List Int) (n : Nat) : ∀ c ∈ cnts zs n, 0 ≤ c ∧ c ≤ zs.length := by
  have : ∀ (zs cs : List Int) (m : Int), 0 ≤ m → (∀ c ∈ cs, 0 ≤ c ∧ c ≤ m) → ∀ c ∈ zs.foldl bump cs, 0 ≤ c ∧ c ≤ m + zs.length := by
    intro zs
    induction zs with
    | nil => intro cs m _ h; simpa using h
    | cons z zs ih =>
      intro cs m hm h c hc
      have := ih (bump cs z) (m + 1) (by omega) (bump_rng h hm) c (by simpa using hc)
      simp only [List.length_cons]
      omega
  intro c hc
  have := this zs (List.replicate n 0) 0 (by omega) (by simp) c hc
  omega
theorem cnts_take_succ (zs : List Int) (n k : Nat) (h : k < zs.length) : bump (cnts (zs.take k) n) (zs.getD k 0) = cnts (zs.take (k + 1)) n := by
  unfold cnts
  rw [List.take_succ_eq_append_getElem h, List.foldl_append]
  simp [List.getD_eq_getElem?_getD, List.getElem?_eq_getElem h]
theorem txtB_get {zs : List Int} {n : Int} (h : txtB zs n = true) (k : Nat) (hk : k < zs.length) : 0 ≤ zs.getD k 0 ∧ zs.getD k 0 < n := by
  simp only [txtB, decide_eq_true_eq] at h
  exact h.2.2.2 _ (getD_mem hk)
theorem txtB_bnd {zs : List Int} {n : Int} (h : txtB zs n = true) : 1 ≤ n ∧ n ≤ 80 ∧ zs.length ≤ 300 := by
  simp only [txtB, decide_eq_true_eq] at h
  exact ⟨h.1, h.2.1, h.2.2.1⟩
end Go.Proofs.YtkjebacpmmfflaaDoor
