/-
  The model's l2put: the codes of a text, the highest bit of each first.
-/
import Derived.Test.YtaiikncdghjmjaaDoorHPut1
import Derived.Test.YtaiikncdghjmjaaDoorCodes3
namespace Go.Proofs.YtaiikncdghjmjaaDoor
open Go.RowKit
set_option linter.unusedVariables false

/-- The model's bits at X; their row lies from block U on. -/
def SJ (w : World) (X U n V : Nat) : Prop := ∃ v, w.heap[X]? = some (.cells #[v, .int .i64 n] 33 (0, 0)) ∧ OwnV w U v (enc n V) ∧ V < 2 ^ n ∧ U ≤ w.heap.size
theorem SJ.put {w : World} {X U n V : Nat} (h : SJ w X U n V) (b : Nat) (hb : b ≤ 1) (hn : n ≤ 4096) :
    Calls Tryd.prog 65 #[.pointer (some ⟨X, 0, none⟩), .int .i64 (b : Nat), .int .i64 1] w fun e w' => e = .returned (.tuple #[]) ∧ SJ w' X U (n + 1) (V + b * 2 ^ n) ∧ Only (fun k => k = X ∨ U ≤ k) w w' := by
  obtain ⟨v, hR, hv, hV, hU⟩ := h
  refine (l1put_any X U v n V (b : Nat) 1 w hR hv hV hU (by omega) (by omega) (by omega) (by omega) (by omega)).mono ?_
  rintro e w' ⟨rfl, v', hR', hv', ho, _⟩
  have e1 : ((b : Nat) : Int).toNat % 2 ^ (1 : Int).toNat = b := by
    rw [Int.toNat_natCast]
    exact Nat.mod_eq_of_lt (by simp; omega)
  rw [e1] at hv'
  have hon : Only (fun k => k = X ∨ U ≤ k) w w' := ho.mono (fun k _ hk => by
    rcases hk with hk | hk
    · exact .inl hk
    · exact .inr (hv.blk hk))
  exact ⟨rfl, ⟨v', by simpa using hR', by simpa using hv', put_lt n V 1 b hV (by omega), Nat.le_trans hU hon.size⟩, hon⟩
theorem crun_rng2 (ls : List Int) (hl : ls.length ≤ 80) : ∀ z ∈ (crun ls (sbL ls 12)).2.2, 0 ≤ z ∧ z ≤ 8192000 := by
  have hsl : (sbL ls 12).length ≤ 2000 := by have := sbL_len ls 12; omega
  have key : ∀ t, t ≤ (sbL ls 12).length → ∀ z ∈ (crun ls ((sbL ls 12).take t)).2.2, 0 ≤ z ∧ z ≤ 8192000 := by
    intro t
    induction t with
    | zero => intro _ z hz; simp [crun_nil] at hz; omega
    | succ t ih =>
      intro ht z hz
      rw [take_snoc _ t (by omega), crun_snoc] at hz
      simp only [cst] at hz
      rcases List.mem_or_eq_of_mem_set hz with hz | rfl
      · exact ih (by omega) z hz
      · obtain ⟨b1, b2⟩ := cr_bound ls (sbL ls 12) (asc_sb ls 12) t (by omega)
        have b3 := (cr_step _ _ _ t (b2 (by omega)) b1).1
        have b4 := zN_sb ls 12 _ (getD_mem (zs := sbL ls 12) (k := t) (by omega))
        have b5 : 2 ^ zN ls ((sbL ls 12).getD t 0) ≤ 2 ^ 12 := Nat.pow_le_pow_right (by omega) b4
        have b6 : t * 2 ^ zN ls ((sbL ls 12).getD t 0) ≤ 2000 * 2 ^ 12 := Nat.mul_le_mul (by omega) b5
        omega
  intro z hz
  exact key _ (Nat.le_refl _) z (by rw [List.take_length]; exact hz)
theorem bit_i64 (c k : Nat) (hc : c ≤ 8192000) : bits .and .i64 ((c : Int) / 2 ^ k) 1 = ((c / 2 ^ k % 2 : Nat) : Int) := by
  have e : ((c : Int) / 2 ^ k) = ((c / 2 ^ k : Nat) : Int) := by simp
  have hle : c / 2 ^ k ≤ c := Nat.div_le_self _ _
  have h1 := i64_and_nat (c / 2 ^ k) 1 (by omega) (by omega)
  rw [show ((1 : Nat) : Int) = 1 from rfl, nat_mask1] at h1
  rw [e, h1]
theorem rvp_next (V c L j n : Nat) : V + rvp c L j * 2 ^ n + (c / 2 ^ (L - 1 - j) % 2) * 2 ^ (n + j) = V + rvp c L (j + 1) * 2 ^ n := by
  simp only [rvp]
  rw [Nat.add_mul, Nat.pow_add]
  have e : c / 2 ^ (L - 1 - j) % 2 * (2 ^ n * 2 ^ j) = c / 2 ^ (L - 1 - j) % 2 * 2 ^ j * 2 ^ n := by rw [Nat.mul_comm (2 ^ n), ← Nat.mul_assoc]
  omega

set_option maxHeartbeats 4000000 in
theorem l2put_any (a : Option Addr) (ca : Nat) (ls : List Int) (b : Option Addr) (cb : Nat) (ts : List Int) (X : Nat) (w : World) (ha : Ins w a ls) (hb : Ins w b ts) (hX : w.heap[X]? = some (.cells #[.slice none 0 0, .int .i64 0] 33 (0, 0)))
    (hxa : ∀ k o, a = some ⟨k, o, none⟩ → k ≠ X) (hxb : 0 < ts.length → ∀ k o, b = some ⟨k, o, none⟩ → k ≠ X) (hl : ls.length ≤ 80) (hok : ∀ z ∈ ls, 0 ≤ z ∧ z ≤ 12) (ht : ts.length ≤ 300) (htt : ∀ z ∈ ts, 0 ≤ z ∧ z < ls.length) :
    Calls Tryd.prog 41 #[.pointer (some ⟨X, 0, none⟩), .slice a ls.length ca, .slice b ts.length cb] w fun e w' => e = .returned (.tuple #[]) ∧ (∃ U, w.heap.size ≤ U ∧ SJ w' X U (hN ls ts ts.length) (hV ls (crun ls (sbL ls 12)).2.2 ts ts.length)) ∧ Only (fun k => k = X) w w' := by
  have hXl : X < w.heap.size := (Array.getElem?_eq_some_iff.1 hX).1
  have HX : Hid (w.heap[X]? = some (.cells #[.slice none 0 0, .int .i64 0] 33 (0, 0))) := hX
  have HOK : Hid (∀ k, k < ls.length → 0 ≤ ls.getD k 0 ∧ ls.getD k 0 ≤ 12) := fun k hk => hok _ (getD_mem hk)
  have HTT : Hid (∀ k, k < ts.length → 0 ≤ ts.getD k 0 ∧ ts.getD k 0 < ls.length) := fun k hk => htt _ (getD_mem hk)
  have HNL : Hid _ := hN_le (ts := ts) hok
  have HCL : Hid _ := crun_len ls (sbL ls 12)
  have HCR : Hid (∀ z ∈ (crun ls (sbL ls 12)).2.2, 0 ≤ z ∧ z ≤ 8192000) := crun_rng2 ls hl
  have HLC := l2codes_any a ca ls w ha hl
  clear hX hok htt
  go_enter Tryd.func41, Tryd.ntmps41
  go_wp2_with fail
  refine HLC.mono ?_
  clear HLC
  rintro e w1 ⟨rfl, hc1, hb1⟩
  have HRD : Hid (∀ (wr : World), Only (fun k => k = X ∨ w1.heap.size ≤ k) w1 wr → ∀ (q o : Nat) (v : Value), q < w.heap.size → q ≠ X → w.cell? ⟨q, o, none⟩ = some v → wr.cell? ⟨q, o, none⟩ = some v) := fun wr ho q o v h1 h2 h3 =>
    ho.cell (by have := hb1.size; omega) (by have := hb1.size; omega) (keep hb1 h1 h3)
  have hgc := hc1.lt
  have HCW : Hid (∀ (wr : World), Only (fun k => k = X ∨ w1.heap.size ≤ k) w1 wr → OwI wr w.heap.size w.heap.size ls.length (crun ls (sbL ls 12)).2.2) := fun wr ho => hc1.only ho (by omega)
  have HEND : Hid (∀ (wr : World), Only (fun k => k = X ∨ w1.heap.size ≤ k) w1 wr → Only (fun k => k = X) w wr) := fun wr ho =>
    ⟨ho.os.trans hb1.os, ho.tape.trans hb1.tape, ho.output.trans hb1.output, Nat.le_trans hb1.size ho.size, fun k hk hs => (ho.block k (by have := hb1.size; omega) (by have := hb1.size; omega)).trans (hb1.block k hk)⟩
  have HS1 : Hid (SJ w1 X w1.heap.size 0 0) := ⟨.slice none 0 0, (hb1.block X hXl).trans HX.out, by rw [enc_zero]; exact ⟨⟨rfl, .inl ⟨rfl, rfl⟩⟩, by simp⟩, by simp, Nat.le_refl _⟩
  have HU : Hid (w.heap.size ≤ w1.heap.size) := hb1.size
  clear hc1 hb1 hgc
  generalize hU0 : w1.heap.size = U at *
  clear hU0
  generalize hcs0 : (crun ls (sbL ls 12)).2.2 = cs at *
  have HCSE : Hid ((crun ls (sbL ls 12)).2.2 = cs) := hcs0
  clear hcs0
  generalize hT : ts.length = T at *
  have HTL : Hid (ts.length = T) := hT
  clear hT
  generalize hn0 : ls.length = n at *
  have HLL : Hid (ls.length = n) := hn0
  clear hn0
  go_wp2
  go_loopw [7] (fun i wr => ∃ k : Nat, k ≤ T ∧ i = .int .i64 k ∧ SJ wr X U (hN ls ts k) (hV ls cs ts k) ∧ Only (fun k => k = X ∨ U ≤ k) w1 wr) (fun i _ => T - (intOf i).toNat)
  case atStart => exact ⟨0, Nat.zero_le _, rfl, HS1.out, Only.refl _ _⟩
  case round =>
    clear HS1
    obtain ⟨k, hk, rfl, hsj, hon⟩ := hrel
    have HSJ : Hid (SJ wr X U (hN ls ts k) (hV ls cs ts k)) := hsj
    have HON : Hid (Only (fun k => k = X ∨ U ≤ k) w1 wr) := hon
    clear hsj hon
    by_cases hlt : k < T
    · obtain ⟨b1, o1, rfl, hb1, hc1⟩ := hb.len_pos k (by rw [HTL.out]; exact hlt)
      have hs0 := hc1 k (by rw [HTL.out]; exact hlt)
      have hsr := HTT.out k hlt
      have hnl := HNL.out k
      have HN1 : Hid (hN ls ts (k + 1) = hN ls ts k + zN ls (ts.getD k 0)) := rfl
      have HV1 : Hid (hV ls cs ts (k + 1) = hV ls cs ts k + rvp (cs.getD (ts.getD k 0).toNat 0).toNat (zN ls (ts.getD k 0)) (zN ls (ts.getD k 0)) * 2 ^ hN ls ts k) := rfl
      generalize ts.getD k 0 = sy at *
      obtain ⟨sn, rfl⟩ : ∃ j : Nat, sy = j := ⟨sy.toNat, by omega⟩
      obtain ⟨b2, o2, rfl, hb2, hc2⟩ := ha.len_pos sn (by rw [HLL.out]; omega)
      have hl0 := hc2 sn (by rw [HLL.out]; omega)
      have hLr := HOK.out sn (by omega)
      simp only [zN, Int.toNat_natCast] at HN1 HV1
      generalize ls.getD sn 0 = Lz at *
      obtain ⟨L, rfl⟩ : ∃ j : Nat, Lz = j := ⟨Lz.toNat, by omega⟩
      simp only [Int.toNat_natCast] at HN1 HV1
      have hsn : sn < n := by omega
      have hcr := HCR.out _ (getD_mem (zs := cs) (k := sn) (by rw [HCL.out]; exact hsn))
      generalize hcz : cs.getD sn 0 = cz at *
      obtain ⟨c, rfl⟩ : ∃ j : Nat, cz = j := ⟨cz.toNat, by omega⟩
      have HCC : Hid (∀ (wr : World), Only (fun k => k = X ∨ U ≤ k) w1 wr → wr.cell? ⟨w.heap.size, sn, none⟩ = some (.int .i64 (c : Nat))) := fun wr ho => by
        have := (HCW.out wr ho).cell sn (by rw [HCL.out]; exact hsn)
        rw [hcz] at this
        exact this
      simp only [Int.toNat_natCast] at HV1
      clear hc1 hc2 hcz
      have t1 := HRD.out wr HON.out b1 (o1 + k) _ hb1 (hxb (by omega) b1 o1 rfl) hs0
      have t2 := HRD.out wr HON.out b2 (o2 + sn) _ hb2 (hxa b2 o2 rfl) hl0
      generalize hN ls ts k = N at *
      generalize hV ls cs ts k = V at *
      go_wp2
      go_loopw [8] (fun y wi => ∃ (j : Nat) (z : Int), j ≤ L ∧ z = (L : Int) - 1 - j ∧ y = .int .i64 z ∧ SJ wi X U (N + j) (V + rvp c L j * 2 ^ N) ∧ Only (fun k => k = X ∨ U ≤ k) w1 wi) (fun y _ => ((intOf y) + 1).toNat)
      case atStart => exact ⟨0, _, Nat.zero_le _, by simp, rfl, by simpa [rvp] using HSJ.out, HON.out⟩
      case round =>
        clear HSJ HON t1 t2
        obtain ⟨j, z, hj, hzj, rfl, hsj, hon⟩ := hrel
        have HSJ : Hid (SJ wr X U (N + j) (V + rvp c L j * 2 ^ N)) := hsj
        have HON : Hid (Only (fun k => k = X ∨ U ≤ k) w1 wr) := hon
        have HZJ : Hid (z = (L : Int) - 1 - j) := hzj
        clear hsj hon
        by_cases hjl : j < L
        · have hz0 : 0 ≤ z ∧ z ≤ 11 := by omega
          have HZN : Hid (z.toNat = L - 1 - j) := by unfold Hid; omega
          clear hzj
          have t1 := HRD.out wr HON.out b1 (o1 + k) _ hb1 (hxb (by omega) b1 o1 rfl) hs0
          have t3 := HCC.out wr HON.out
          have HBT : Hid (bits .and .i64 ((c : Int) / 2 ^ z.toNat) 1 = ((c / 2 ^ (L - 1 - j) % 2 : Nat) : Int)) := by unfold Hid; rw [bit_i64 c z.toNat (by omega), HZN.out]
          go_wp2_with fail
          rw [HBT.out]
          refine (HSJ.out.put (c / 2 ^ (L - 1 - j) % 2) (by omega) (by omega)).mono ?_
          rintro e w2 ⟨rfl, hs2, ho2⟩
          rw [rvp_next] at hs2
          have HS2 : Hid (SJ w2 X U (N + (j + 1)) (V + rvp c L (j + 1) * 2 ^ N)) := hs2
          have HO2 : Hid (Only (fun k => k = X ∨ U ≤ k) w1 w2) := HON.out.trans ho2
          clear hs2 ho2 HSJ HON t1 t3 HBT HZN
          go_wp2
          go_roundw
          case rel => exact ⟨j + 1, z - 1, by omega, by have := HZJ.out; omega, by go_num, HS2.out, HO2.out⟩
          case measure => simp [intOf]; omega
        · have hjL : j = L := by omega
          subst hjL
          have hz1 : z = -1 := by omega
          subst hz1
          clear hzj
          have HS2 : Hid (SJ wr X U (hN ls ts (k + 1)) (hV ls cs ts (k + 1))) := by rw [HN1.out, HV1.out]; exact HSJ.out
          go_wp2
          go_roundw
          case rel => exact ⟨k + 1, by omega, by go_num, HS2.out, HON.out⟩
          case measure => simp [intOf]; omega
    · have hkn : k = T := by omega
      subst hkn
      go_wp2
      go_end0
      exact ⟨rfl, ⟨U, HU.out, by rw [HCSE.out, HTL.out]; exact HSJ.out⟩, HEND.out _ HON.out⟩
end Go.Proofs.YtaiikncdghjmjaaDoor
