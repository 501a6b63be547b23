/-
  HuffPut of the model; the model and the program put texts alike.
-/
import Derived.Test.YtiiaffkhnahofaaDoorRev2
import Derived.Test.YtiiaffkhnahofaaDoorWCells
import Derived.Test.YtiiaffkhnahofaaDoorCodes1
import Derived.Test.YtiiaffkhnahofaaDoorCodes3
import Derived.Test.YtiiaffkhnahofaaDoorCodes2
import Derived.Test.YtiiaffkhnahofaaDoorILens3
import Derived.Test.YtiiaffkhnahofaaDoorITxtI
import Derived.Test.YtiiaffkhnahofaaDoorAns
import Derived.Deep.RegionWith
import Derived.Test.YtiiaffkhnahofaaDoorILens2
import Derived.Test.YtiiaffkhnahofaaDoorITxt
namespace Go.Proofs.YtiiaffkhnahofaaDoor
open Go.RowKit
set_option linter.unusedVariables false

theorem below_dH {B : Nat} {a b : World} (h : Below B a b) (n : Nat) : Below B a (b.drewN n) := ⟨h.os, h.tape, h.output, h.size, h.block⟩
theorem turned (c L : Nat) (h : L ≤ 12) : rvp (c % 65536) 16 16 / 2 ^ (16 - L) = rvp c L L := by
  rw [rvp_shift _ L (by omega), show 65536 = 2 ^ 16 from rfl, rvp_mod c L 16 (by omega)]

set_option maxHeartbeats 1600000 in
theorem putCode_yes (w : World) (B R n V c L : Nat) (h : WI w B R n V) (h1 : 1 ≤ L) (h2 : L ≤ 12) (hc : c ≤ 8192000) (hn : n + L ≤ 4096) :
    Calls Tryd.prog 66 #[.pointer (some ⟨R, 0, none⟩), .int .i64 (c : Nat), .int .i64 (L : Nat)] w fun e w' => e = .returned .nilIface ∧ WI w' B R (n + L) (V + rvp c L L * 2 ^ n) ∧ Below B w w' := by
  have H : Hid (WI w B R n V) := h
  have HT : Hid (rvp (c % 65536) 16 16 / 2 ^ (16 - L) = rvp c L L) := turned c L h2
  have hlt := rvp_lt (c % 65536) 16 16
  have hlt2 := rvp_lt c L L
  have e1 : IntKind.u16.wrap (c : Int) = ((c % 65536 : Nat) : Int) := by
    show (c : Int) % 65536 = _
    omega
  have hc16 : c % 65536 < 65536 := by omega
  clear h
  generalize c % 65536 = d at *
  go_enter Tryd.func66, Tryd.ntmps66
  go_wp2_with fail
  refine (rev16_rvp d w hc16).mono ?_
  rintro e w1 ⟨rfl, m1, rfl⟩
  generalize hr : rvp d 16 16 = r at *
  clear hr
  go_wp2_with fail
  have e2 : wrap64 ((r : Int) / 2 ^ (16 - L)) = ((rvp c L L : Nat) : Int) := by
    rw [show ((r : Int) / 2 ^ (16 - L)) = ((r / 2 ^ (16 - L) : Nat) : Int) from by simp, HT.out]
    have h12 : 2 ^ L ≤ 2 ^ 12 := Nat.pow_le_pow_right (by omega) h2
    exact IntWalk.wrap64_in _ (by omega)
  rw [e2]
  have hxw : ((rvp c L L : Nat) : Int) < 2 ^ ((L : Nat) : Int).toNat := by
    have e : ((2 : Int) ^ ((L : Nat) : Int).toNat) = ((2 ^ L : Nat) : Int) := by simp
    rw [e]
    omega
  refine ((H.out.drewN m1).put ((rvp c L L : Nat) : Int) ((L : Nat) : Int) (by omega) (by omega) (by omega) hxw (by omega) (by omega)).mono ?_
  rintro e w2 ⟨rfl, hw2, hb2⟩
  have HW2 : Hid (WI w2 B R (n + L) (V + rvp c L L * 2 ^ n)) := by simpa [Hid] using hw2
  have HB2 : Hid (Below B w w2) := (below_dH (Below.refl B w) m1).trans hb2
  clear hw2 hb2 hxw e2 HT
  go_wp2
  go_ret
  exact ⟨rfl, HW2.out, HB2.out⟩

set_option maxHeartbeats 1600000 in
theorem putCode_yesG (w : World) (B R n V c L g : Nat) (cur : Array Value) (T : TypeId) (h : WI w B R n V) (hg : w.heap[g]? = some (.cells cur T (0, 0))) (hT : T ≠ 5) (hgR : g ≠ R) (h1 : 1 ≤ L) (h2 : L ≤ 12) (hc : c ≤ 8192000) (hn : n + L ≤ 4096) :
    Calls Tryd.prog 66 #[.pointer (some ⟨R, 0, none⟩), .int .i64 (c : Nat), .int .i64 (L : Nat)] w fun e w' => e = .returned .nilIface ∧ WI w' B R (n + L) (V + rvp c L L * 2 ^ n) ∧ Below B w w' ∧ w'.heap[g]? = some (.cells cur T (0, 0)) := by
  have H : Hid (WI w B R n V ∧ w.heap[g]? = some (.cells cur T (0, 0))) := ⟨h, hg⟩
  have HT : Hid (rvp (c % 65536) 16 16 / 2 ^ (16 - L) = rvp c L L) := turned c L h2
  have hlt := rvp_lt (c % 65536) 16 16
  have hlt2 := rvp_lt c L L
  have e1 : IntKind.u16.wrap (c : Int) = ((c % 65536 : Nat) : Int) := by
    show (c : Int) % 65536 = _
    omega
  have hc16 : c % 65536 < 65536 := by omega
  clear h hg
  generalize c % 65536 = d at *
  go_enter Tryd.func66, Tryd.ntmps66
  go_wp2_with fail
  refine (rev16_rvp d w hc16).mono ?_
  rintro e w1 ⟨rfl, m1, rfl⟩
  generalize hr : rvp d 16 16 = r at *
  clear hr
  go_wp2_with fail
  have e2 : wrap64 ((r : Int) / 2 ^ (16 - L)) = ((rvp c L L : Nat) : Int) := by
    rw [show ((r : Int) / 2 ^ (16 - L)) = ((r / 2 ^ (16 - L) : Nat) : Int) from by simp, HT.out]
    have h12 : 2 ^ L ≤ 2 ^ 12 := Nat.pow_le_pow_right (by omega) h2
    exact IntWalk.wrap64_in _ (by omega)
  rw [e2]
  refine ((H.out.1.drewN m1).putG (w := w.drewN m1) H.out.2 hT hgR (rvp c L L) L (by omega) hlt2 hn).mono ?_
  rintro e w2 ⟨rfl, hw2, hb2, hg2⟩
  have HW2 : Hid (WI w2 B R (n + L) (V + rvp c L L * 2 ^ n)) := by simpa [Hid] using hw2
  have HB2 : Hid (Below B w w2 ∧ w2.heap[g]? = some (.cells cur T (0, 0))) := ⟨(below_dH (Below.refl B w) m1).trans hb2, hg2⟩
  clear hw2 hb2 hg2 e2 HT
  go_wp2
  go_ret
  exact ⟨rfl, HW2.out, HB2.out.1, HB2.out.2⟩

/-- Bits and number of the first k symbols of a text. -/
def hN (ls ts : List Int) : Nat → Nat
  | 0 => 0
  | k + 1 => hN ls ts k + zN ls (ts.getD k 0)
def hV (ls cs ts : List Int) : Nat → Nat
  | 0 => 0
  | k + 1 => hV ls cs ts k + rvp (cs.getD (ts.getD k 0).toNat 0).toNat (zN ls (ts.getD k 0)) (zN ls (ts.getD k 0)) * 2 ^ hN ls ts k
theorem hN_le {ls ts : List Int} (h : ∀ z ∈ ls, 0 ≤ z ∧ z ≤ 12) (k : Nat) : hN ls ts k ≤ 12 * k := by
  induction k with
  | zero => simp [hN]
  | succ k ih =>
    have h1 : zN ls (ts.getD k 0) ≤ 12 := by
      unfold zN
      by_cases hi : (ts.getD k 0).toNat < ls.length
      · have := h _ (getD_mem hi); omega
      · rw [List.getD_eq_getElem?_getD, List.getElem?_eq_none (by omega)]; simp
    simp only [hN]
    omega
end Go.Proofs.YtiiaffkhnahofaaDoor
namespace Go.Proofs.YtiiaffkhnahofaaDoor
open Go.RowKit
set_option linter.unusedVariables false

/-- The model's bits at X; their row lies from block U on. -/
def SJ (w : World) (X U n V : Nat) : Prop := ∃ v, w.heap[X]? = some (.cells #[v, .int .i64 n] 33 (0, 0)) ∧ OwnV w U v (enc n V) ∧ V < 2 ^ n ∧ U ≤ w.heap.size
theorem SJ.put {w : World} {X U n V : Nat} (h : SJ w X U n V) (b : Nat) (hb : b ≤ 1) (hn : n ≤ 4096) :
    Calls Tryd.prog 65 #[.pointer (some ⟨X, 0, none⟩), .int .i64 (b : Nat), .int .i64 1] w fun e w' => e = .returned (.tuple #[]) ∧ SJ w' X U (n + 1) (V + b * 2 ^ n) ∧ Only (fun k => k = X ∨ U ≤ k) w w' := by
  obtain ⟨v, hR, hv, hV, hU⟩ := h
  refine (l1put_any X U v n V (b : Nat) 1 w hR hv hV hU (by omega) (by omega) (by omega) (by omega) (by omega)).mono ?_
  rintro e w' ⟨rfl, v', hR', hv', ho, _⟩
  have e1 : ((b : Nat) : Int).toNat % 2 ^ (1 : Int).toNat = b := by
    rw [Int.toNat_natCast]
    exact Nat.mod_eq_of_lt (by simp; omega)
  rw [e1] at hv'
  have hon : Only (fun k => k = X ∨ U ≤ k) w w' := ho.mono (fun k _ hk => by
    rcases hk with hk | hk
    · exact .inl hk
    · exact .inr (hv.blk hk))
  exact ⟨rfl, ⟨v', by simpa using hR', by simpa using hv', put_lt n V 1 b hV (by omega), Nat.le_trans hU hon.size⟩, hon⟩
theorem crun_rng2 (ls : List Int) (hl : ls.length ≤ 80) : ∀ z ∈ (crun ls (sbL ls 12)).2.2, 0 ≤ z ∧ z ≤ 8192000 := by
  have hsl : (sbL ls 12).length ≤ 2000 := by have := sbL_len ls 12; omega
  have key : ∀ t, t ≤ (sbL ls 12).length → ∀ z ∈ (crun ls ((sbL ls 12).take t)).2.2, 0 ≤ z ∧ z ≤ 8192000 := by
    intro t
    induction t with
    | zero => intro _ z hz; simp [crun_nil] at hz; omega
    | succ t ih =>
      intro ht z hz
      rw [take_snoc _ t (by omega), crun_snoc] at hz
      simp only [cst] at hz
      rcases List.mem_or_eq_of_mem_set hz with hz | rfl
      · exact ih (by omega) z hz
      · obtain ⟨b1, b2⟩ := cr_bound ls (sbL ls 12) (asc_sb ls 12) t (by omega)
        have b3 := (cr_step _ _ _ t (b2 (by omega)) b1).1
        have b4 := zN_sb ls 12 _ (getD_mem (zs := sbL ls 12) (k := t) (by omega))
        have b5 : 2 ^ zN ls ((sbL ls 12).getD t 0) ≤ 2 ^ 12 := Nat.pow_le_pow_right (by omega) b4
        have b6 : t * 2 ^ zN ls ((sbL ls 12).getD t 0) ≤ 2000 * 2 ^ 12 := Nat.mul_le_mul (by omega) b5
        omega
  intro z hz
  exact key _ (Nat.le_refl _) z (by rw [List.take_length]; exact hz)
theorem bit_i64 (c k : Nat) (hc : c ≤ 8192000) : bits .and .i64 ((c : Int) / 2 ^ k) 1 = ((c / 2 ^ k % 2 : Nat) : Int) := by
  have e : ((c : Int) / 2 ^ k) = ((c / 2 ^ k : Nat) : Int) := by simp
  have hle : c / 2 ^ k ≤ c := Nat.div_le_self _ _
  have h1 := i64_and_nat (c / 2 ^ k) 1 (by omega) (by omega)
  rw [show ((1 : Nat) : Int) = 1 from rfl, nat_mask1] at h1
  rw [e, h1]
theorem rvp_next (V c L j n : Nat) : V + rvp c L j * 2 ^ n + (c / 2 ^ (L - 1 - j) % 2) * 2 ^ (n + j) = V + rvp c L (j + 1) * 2 ^ n := by
  simp only [rvp]
  rw [Nat.add_mul, Nat.pow_add]
  have e : c / 2 ^ (L - 1 - j) % 2 * (2 ^ n * 2 ^ j) = c / 2 ^ (L - 1 - j) % 2 * 2 ^ j * 2 ^ n := by rw [Nat.mul_comm (2 ^ n), ← Nat.mul_assoc]
  omega

set_option maxHeartbeats 4000000 in
theorem l2put_any (a : Option Addr) (ca : Nat) (ls : List Int) (b : Option Addr) (cb : Nat) (ts : List Int) (X : Nat) (w : World) (ha : Ins w a ls) (hb : Ins w b ts) (hX : w.heap[X]? = some (.cells #[.slice none 0 0, .int .i64 0] 33 (0, 0)))
    (hxa : ∀ k o, a = some ⟨k, o, none⟩ → k ≠ X) (hxb : 0 < ts.length → ∀ k o, b = some ⟨k, o, none⟩ → k ≠ X) (hl : ls.length ≤ 80) (hok : ∀ z ∈ ls, 0 ≤ z ∧ z ≤ 12) (ht : ts.length ≤ 300) (htt : ∀ z ∈ ts, 0 ≤ z ∧ z < ls.length) :
    Calls Tryd.prog 41 #[.pointer (some ⟨X, 0, none⟩), .slice a ls.length ca, .slice b ts.length cb] w fun e w' => e = .returned (.tuple #[]) ∧ (∃ U, w.heap.size ≤ U ∧ SJ w' X U (hN ls ts ts.length) (hV ls (crun ls (sbL ls 12)).2.2 ts ts.length)) ∧ Only (fun k => k = X) w w' := by
  have hXl : X < w.heap.size := (Array.getElem?_eq_some_iff.1 hX).1
  have HX : Hid (w.heap[X]? = some (.cells #[.slice none 0 0, .int .i64 0] 33 (0, 0))) := hX
  have HOK : Hid (∀ k, k < ls.length → 0 ≤ ls.getD k 0 ∧ ls.getD k 0 ≤ 12) := fun k hk => hok _ (getD_mem hk)
  have HTT : Hid (∀ k, k < ts.length → 0 ≤ ts.getD k 0 ∧ ts.getD k 0 < ls.length) := fun k hk => htt _ (getD_mem hk)
  have HNL : Hid _ := hN_le (ts := ts) hok
  have HCL : Hid _ := crun_len ls (sbL ls 12)
  have HCR : Hid (∀ z ∈ (crun ls (sbL ls 12)).2.2, 0 ≤ z ∧ z ≤ 8192000) := crun_rng2 ls hl
  have HLC := l2codes_any a ca ls w ha hl
  clear hX hok htt
  go_enter Tryd.func41, Tryd.ntmps41
  go_wp2_with fail
  refine HLC.mono ?_
  clear HLC
  rintro e w1 ⟨rfl, hc1, hb1⟩
  have HRD : Hid (∀ (wr : World), Only (fun k => k = X ∨ w1.heap.size ≤ k) w1 wr → ∀ (q o : Nat) (v : Value), q < w.heap.size → q ≠ X → w.cell? ⟨q, o, none⟩ = some v → wr.cell? ⟨q, o, none⟩ = some v) := fun wr ho q o v h1 h2 h3 =>
    ho.cell (by have := hb1.size; omega) (by have := hb1.size; omega) (keep hb1 h1 h3)
  have hgc := hc1.lt
  have HCW : Hid (∀ (wr : World), Only (fun k => k = X ∨ w1.heap.size ≤ k) w1 wr → OwI wr w.heap.size w.heap.size ls.length (crun ls (sbL ls 12)).2.2) := fun wr ho => hc1.only ho (by omega)
  have HEND : Hid (∀ (wr : World), Only (fun k => k = X ∨ w1.heap.size ≤ k) w1 wr → Only (fun k => k = X) w wr) := fun wr ho =>
    ⟨ho.os.trans hb1.os, ho.tape.trans hb1.tape, ho.output.trans hb1.output, Nat.le_trans hb1.size ho.size, fun k hk hs => (ho.block k (by have := hb1.size; omega) (by have := hb1.size; omega)).trans (hb1.block k hk)⟩
  have HS1 : Hid (SJ w1 X w1.heap.size 0 0) := ⟨.slice none 0 0, (hb1.block X hXl).trans HX.out, by rw [enc_zero]; exact ⟨⟨rfl, .inl ⟨rfl, rfl⟩⟩, by simp⟩, by simp, Nat.le_refl _⟩
  have HU : Hid (w.heap.size ≤ w1.heap.size) := hb1.size
  clear hc1 hb1 hgc
  generalize hU0 : w1.heap.size = U at *
  clear hU0
  generalize hcs0 : (crun ls (sbL ls 12)).2.2 = cs at *
  have HCSE : Hid ((crun ls (sbL ls 12)).2.2 = cs) := hcs0
  clear hcs0
  generalize hT : ts.length = T at *
  have HTL : Hid (ts.length = T) := hT
  clear hT
  generalize hn0 : ls.length = n at *
  have HLL : Hid (ls.length = n) := hn0
  clear hn0
  go_wp2
  go_loopw [7] (fun i wr => ∃ k : Nat, k ≤ T ∧ i = .int .i64 k ∧ SJ wr X U (hN ls ts k) (hV ls cs ts k) ∧ Only (fun k => k = X ∨ U ≤ k) w1 wr) (fun i _ => T - (intOf i).toNat)
  case atStart => exact ⟨0, Nat.zero_le _, rfl, HS1.out, Only.refl _ _⟩
  case round =>
    clear HS1
    obtain ⟨k, hk, rfl, hsj, hon⟩ := hrel
    have HSJ : Hid (SJ wr X U (hN ls ts k) (hV ls cs ts k)) := hsj
    have HON : Hid (Only (fun k => k = X ∨ U ≤ k) w1 wr) := hon
    clear hsj hon
    by_cases hlt : k < T
    · obtain ⟨b1, o1, rfl, hb1, hc1⟩ := hb.len_pos k (by rw [HTL.out]; exact hlt)
      have hs0 := hc1 k (by rw [HTL.out]; exact hlt)
      have hsr := HTT.out k hlt
      have hnl := HNL.out k
      have HN1 : Hid (hN ls ts (k + 1) = hN ls ts k + zN ls (ts.getD k 0)) := rfl
      have HV1 : Hid (hV ls cs ts (k + 1) = hV ls cs ts k + rvp (cs.getD (ts.getD k 0).toNat 0).toNat (zN ls (ts.getD k 0)) (zN ls (ts.getD k 0)) * 2 ^ hN ls ts k) := rfl
      generalize ts.getD k 0 = sy at *
      obtain ⟨sn, rfl⟩ : ∃ j : Nat, sy = j := ⟨sy.toNat, by omega⟩
      obtain ⟨b2, o2, rfl, hb2, hc2⟩ := ha.len_pos sn (by rw [HLL.out]; omega)
      have hl0 := hc2 sn (by rw [HLL.out]; omega)
      have hLr := HOK.out sn (by omega)
      simp only [zN, Int.toNat_natCast] at HN1 HV1
      generalize ls.getD sn 0 = Lz at *
      obtain ⟨L, rfl⟩ : ∃ j : Nat, Lz = j := ⟨Lz.toNat, by omega⟩
      simp only [Int.toNat_natCast] at HN1 HV1
      have hsn : sn < n := by omega
      have hcr := HCR.out _ (getD_mem (zs := cs) (k := sn) (by rw [HCL.out]; exact hsn))
      generalize hcz : cs.getD sn 0 = cz at *
      obtain ⟨c, rfl⟩ : ∃ j : Nat, cz = j := ⟨cz.toNat, by omega⟩
      have HCC : Hid (∀ (wr : World), Only (fun k => k = X ∨ U ≤ k) w1 wr → wr.cell? ⟨w.heap.size, sn, none⟩ = some (.int .i64 (c : Nat))) := fun wr ho => by
        have := (HCW.out wr ho).cell sn (by rw [HCL.out]; exact hsn)
        rw [hcz] at this
        exact this
      simp only [Int.toNat_natCast] at HV1
      clear hc1 hc2 hcz
      have t1 := HRD.out wr HON.out b1 (o1 + k) _ hb1 (hxb (by omega) b1 o1 rfl) hs0
      have t2 := HRD.out wr HON.out b2 (o2 + sn) _ hb2 (hxa b2 o2 rfl) hl0
      generalize hN ls ts k = N at *
      generalize hV ls cs ts k = V at *
      go_wp2
      go_loopw [8] (fun y wi => ∃ (j : Nat) (z : Int), j ≤ L ∧ z = (L : Int) - 1 - j ∧ y = .int .i64 z ∧ SJ wi X U (N + j) (V + rvp c L j * 2 ^ N) ∧ Only (fun k => k = X ∨ U ≤ k) w1 wi) (fun y _ => ((intOf y) + 1).toNat)
      case atStart => exact ⟨0, _, Nat.zero_le _, by simp, rfl, by simpa [rvp] using HSJ.out, HON.out⟩
      case round =>
        clear HSJ HON t1 t2
        obtain ⟨j, z, hj, hzj, rfl, hsj, hon⟩ := hrel
        have HSJ : Hid (SJ wr X U (N + j) (V + rvp c L j * 2 ^ N)) := hsj
        have HON : Hid (Only (fun k => k = X ∨ U ≤ k) w1 wr) := hon
        have HZJ : Hid (z = (L : Int) - 1 - j) := hzj
        clear hsj hon
        by_cases hjl : j < L
        · have hz0 : 0 ≤ z ∧ z ≤ 11 := by omega
          have HZN : Hid (z.toNat = L - 1 - j) := by unfold Hid; omega
          clear hzj
          have t1 := HRD.out wr HON.out b1 (o1 + k) _ hb1 (hxb (by omega) b1 o1 rfl) hs0
          have t3 := HCC.out wr HON.out
          have HBT : Hid (bits .and .i64 ((c : Int) / 2 ^ z.toNat) 1 = ((c / 2 ^ (L - 1 - j) % 2 : Nat) : Int)) := by unfold Hid; rw [bit_i64 c z.toNat (by omega), HZN.out]
          go_wp2_with fail
          rw [HBT.out]
          refine (HSJ.out.put (c / 2 ^ (L - 1 - j) % 2) (by omega) (by omega)).mono ?_
          rintro e w2 ⟨rfl, hs2, ho2⟩
          rw [rvp_next] at hs2
          have HS2 : Hid (SJ w2 X U (N + (j + 1)) (V + rvp c L (j + 1) * 2 ^ N)) := hs2
          have HO2 : Hid (Only (fun k => k = X ∨ U ≤ k) w1 w2) := HON.out.trans ho2
          clear hs2 ho2 HSJ HON t1 t3 HBT HZN
          go_wp2
          go_roundw
          case rel => exact ⟨j + 1, z - 1, by omega, by have := HZJ.out; omega, by go_num, HS2.out, HO2.out⟩
          case measure => simp [intOf]; omega
        · have hjL : j = L := by omega
          subst hjL
          have hz1 : z = -1 := by omega
          subst hz1
          clear hzj
          have HS2 : Hid (SJ wr X U (hN ls ts (k + 1)) (hV ls cs ts (k + 1))) := by rw [HN1.out, HV1.out]; exact HSJ.out
          go_wp2
          go_roundw
          case rel => exact ⟨k + 1, by omega, by go_num, HS2.out, HON.out⟩
          case measure => simp [intOf]; omega
    · have hkn : k = T := by omega
      subst hkn
      go_wp2
      go_end0
      exact ⟨rfl, ⟨U, HU.out, by rw [HCSE.out, HTL.out]; exact HSJ.out⟩, HEND.out _ HON.out⟩
end Go.Proofs.YtiiaffkhnahofaaDoor
namespace Go.Proofs.YtiiaffkhnahofaaDoor
open Go.RowKit
set_option linter.unusedVariables false

theorem lensB_okH {zs : List Int} (h : lensB zs = true) : 1 ≤ zs.length ∧ zs.length ≤ 80 ∧ ∀ z ∈ zs, 0 ≤ z ∧ z ≤ 12 := by
  simp only [lensB, decide_eq_true_eq] at h
  exact ⟨h.1, h.2.1, h.2.2.1⟩
/-- Each symbol of the text has a code. -/
def coded (ls ts : List Int) : Prop := ∀ k, k < ts.length → ls.getD (ts.getD k 0).toNat 0 ≠ 0
abbrev csOf (ls : List Int) : List Int := (crun ls (sbL ls 12)).2.2

/-- The sentinel of a symbol without a code. -/
structure SentC (w : World) : Prop where
  s0 : Sent w 5
  hG : 5 < w.heap.size
theorem SentC.below {w w' : World} (h : SentC w) (hb : Below w.heap.size w w') : SentC w' := ⟨h.s0.below hb h.hG, Nat.lt_of_lt_of_le h.hG hb.size⟩

set_option maxRecDepth 20000 in
set_option maxHeartbeats 8000000 in
/-- The writer has n0 bits already. -/
theorem putCodes_any (R B n0 V0 : Nat) (a : Option Addr) (ca : Nat) (ls : List Int) (b : Option Addr) (cb : Nat) (ts : List Int) (w0 w : World) (hw : WI w B R n0 V0) (ha : Ins w0 a ls) (hb : Ins w0 b ts) (hB : w0.heap.size = B) (hbel : Below B w0 w) (hlb : lensB ls = true) (htl : ts.length ≤ 300) (hn0 : n0 + ts.length * 12 ≤ 4096) (hts : ∀ k, k < ts.length → 0 ≤ ts.getD k 0 ∧ ts.getD k 0 < ls.length) (hS : SentC w0) :
    Calls Tryd.prog 44 #[.pointer (some ⟨R, 0, none⟩), .slice a ls.length ca, .slice b ts.length cb] w fun e w' => Below B w0 w' ∧
      (coded ls ts → e = .returned .nilIface ∧ WI w' B R (n0 + hN ls ts ts.length) (V0 + hV ls (csOf ls) ts ts.length * 2 ^ n0)) ∧ (¬ coded ls ts → ∃ T' y, e = .returned (.iface T' y)) := by
  obtain ⟨hn1, hn2, hok⟩ := lensB_okH hlb
  have HCO := codesOf_any a ca ls w (ha.below hbel (by rw [hB]; exact Nat.le_refl _)) hn2 hok
  have HNL : Hid (∀ k, hN ls ts k ≤ 12 * k) := fun k => hN_le (ts := ts) hok k
  have HCL : Hid ((crun ls (sbL ls 12)).2.2.length = ls.length ∧ ∀ z ∈ (crun ls (sbL ls 12)).2.2, 0 ≤ z ∧ z ≤ 8192000) := ⟨crun_len ls (sbL ls 12), crun_rng2 ls hn2⟩
  have HP : Hid (Ins w0 a ls ∧ Ins w0 b ts ∧ (∀ k, k < ts.length → 0 ≤ ts.getD k 0 ∧ ts.getD k 0 < ls.length) ∧ (∀ k, k < ls.length → 0 ≤ ls.getD k 0 ∧ ls.getD k 0 ≤ 12) ∧ SentC w0 ∧ w0.heap.size = B) := ⟨ha, hb, hts, fun k hk => hok _ (getD_mem hk), hS, hB⟩
  have HW : Hid (WI w B R (n0 + 0) (V0 + 0 * 2 ^ n0) ∧ Below B w0 w) := ⟨by simpa using hw, hbel⟩
  have hRlt : R < w.heap.size := by obtain ⟨_, h, _⟩ := hw; exact (Array.getElem?_eq_some_iff.1 h).1
  have hBw : B ≤ w.heap.size := by obtain ⟨_, _, _, _, _, h⟩ := hw; exact h
  clear hw ha hb hB hbel hlb hts hS hok
  go_enter Tryd.func44, Tryd.ntmps44
  go_wp2_with fail
  refine HCO.mono ?_
  clear HCO
  rintro e w1 ⟨rfl, hoc, hb1⟩
  obtain ⟨cur, hcur, hback⟩ := OwI.blockG (w' := w1) hoc
  have HBK : Hid (∀ W : World, W.heap[w.heap.size]? = some (.cells cur 3 (0, 0)) → OwI W w.heap.size w.heap.size ls.length (crun ls (sbL ls 12)).2.2) := fun W hW => by
    obtain ⟨c2, h2, h3⟩ := OwI.blockG (w' := W) hoc
    rw [hcur] at h2
    simp at h2
    subst h2
    exact h3 hW
  have HW1 : Hid (WI w1 B R (n0 + 0) (V0 + 0 * 2 ^ n0) ∧ Below B w0 w1 ∧ w1.heap[w.heap.size]? = some (.cells cur 3 (0, 0))) := ⟨HW.out.1.stay hb1, HW.out.2.trans (hb1.mono hBw), hcur⟩
  have hgR : w.heap.size ≠ R := by omega
  clear hoc hb1 hback hcur HW hRlt
  generalize hcs0 : (crun ls (sbL ls 12)).2.2 = cs at *
  have HCSE : Hid (csOf ls = cs ∧ True) := ⟨hcs0, trivial⟩
  clear hcs0
  generalize w.heap.size = gc at *
  generalize hTn : ts.length = n at *
  generalize hLn : ls.length = L0 at *
  have HLn : Hid (ts.length = n ∧ ls.length = L0) := ⟨hTn, hLn⟩
  clear hTn hLn
  go_wp2
  go_loopw [15] (fun i wr => ∃ k : Nat, k ≤ n ∧ i = .int .i64 k ∧ WI wr B R (n0 + hN ls ts k) (V0 + hV ls cs ts k * 2 ^ n0) ∧ wr.heap[gc]? = some (.cells cur 3 (0, 0)) ∧ Below B w0 wr ∧ ∀ j, j < k → ls.getD (ts.getD j 0).toNat 0 ≠ 0) (fun i _ => n - (intOf i).toNat)
  case atStart => exact ⟨0, Nat.zero_le _, rfl, HW1.out.1, HW1.out.2.2, HW1.out.2.1, fun j hj => by omega⟩
  case round =>
    clear HW1
    obtain ⟨k, hk, rfl, hwi, hgb, hbel, hnz⟩ := hrel
    have HS : Hid (WI wr B R (n0 + hN ls ts k) (V0 + hV ls cs ts k * 2 ^ n0) ∧ wr.heap[gc]? = some (.cells cur 3 (0, 0)) ∧ Below B w0 wr ∧ (∀ j, j < k → ls.getD (ts.getD j 0).toNat 0 ≠ 0) ∧ hN ls ts k ≤ 12 * k) := ⟨hwi, hgb, hbel, hnz, HNL.out k⟩
    by_cases hlt : k < n
    · obtain ⟨b1, o1, rfl, hb1, hc1⟩ := (HP.out.2.1.below hbel (by rw [HP.out.2.2.2.2.2]; exact Nat.le_refl _)).len_pos k (by rw [HLn.out.1]; exact hlt)
      have hs0 := hc1 k (by rw [HLn.out.1]; exact hlt)
      have hsr := HP.out.2.2.1 k hlt
      obtain ⟨sn, hsn⟩ := Int.eq_ofNat_of_zero_le hsr.1
      have hsl : sn < L0 := by omega
      obtain ⟨b2, o2, rfl, hb2, hc2⟩ := (HP.out.1.below hbel (by rw [HP.out.2.2.2.2.2]; exact Nat.le_refl _)).len_pos sn (by rw [HLn.out.2]; exact hsl)
      have hl0 := hc2 sn (by rw [HLn.out.2]; exact hsl)
      have hLr := HP.out.2.2.2.1 sn hsl
      obtain ⟨L, hLe⟩ := Int.eq_ofNat_of_zero_le hLr.1
      rw [hsn] at hs0
      rw [hLe] at hl0 hLr
      have HST : Hid (hN ls ts (k + 1) = hN ls ts k + L ∧ hV ls cs ts (k + 1) = hV ls cs ts k + rvp (cs.getD sn 0).toNat L L * 2 ^ hN ls ts k ∧ ls.getD (ts.getD k 0).toNat 0 = (L : Int)) := by
        refine ⟨?_, ?_, ?_⟩
        · rw [hN, hsn]; unfold zN; rw [Int.toNat_natCast, hLe, Int.toNat_natCast]
        · rw [hV, hsn]; unfold zN; rw [Int.toNat_natCast, hLe, Int.toNat_natCast]
        · rw [hsn, Int.toNat_natCast, hLe]
      have hsn80 : (sn : Int) < (L0 : Int) := by omega
      have hsce := (HP.out.2.2.2.2.1.s0.below hbel (by have := HP.out.2.2.2.2.1.hG; have := HP.out.2.2.2.2.2; omega))
      obtain ⟨T', y, hce⟩ := hsce
      have hcr := HCL.out.2 _ (getD_mem (zs := cs) (k := sn) (by rw [HCL.out.1]; exact hsl))
      have hcc : wr.cell? ⟨gc, sn, none⟩ = some (.int .i64 (cs.getD sn 0)) := (HBK.out wr hgb).cell sn (by rw [HCL.out.1]; exact hsl)
      obtain ⟨c, hce2⟩ := Int.eq_ofNat_of_zero_le hcr.1
      rw [hce2] at hcc hcr
      rw [hce2, Int.toNat_natCast] at HST
      clear hc1 hc2 hwi hgb hbel hnz hsr hsn hLe hce2
      by_cases hL0 : L = 0
      · have HNC : Hid (¬ coded ls ts ∧ Below B w0 wr) := ⟨fun h => h k (by rw [HLn.out.1]; exact hlt) (by rw [HST.out.2.2, hL0]; rfl), HS.out.2.2.1⟩
        subst hL0
        clear HS HST
        go_wp2
        go_ret
        exact ⟨HNC.out.2, fun h => absurd h HNC.out.1, fun _ => ⟨T', y, rfl⟩⟩
      · have HNZ2 : Hid (∀ j, j < k + 1 → ls.getD (ts.getD j 0).toNat 0 ≠ 0) := fun j hj => by
          by_cases hjk : j = k
          · subst hjk; rw [HST.out.2.2]; omega
          · exact HS.out.2.2.2.1 j (by omega)
        have HPU : Hid (∀ W : World, WI W B R (n0 + hN ls ts k) (V0 + hV ls cs ts k * 2 ^ n0) → W.heap[gc]? = some (.cells cur 3 (0, 0)) → Calls Tryd.prog 66 #[.pointer (some ⟨R, 0, none⟩), .int .i64 (c : Nat), .int .i64 (L : Nat)] W fun e w' => e = .returned .nilIface ∧ WI w' B R (n0 + hN ls ts (k + 1)) (V0 + hV ls cs ts (k + 1) * 2 ^ n0) ∧ Below B W w' ∧ w'.heap[gc]? = some (.cells cur 3 (0, 0))) := by
          intro W hW hgW
          have := putCode_yesG W B R _ _ c L gc cur 3 hW hgW (by decide) hgR (by omega) (by omega) (by omega) (by have := HS.out.2.2.2.2; omega)
          rw [Nat.add_assoc, ← HST.out.1, put_at, ← HST.out.2.1] at this
          exact this
        have hne0 : ((L : Int) == 0) = false := by simp; omega
        clear hce
        go_wp2
        go_region_with (go_at_call 66; refine (HPU.out _ (by exact HS.out.1) (by exact HS.out.2.1)).mono ?_; rintro e w6 ⟨rfl, hw6, hb6, hg6⟩; have HW6 : Hid (WI w6 B R (n0 + hN ls ts (k + 1)) (V0 + hV ls cs ts (k + 1) * 2 ^ n0) ∧ w6.heap[gc]? = some (.cells cur 3 (0, 0)) ∧ Below B w0 w6) := ⟨hw6, hg6, HS.out.2.2.1.trans (Below.drewS hb6)⟩; clear hw6 hb6 hg6)
        all_goals
          go_wp2
          go_roundw
          case rel => exact ⟨k + 1, by omega, by go_num, HW6.out.1, HW6.out.2.1, HW6.out.2.2, HNZ2.out⟩
          case measure => simp [intOf]; omega
    · have hkn : k = n := by omega
      subst hkn
      have HCD : Hid (coded ls ts) := fun j hj => hnz j (by rw [HLn.out.1] at hj; exact hj)
      clear hwi hgb hbel hnz
      go_wp2
      go_ret
      exact ⟨HS.out.2.2.1, fun _ => ⟨rfl, by rw [HCSE.out.1, HLn.out.1]; exact HS.out.1⟩, fun h => absurd HCD.out h⟩

set_option maxRecDepth 20000 in
set_option maxHeartbeats 8000000 in
theorem implHuffPut_ok (a : Option Addr) (ca : Nat) (ls : List Int) (b : Option Addr) (cb : Nat) (ts : List Int) (w : World) (ha : Ins w a ls) (hb : Ins w b ts) (hlb : lensB ls = true) (htb : txtB ts ls.length = true) (h4 : Four w) (hE : ErrT w) (hS : SentC w) :
    Calls Tryd.prog 21 #[.slice a ls.length ca, .slice b ts.length cb] w fun e w' => Below w.heap.size w w' ∧
      (coded ls ts → ∃ a' cp, e = .returned (.tuple #[.agg #[.slice a' (enc (hN ls ts ts.length) (hV ls (csOf ls) ts ts.length)).length cp, .int .i64 (hN ls ts ts.length : Nat)], .bool true]) ∧ Mine w' w.heap.size w'.heap.size a' cp (enc (hN ls ts ts.length) (hV ls (csOf ls) ts ts.length))) ∧
      (¬ coded ls ts → e = .returned (.tuple #[.agg #[.slice none 0 0, .int .i64 0], .bool false])) := by
  have hA := Ans.new w
  obtain ⟨hn1, hn2, hok⟩ := lensB_okH hlb
  obtain ⟨-, -, ht3⟩ := txtB_bnd htb
  have HT := implLens_any a ca ls _ (ha.below hA.bel (Nat.le_refl _)) (by omega) (h4.below hA.bel) (hE.below hA.bel)
  have HA : Hid (Ans w (w.alloc (Obj.cells #[Value.slice none 0 0, Value.int IntKind.i64 0] 33))) := hA
  have HQ : Hid (lensB ls = true ∧ (∀ k, k < ts.length → 0 ≤ ts.getD k 0 ∧ ts.getD k 0 < ls.length) ∧ txtB ts ls.length = true ∧ Ins w a ls ∧ Ins w b ts ∧ SentC w) := ⟨hlb, fun k hk => txtB_get htb k hk, htb, ha, hb, hS⟩
  rw [hlb] at HT
  clear hlb htb hA ha hb hS h4 hE hok
  go_enter Tryd.func21, Tryd.ntmps21
  go_wp2_with fail
  generalize w.alloc (Obj.cells #[Value.slice none 0 0, Value.int IntKind.i64 0] 33) = W at *
  refine HT.mono ?_
  clear HT
  rintro e w1 ⟨rfl, hb1⟩
  have HA1 : Hid (Ans w w1) := HA.out.step hb1 HA.out.lt
  have HX := implTxt_any b cb ts (ls.length : Int) w1 (HQ.out.2.2.2.2.1.below HA1.out.bel (Nat.le_refl _)) (by omega)
  rw [HQ.out.2.2.1] at HX
  clear hb1 HA
  go_wp2_with fail
  refine HX.mono ?_
  clear HX
  rintro e w2 ⟨rfl, rfl⟩
  go_wp2_with fail
  refine (newWriter_any none 0 [] 0 4096 w2 ⟨by simp, by simp⟩ (by simp)).mono ?_
  rintro e w3 ⟨R, g, rfl, hR, hown, hRge, hb3⟩
  have HPT := putCodes_any R w2.heap.size 0 0 a ca ls b cb ts w2 w3 (WI.new hR hown hRge hb3.size) (HQ.out.2.2.2.1.below HA1.out.bel (Nat.le_refl _)) (HQ.out.2.2.2.2.1.below HA1.out.bel (Nat.le_refl _)) rfl hb3 HQ.out.1 ht3 (by omega) HQ.out.2.1 (HQ.out.2.2.2.2.2.below HA1.out.bel)
  rw [Nat.zero_add, Nat.zero_add, Nat.pow_zero, Nat.mul_one] at HPT
  clear hR hown hRge hb3
  go_wp2_with fail
  refine HPT.mono ?_
  clear HPT
  rintro e w5 ⟨hb5, hyes, hno⟩
  have hA5 := HA1.out.step hb5 HA1.out.lt
  by_cases hs : coded ls ts
  · obtain ⟨rfl, hwi⟩ := hyes hs
    obtain ⟨a', cp, d0, d1, hmine⟩ := hwi.cells
    generalize hES : enc (hN ls ts ts.length) (hV ls (csOf ls) ts ts.length) = es at *
    have HF : Hid (Mine w5 w2.heap.size w5.heap.size a' cp es ∧ Ans w w5 ∧ w.heap.size < w2.heap.size ∧ coded ls ts ∧ enc (hN ls ts ts.length) (hV ls (csOf ls) ts ts.length) = es) := ⟨hmine, hA5, HA1.out.lt, hs, hES⟩
    obtain ⟨x0, x1, y0, y1, _, _⟩ := hA5
    clear hmine hb5 hyes hno hwi hs HA1 hES
    generalize hMM : hN ls ts ts.length = M at *
    have HMM : Hid (hN ls ts ts.length = M ∧ True) := ⟨hMM, trivial⟩
    clear hMM
    go_wp2
    refine bodyPost_ret (v := .tuple #[.agg #[.slice a' es.length cp, .int .i64 (M : Nat)], .bool true]) (by simp [results, Tryd.results21, go_sem, x0, x1]) rfl ⟨((HF.out.2.1.bel.setCell (by simp) _).setCell (by simp) _), fun _ => ⟨a', cp, by rw [HMM.out.1, HF.out.2.2.2.2], ?_⟩, fun h => absurd HF.out.2.2.2.1 h⟩
    rw [HMM.out.1, HF.out.2.2.2.2]
    exact mine_out _ _ HF.out.1 HF.out.2.2.1 (Nat.le_refl _)
  · obtain ⟨T', y, rfl⟩ := hno hs
    have HF : Hid (Ans w w5 ∧ ¬ coded ls ts) := ⟨hA5, hs⟩
    obtain ⟨x0, x1, y0, y1, _, _⟩ := hA5
    clear hb5 hyes hno hs HA1
    go_wp2
    exact bodyPost_ret (v := .tuple #[.agg #[.slice none 0 0, .int .i64 0], .bool false]) (by simp [results, Tryd.results21, go_sem, x0, x1]) rfl ⟨by repeat (first | exact HF.out.1.bel | refine Below.setCell ?_ (by simp) _), fun h => absurd h HF.out.2, fun _ => rfl⟩
end Go.Proofs.YtiiaffkhnahofaaDoor
namespace Go.Proofs.YtiiaffkhnahofaaDoor
open Go.RowKit
set_option linter.unusedVariables false

set_option maxHeartbeats 4000000 in
theorem implHuffPut_no (a : Option Addr) (ca : Nat) (ls : List Int) (b : Option Addr) (cb : Nat) (ts : List Int) (w : World) (ha : Ins w a ls) (hb : Ins w b ts) (hl1 : ls.length ≤ 281474976710656) (hl2 : ts.length ≤ 281474976710656) (hno : ¬ (lensB ls = true ∧ txtB ts ls.length = true)) (h4 : Four w) (hE : ErrT w) :
    Calls Tryd.prog 21 #[.slice a ls.length ca, .slice b ts.length cb] w fun e w' => e = .returned (.tuple #[.agg #[.slice none 0 0, .int .i64 0], .bool false]) ∧ Below w.heap.size w w' := by
  have hw : Below w.heap.size w (w.alloc (Obj.cells #[Value.slice none 0 0, Value.int IntKind.i64 0] 33)) := (Below.refl _ _).alloc (Nat.le_refl _) _
  have HT := implLens_any a ca ls _ (ha.below hw (Nat.le_refl _)) hl1 (h4.below hw) (hE.below hw)
  have r0 : (w.alloc (Obj.cells #[Value.slice none 0 0, Value.int IntKind.i64 0] 33)).cell? ⟨w.heap.size, 0, none⟩ = some (.slice none 0 0) := by simp
  have r1 : (w.alloc (Obj.cells #[Value.slice none 0 0, Value.int IntKind.i64 0] 33)).cell? ⟨w.heap.size, 1, none⟩ = some (.int .i64 0) := by simp
  have t0 : (w.alloc (Obj.cells #[Value.slice none 0 0, Value.int IntKind.i64 0] 33)).frozen? ⟨w.heap.size, 0, none⟩ = false := by simp
  have t1 : (w.alloc (Obj.cells #[Value.slice none 0 0, Value.int IntKind.i64 0] 33)).frozen? ⟨w.heap.size, 1, none⟩ = false := by simp
  have HSZ : Hid (w.heap.size < (w.alloc (Obj.cells #[Value.slice none 0 0, Value.int IntKind.i64 0] 33)).heap.size) := by simp [Hid]
  go_enter Tryd.func21, Tryd.ntmps21
  go_wp2_with fail
  generalize w.alloc (Obj.cells #[Value.slice none 0 0, Value.int IntKind.i64 0] 33) = W at *
  refine HT.mono ?_
  rintro e w1 ⟨rfl, hb1⟩
  clear HT
  have u0 := keep hb1 HSZ.out r0
  have u1 := keep hb1 HSZ.out r1
  have v0 : w1.frozen? ⟨w.heap.size, 0, none⟩ = false := (hb1.frozen (p := ⟨w.heap.size, 0, none⟩) HSZ.out).trans t0
  have v1 : w1.frozen? ⟨w.heap.size, 1, none⟩ = false := (hb1.frozen (p := ⟨w.heap.size, 1, none⟩) HSZ.out).trans t1
  have HBB : Hid (Below w.heap.size w w1) := hw.trans (hb1.mono (Nat.le_of_lt HSZ.out))
  have hib : Ins w1 b ts := hb.below HBB.out (Nat.le_refl _)
  clear hb1 r0 r1 t0 t1 hw
  cases hlb : lensB ls with
  | false =>
    go_wp2
    exact bodyPost_ret (v := .tuple #[.agg #[.slice none 0 0, .int .i64 0], .bool false]) (by simp [results, Tryd.results21, go_sem, u0, u1]) rfl ⟨rfl, by repeat (first | exact HBB.out | refine Below.setCell ?_ (by simp) _)⟩
  | true =>
    have htf : txtB ts ls.length = false := by
      cases h : txtB ts ls.length with
      | false => rfl
      | true => exact absurd ⟨hlb, h⟩ hno
    have HXT := implTxt_any b cb ts (ls.length : Int) w1 hib hl2
    rw [htf] at HXT
    clear hlb htf hno
    go_wp2_with fail
    refine HXT.mono ?_
    rintro e w2 ⟨rfl, rfl⟩
    clear HXT
    go_wp2
    exact bodyPost_ret (v := .tuple #[.agg #[.slice none 0 0, .int .i64 0], .bool false]) (by simp [results, Tryd.results21, go_sem, u0, u1]) rfl ⟨rfl, by repeat (first | exact HBB.out | refine Below.setCell ?_ (by simp) _)⟩

set_option maxHeartbeats 4000000 in
theorem specHuffPut_no (a : Option Addr) (ca : Nat) (ls : List Int) (b : Option Addr) (cb : Nat) (ts : List Int) (w : World) (ha : Ins w a ls) (hb : Ins w b ts) (hl1 : ls.length ≤ 281474976710656) (hl2 : ts.length ≤ 281474976710656) (hno : ¬ (lensB ls = true ∧ txtB ts ls.length = true)) :
    Calls Tryd.prog 20 #[.slice a ls.length ca, .slice b ts.length cb] w fun e w' => e = .returned (.tuple #[.agg #[.slice none 0 0, .int .i64 0], .bool false]) ∧ Below w.heap.size w w' := by
  have hw : Below w.heap.size w (w.alloc (Obj.cells #[Value.slice none 0 0, Value.int IntKind.i64 0] 33)) := (Below.refl _ _).alloc (Nat.le_refl _) _
  have HT := specLens_any a ca ls _ (ha.below hw (Nat.le_refl _)) hl1
  have hib := hb.below hw (Nat.le_refl _)
  have HBB : Hid (Below w.heap.size w (w.alloc (Obj.cells #[Value.slice none 0 0, Value.int IntKind.i64 0] 33))) := hw
  clear hw
  cases hlb : lensB ls with
  | false =>
    rw [hlb] at HT
    go_enter Tryd.func20, Tryd.ntmps20
    go_wp2_with fail
    refine HT.mono ?_
    rintro e w1 ⟨rfl, rfl⟩
    clear HT
    go_wp2
    exact bodyPost_ret (v := .tuple #[.agg #[.slice none 0 0, .int .i64 0], .bool false]) (by simp [results, Tryd.results20, go_sem]) rfl ⟨rfl, by repeat (first | exact HBB.out | refine Below.setCell ?_ (by simp) _)⟩
  | true =>
    have htf : txtB ts ls.length = false := by
      cases h : txtB ts ls.length with
      | false => rfl
      | true => exact absurd ⟨hlb, h⟩ hno
    have HXT := specTxt_any b cb ts (ls.length : Int) _ hib hl2
    rw [htf] at HXT
    rw [hlb] at HT
    clear hlb htf hno
    go_enter Tryd.func20, Tryd.ntmps20
    go_wp2_with fail
    refine HT.mono ?_
    rintro e w1 ⟨rfl, rfl⟩
    clear HT
    go_wp2_with fail
    refine HXT.mono ?_
    rintro e w2 ⟨rfl, rfl⟩
    clear HXT
    go_wp2
    exact bodyPost_ret (v := .tuple #[.agg #[.slice none 0 0, .int .i64 0], .bool false]) (by simp [results, Tryd.results20, go_sem]) rfl ⟨rfl, by repeat (first | exact HBB.out | refine Below.setCell ?_ (by simp) _)⟩

end Go.Proofs.YtiiaffkhnahofaaDoor
namespace Go.Proofs.YtiiaffkhnahofaaDoor
open Go.RowKit
set_option linter.unusedVariables false

set_option maxHeartbeats 8000000 in
theorem specHuffPut_ok (a : Option Addr) (ca : Nat) (ls : List Int) (b : Option Addr) (cb : Nat) (ts : List Int) (w : World) (ha : Ins w a ls) (hb : Ins w b ts) (hlb : lensB ls = true) (htb : txtB ts ls.length = true) :
    Calls Tryd.prog 20 #[.slice a ls.length ca, .slice b ts.length cb] w fun e w' => Below w.heap.size w w' ∧
      (coded ls ts → ∃ a' cp, e = .returned (.tuple #[.agg #[.slice a' (enc (hN ls ts ts.length) (hV ls (csOf ls) ts ts.length)).length cp, .int .i64 (hN ls ts ts.length : Nat)], .bool true]) ∧ Mine w' w.heap.size w'.heap.size a' cp (enc (hN ls ts ts.length) (hV ls (csOf ls) ts ts.length))) ∧
      (¬ coded ls ts → e = .returned (.tuple #[.agg #[.slice none 0 0, .int .i64 0], .bool false])) := by
  have hw : Below w.heap.size w (w.alloc (Obj.cells #[Value.slice none 0 0, Value.int IntKind.i64 0] 33)) := (Below.refl _ _).alloc (Nat.le_refl _) _
  obtain ⟨hn1, hn2, hok⟩ := lensB_okH hlb
  obtain ⟨-, -, ht3⟩ := txtB_bnd htb
  have HTT : Hid (∀ k, k < ts.length → 0 ≤ ts.getD k 0 ∧ ts.getD k 0 < ls.length) := fun k hk => txtB_get htb k hk
  have HOK : Hid (∀ k, k < ls.length → 0 ≤ ls.getD k 0 ∧ ls.getD k 0 ≤ 12) := fun k hk => hok _ (getD_mem hk)
  have hTM : ∀ z ∈ ts, 0 ≤ z ∧ z < ls.length := by
    simp only [txtB, decide_eq_true_eq] at htb
    exact htb.2.2.2
  have HNL := hN_le (ts := ts) hok ts.length
  have HT := specLens_any a ca ls _ (ha.below hw (Nat.le_refl _)) (by omega)
  have HXT := specTxt_any b cb ts (ls.length : Int) _ (hb.below hw (Nat.le_refl _)) (by omega)
  rw [hlb] at HT
  rw [htb] at HXT
  have r0 : (w.alloc (Obj.cells #[Value.slice none 0 0, Value.int IntKind.i64 0] 33)).cell? ⟨w.heap.size, 0, none⟩ = some (.slice none 0 0) := by simp
  have r1 : (w.alloc (Obj.cells #[Value.slice none 0 0, Value.int IntKind.i64 0] 33)).cell? ⟨w.heap.size, 1, none⟩ = some (.int .i64 0) := by simp
  have t0 : (w.alloc (Obj.cells #[Value.slice none 0 0, Value.int IntKind.i64 0] 33)).frozen? ⟨w.heap.size, 0, none⟩ = false := by simp
  have t1 : (w.alloc (Obj.cells #[Value.slice none 0 0, Value.int IntKind.i64 0] 33)).frozen? ⟨w.heap.size, 1, none⟩ = false := by simp
  have HSZ : Hid (w.heap.size < (w.alloc (Obj.cells #[Value.slice none 0 0, Value.int IntKind.i64 0] 33)).heap.size) := by simp [Hid]
  have HIA : Hid (Ins (w.alloc (Obj.cells #[Value.slice none 0 0, Value.int IntKind.i64 0] 33)) a ls) := ha.below hw (Nat.le_refl _)
  have HIB : Hid (Ins (w.alloc (Obj.cells #[Value.slice none 0 0, Value.int IntKind.i64 0] 33)) b ts) := hb.below hw (Nat.le_refl _)
  have HR : Hid _ := (⟨r0, r1, t0, t1, hw⟩ : _ ∧ _ ∧ _ ∧ _ ∧ _)
  clear r0 r1 t0 t1 hw ha hb hlb htb
  go_enter Tryd.func20, Tryd.ntmps20
  go_wp2_with fail
  generalize w.alloc (Obj.cells #[Value.slice none 0 0, Value.int IntKind.i64 0] 33) = W at *
  refine HT.mono ?_
  rintro e w1 ⟨rfl, rfl⟩
  clear HT
  go_wp2_with fail
  refine HXT.mono ?_
  rintro e w2 ⟨rfl, rfl⟩
  clear HXT
  have HMM : Hid (∀ k, k < ts.length → ls.getD (ts.getD k 0).toNat 0 = 0 → ¬ coded ls ts) := fun k hk h hc => hc k hk h
  have HPUT : Hid (∀ (X : Nat) (w' : World), Ins w' a ls → Ins w' b ts → w'.heap[X]? = some (.cells #[.slice none 0 0, .int .i64 0] 33 (0, 0)) → (∀ k o, a = some ⟨k, o, none⟩ → k ≠ X) → (0 < ts.length → ∀ k o, b = some ⟨k, o, none⟩ → k ≠ X) → Calls Tryd.prog 41 #[.pointer (some ⟨X, 0, none⟩), .slice a ls.length ca, .slice b ts.length cb] w' fun e w'' => e = .returned (.tuple #[]) ∧ (∃ U, w'.heap.size ≤ U ∧ SJ w'' X U (hN ls ts ts.length) (hV ls (crun ls (sbL ls 12)).2.2 ts ts.length)) ∧ Only (fun k => k = X) w' w'') := fun X w' h1 h2 h3 h4 h5 => l2put_any a ca ls b cb ts X w' h1 h2 h3 h4 h5 hn2 hok ht3 hTM
  have HALL : Hid (∀ (w' : World), (w'.alloc (.cells #[.slice none 0 0, .int .i64 0] 33)).heap[w'.heap.size]? = some (.cells #[.slice none 0 0, .int .i64 0] 33 (0, 0))) := fun w' => by simpa using heap_alloc_new w' (.cells #[.slice none 0 0, .int .i64 0] 33)
  have HNE1 : Hid (∀ k o, a = some ⟨k, o, none⟩ → k ≠ w2.heap.size) := by
    intro k o he
    obtain ⟨b2, o2, e2, hb2, -⟩ := HIA.out.len_pos 0 (by omega)
    rw [e2] at he
    simp at he
    omega
  have HNE2 : Hid (0 < ts.length → ∀ k o, b = some ⟨k, o, none⟩ → k ≠ w2.heap.size) := by
    intro h0 k o he
    obtain ⟨b2, o2, e2, hb2, -⟩ := HIB.out.len_pos 0 h0
    rw [e2] at he
    simp at he
    omega
  have HHN : Hid (hN ls ts ts.length ≤ 4096) := by unfold Hid; omega
  clear HNL hTM hok
  generalize hcs0 : (crun ls (sbL ls 12)).2.2 = cs at *
  have HCSE : Hid (csOf ls = cs) := hcs0
  clear hcs0
  generalize hT : ts.length = T at *
  have HTL : Hid (ts.length = T) := hT
  clear hT
  generalize hn0 : ls.length = n at *
  have HLL : Hid (ls.length = n) := hn0
  clear hn0
  go_wp2
  go_loopw [6] (fun i wr => ∃ k : Nat, k ≤ T ∧ i = .int .i64 k ∧ wr = w2 ∧ ∀ j, j < k → ls.getD (ts.getD j 0).toNat 0 ≠ 0) (fun i _ => T - (intOf i).toNat)
  case atStart => exact ⟨0, Nat.zero_le _, rfl, rfl, fun j hj => by omega⟩
  case round =>
    obtain ⟨k, hk, rfl, hwr, hnz⟩ := hrel
    subst hwr
    have HNZ : Hid (∀ j, j < k → ls.getD (ts.getD j 0).toNat 0 ≠ 0) := hnz
    clear hnz
    by_cases hlt : k < T
    · clear HPUT HALL HNE1 HNE2 HHN
      obtain ⟨b1, o1, rfl, hb1, hc1⟩ := HIB.out.len_pos k (by rw [HTL.out]; exact hlt)
      have hs0 := hc1 k (by rw [HTL.out]; exact hlt)
      have hsr := HTT.out k hlt
      generalize hsy : ts.getD k 0 = sy at *
      obtain ⟨sn, rfl⟩ : ∃ j : Nat, sy = j := ⟨sy.toNat, by omega⟩
      obtain ⟨b2, o2, rfl, hb2, hc2⟩ := HIA.out.len_pos sn (by rw [HLL.out]; omega)
      have hl0 := hc2 sn (by rw [HLL.out]; omega)
      have hLr := HOK.out sn (by omega)
      have HLE : Hid (ls.getD (ts.getD k 0).toNat 0 = ls.getD sn 0) := by unfold Hid; rw [hsy, Int.toNat_natCast]
      generalize hLe : ls.getD sn 0 = Lz at *
      clear hc1 hc2 hLe hsy
      by_cases hL0 : Lz = 0
      · have HNC : Hid (¬ coded ls ts) := HMM.out k hlt (by rw [HLE.out, hL0])
        subst hL0
        obtain ⟨r0, r1, t0, t1, hw⟩ := HR.out
        have HBB : Hid _ := hw
        clear hw HLE HMM HNZ HR
        go_wp2
        exact bodyPost_ret (v := .tuple #[.agg #[.slice none 0 0, .int .i64 0], .bool false]) (by simp [results, Tryd.results20, go_sem, r0, r1]) rfl ⟨by repeat (first | exact HBB.out | refine Below.setCell ?_ (by simp) _), fun h => absurd h HNC.out, fun _ => rfl⟩
      · have HNZ2 : Hid (∀ j, j < k + 1 → ls.getD (ts.getD j 0).toNat 0 ≠ 0) := fun j hj => by
          by_cases hjk : j = k
          · subst hjk; rw [HLE.out]; exact hL0
          · exact HNZ.out j (by omega)
        have hne0 : (Lz == 0) = false := by simpa using hL0
        clear HLE HNZ HMM HR
        go_wp2
        go_roundw
        case rel => exact ⟨k + 1, by omega, by go_num, trivial, HNZ2.out⟩
        case measure => simp [intOf]; omega
    · have hkn : k = T := by omega
      subst hkn
      have HCD : Hid (coded ls ts) := fun j hj => HNZ.out j (by rw [HTL.out] at hj; exact hj)
      clear HNZ HMM
      obtain ⟨r0, r1, t0, t1, hw⟩ := HR.out
      have HBW : Hid _ := hw
      clear hw HR
      go_wp2_with fail
      refine (HPUT.out _ _ (HIA.out.below ((Below.refl _ _).alloc (Nat.le_refl _) _) (Nat.le_refl _)) (HIB.out.below ((Below.refl _ _).alloc (Nat.le_refl _) _) (Nat.le_refl _)) (HALL.out _) HNE1.out HNE2.out).mono ?_
      rintro e w3 ⟨rfl, ⟨U, hU, v, hR3, hv3, hV3, hU3⟩, ho3⟩
      clear HPUT HALL HNE1 HNE2
      obtain ⟨a', cp, rfl, hm⟩ := hv3.mine
      have d0 := cellR (j := 0) hR3 rfl
      have d1 := cellR (j := 1) hR3 rfl
      have hb3 := ((Below.refl _ _).alloc (Nat.le_refl _) _).trans (ho3.below (Nat.le_of_lt (by simp)) (fun k hk => by subst hk; exact Nat.le_refl _))
      have u0 := keep hb3 HSZ.out r0
      have u1 := keep hb3 HSZ.out r1
      have v0 : w3.frozen? ⟨w.heap.size, 0, none⟩ = false := (hb3.frozen (p := ⟨w.heap.size, 0, none⟩) HSZ.out).trans t0
      have v1 : w3.frozen? ⟨w.heap.size, 1, none⟩ = false := (hb3.frozen (p := ⟨w.heap.size, 1, none⟩) HSZ.out).trans t1
      have HBB : Hid (Below w.heap.size w w3) := HBW.out.trans (hb3.mono (Nat.le_of_lt HSZ.out))
      have HGU : Hid (w.heap.size < U) := by have h1 := HSZ.out; simp at hU; unfold Hid; omega
      clear hb3 r0 r1 t0 t1 HBW HSZ hv3 hV3 hU3 ho3 hU hR3 HIA HIB
      generalize hYS : enc (hN ls ts k) (hV ls cs ts k) = ys at *
      have HYS : Hid (enc (hN ls ts k) (hV ls cs ts k) = ys) := hYS
      have hM4 : ((hN ls ts k : Nat) : Int) ≤ 4096 := by have := HHN.out; omega
      have hM0 : (0 : Int) ≤ ((hN ls ts k : Nat) : Int) := by omega
      generalize hMM : ((hN ls ts k : Nat) : Int) = M at *
      have HMM : Hid (((hN ls ts k : Nat) : Int) = M) := hMM
      have HM : Hid (Mine w3 U w3.heap.size a' cp ys) := hm
      clear hMM hYS hm HHN
      go_wp2
      refine bodyPost_ret (v := .tuple #[.agg #[.slice a' ys.length cp, .int .i64 M], .bool true]) (by simp [results, Tryd.results20, go_sem, u0, u1]) rfl ⟨((HBB.out.setCell (by simp) _).setCell (by simp) _), fun _ => ⟨a', cp, by rw [HCSE.out, HTL.out, HYS.out, HMM.out], ?_⟩, fun h => absurd HCD.out h⟩
      rw [HCSE.out, HTL.out, HYS.out]
      exact mine_out _ _ HM.out HGU.out (Nat.le_refl _)

/-- The model and the program put texts alike. -/
theorem huffPut_both (ls ts : List Int) (hl1 : ls.length ≤ 1048576) (hl2 : ts.length ≤ 1048576) : ∃ (ys : List Int) (M : Int) (ok : Bool), ys.length ≤ 1048576 ∧
    (∀ (a : Option Addr) (ca : Nat) (b : Option Addr) (cb : Nat) (w : World), Ins w a ls → Ins w b ts → Calls Tryd.prog 20 #[.slice a ls.length ca, .slice b ts.length cb] w fun e w' =>
      ∃ a' cp, e = .returned (.tuple #[.agg #[.slice a' ys.length cp, .int .i64 M], .bool ok]) ∧ Mine w' w.heap.size w'.heap.size a' cp ys ∧ Below w.heap.size w w') ∧
    (∀ (a : Option Addr) (ca : Nat) (b : Option Addr) (cb : Nat) (w : World), Ins w a ls → Ins w b ts → Four w → ErrT w → SentC w → Calls Tryd.prog 21 #[.slice a ls.length ca, .slice b ts.length cb] w fun e w' =>
      ∃ a' cp, e = .returned (.tuple #[.agg #[.slice a' ys.length cp, .int .i64 M], .bool ok]) ∧ Mine w' w.heap.size w'.heap.size a' cp ys ∧ Below w.heap.size w w') := by
  by_cases h : lensB ls = true ∧ txtB ts ls.length = true
  · obtain ⟨h1, h2⟩ := h
    obtain ⟨hn1, hn2, hok⟩ := lensB_okH h1
    obtain ⟨-, -, ht3⟩ := txtB_bnd h2
    by_cases hc : coded ls ts
    · refine ⟨enc (hN ls ts ts.length) (hV ls (csOf ls) ts ts.length), (hN ls ts ts.length : Nat), true, ?_, fun a ca b cb w ha hb => ?_, fun a ca b cb w ha hb h4 hE hSC => ?_⟩
      · have h3 := hN_le (ts := ts) hok ts.length
        rw [enc_len]
        omega
      · refine (specHuffPut_ok a ca ls b cb ts w ha hb h1 h2).mono ?_
        rintro e w' ⟨hb', hy, -⟩
        obtain ⟨a', cp, he, hm⟩ := hy hc
        exact ⟨a', cp, he, hm, hb'⟩
      · refine (implHuffPut_ok a ca ls b cb ts w ha hb h1 h2 h4 hE hSC).mono ?_
        rintro e w' ⟨hb', hy, -⟩
        obtain ⟨a', cp, he, hm⟩ := hy hc
        exact ⟨a', cp, he, hm, hb'⟩
    · refine ⟨[], 0, false, by simp, fun a ca b cb w ha hb => ?_, fun a ca b cb w ha hb h4 hE hSC => ?_⟩
      · refine (specHuffPut_ok a ca ls b cb ts w ha hb h1 h2).mono ?_
        rintro e w' ⟨hb', -, hy⟩
        exact ⟨none, 0, hy hc, .inl ⟨rfl, rfl, rfl⟩, hb'⟩
      · refine (implHuffPut_ok a ca ls b cb ts w ha hb h1 h2 h4 hE hSC).mono ?_
        rintro e w' ⟨hb', -, hy⟩
        exact ⟨none, 0, hy hc, .inl ⟨rfl, rfl, rfl⟩, hb'⟩
  · refine ⟨[], 0, false, by simp, fun a ca b cb w ha hb => ?_, fun a ca b cb w ha hb h4 hE hSC => ?_⟩
    · refine (specHuffPut_no a ca ls b cb ts w ha hb (by omega) (by omega) h).mono ?_
      rintro e w' ⟨rfl, hb'⟩
      exact ⟨none, 0, rfl, .inl ⟨rfl, rfl, rfl⟩, hb'⟩
    · refine (implHuffPut_no a ca ls b cb ts w ha hb (by omega) (by omega) h h4 hE).mono ?_
      rintro e w' ⟨rfl, hb'⟩
      exact ⟨none, 0, rfl, .inl ⟨rfl, rfl, rfl⟩, hb'⟩
end Go.Proofs.YtiiaffkhnahofaaDoor
