/-
  putCodes and HuffPut of the program.
-/
import Derived.Test.YtpancccomdchnaaGreatDoorNum
import Derived.Test.YtpancccomdchnaaGreatDoorCodes1
import Derived.Test.YtpancccomdchnaaGreatDoorIBase
import Derived.Test.YtpancccomdchnaaGreatDoorPmB
import Derived.Test.YtpancccomdchnaaGreatDoorPcL
import Derived.Deep.RegionWith
namespace Go.Proofs.YtpancccomdchnaaGreatDoor
open Go.RowKit
set_option linter.unusedVariables false

theorem below_dH {B : Nat} {a b : World} (h : Below B a b) (n : Nat) : Below B a (b.drewN n) := ⟨h.os, h.tape, h.output, h.size, h.block⟩
theorem turned (c L : Nat) (h : L ≤ 12) : rvp (c % 65536) 16 16 / 2 ^ (16 - L) = rvp c L L := by
  rw [rvp_shift _ L (by omega), show 65536 = 2 ^ 16 from rfl, rvp_mod c L 16 (by omega)]

set_option maxHeartbeats 1600000 in
theorem putCode_yes (w : World) (B R n V c L : Nat) (h : WI w B R n V) (h1 : 1 ≤ L) (h2 : L ≤ 12) (hc : c ≤ 8192000) (hn : n + L ≤ 4096) :
    Calls Tryz.prog 80 #[.pointer (some ⟨R, 0, none⟩), .int .i64 (c : Nat), .int .i64 (L : Nat)] w fun e w' => e = .returned .nilIface ∧ WI w' B R (n + L) (V + rvp c L L * 2 ^ n) ∧ Below B w w' := by
  have H : Hid (WI w B R n V) := h
  have HT : Hid (rvp (c % 65536) 16 16 / 2 ^ (16 - L) = rvp c L L) := turned c L h2
  have hlt := rvp_lt (c % 65536) 16 16
  have hlt2 := rvp_lt c L L
  have e1 : IntKind.u16.wrap (c : Int) = ((c % 65536 : Nat) : Int) := by
    show (c : Int) % 65536 = _
    omega
  have hc16 : c % 65536 < 65536 := by omega
  clear h
  generalize c % 65536 = d at *
  go_enter Tryz.func80, Tryz.ntmps80
  go_wp2_with fail
  refine (rev16_rvp d w hc16).mono ?_
  rintro e w1 ⟨rfl, m1, rfl⟩
  generalize hr : rvp d 16 16 = r at *
  clear hr
  go_wp2_with fail
  have e2 : wrap64 ((r : Int) / 2 ^ (16 - L)) = ((rvp c L L : Nat) : Int) := by
    rw [show ((r : Int) / 2 ^ (16 - L)) = ((r / 2 ^ (16 - L) : Nat) : Int) from by simp, HT.out]
    have h12 : 2 ^ L ≤ 2 ^ 12 := Nat.pow_le_pow_right (by omega) h2
    exact IntWalk.wrap64_in _ (by omega)
  rw [e2]
  have hxw : ((rvp c L L : Nat) : Int) < 2 ^ ((L : Nat) : Int).toNat := by
    have e : ((2 : Int) ^ ((L : Nat) : Int).toNat) = ((2 ^ L : Nat) : Int) := by simp
    rw [e]
    omega
  refine ((H.out.drewN m1).put ((rvp c L L : Nat) : Int) ((L : Nat) : Int) (by omega) (by omega) (by omega) hxw (by omega) (by omega)).mono ?_
  rintro e w2 ⟨rfl, hw2, hb2⟩
  have HW2 : Hid (WI w2 B R (n + L) (V + rvp c L L * 2 ^ n)) := by simpa [Hid] using hw2
  have HB2 : Hid (Below B w w2) := (below_dH (Below.refl B w) m1).trans hb2
  clear hw2 hb2 hxw e2 HT
  go_wp2
  go_ret
  exact ⟨rfl, HW2.out, HB2.out⟩

set_option maxHeartbeats 1600000 in
theorem putCode_yesG (w : World) (B R n V c L g : Nat) (cur : Array Value) (T : TypeId) (h : WI w B R n V) (hg : w.heap[g]? = some (.cells cur T (0, 0))) (hT : T ≠ 5) (hgR : g ≠ R) (h1 : 1 ≤ L) (h2 : L ≤ 12) (hc : c ≤ 8192000) (hn : n + L ≤ 4096) :
    Calls Tryz.prog 80 #[.pointer (some ⟨R, 0, none⟩), .int .i64 (c : Nat), .int .i64 (L : Nat)] w fun e w' => e = .returned .nilIface ∧ WI w' B R (n + L) (V + rvp c L L * 2 ^ n) ∧ Below B w w' ∧ w'.heap[g]? = some (.cells cur T (0, 0)) := by
  have H : Hid (WI w B R n V ∧ w.heap[g]? = some (.cells cur T (0, 0))) := ⟨h, hg⟩
  have HT : Hid (rvp (c % 65536) 16 16 / 2 ^ (16 - L) = rvp c L L) := turned c L h2
  have hlt := rvp_lt (c % 65536) 16 16
  have hlt2 := rvp_lt c L L
  have e1 : IntKind.u16.wrap (c : Int) = ((c % 65536 : Nat) : Int) := by
    show (c : Int) % 65536 = _
    omega
  have hc16 : c % 65536 < 65536 := by omega
  clear h hg
  generalize c % 65536 = d at *
  go_enter Tryz.func80, Tryz.ntmps80
  go_wp2_with fail
  refine (rev16_rvp d w hc16).mono ?_
  rintro e w1 ⟨rfl, m1, rfl⟩
  generalize hr : rvp d 16 16 = r at *
  clear hr
  go_wp2_with fail
  have e2 : wrap64 ((r : Int) / 2 ^ (16 - L)) = ((rvp c L L : Nat) : Int) := by
    rw [show ((r : Int) / 2 ^ (16 - L)) = ((r / 2 ^ (16 - L) : Nat) : Int) from by simp, HT.out]
    have h12 : 2 ^ L ≤ 2 ^ 12 := Nat.pow_le_pow_right (by omega) h2
    exact IntWalk.wrap64_in _ (by omega)
  rw [e2]
  refine ((H.out.1.drewN m1).putG (w := w.drewN m1) H.out.2 hT hgR (rvp c L L) L (by omega) hlt2 hn).mono ?_
  rintro e w2 ⟨rfl, hw2, hb2, hg2⟩
  have HW2 : Hid (WI w2 B R (n + L) (V + rvp c L L * 2 ^ n)) := by simpa [Hid] using hw2
  have HB2 : Hid (Below B w w2 ∧ w2.heap[g]? = some (.cells cur T (0, 0))) := ⟨(below_dH (Below.refl B w) m1).trans hb2, hg2⟩
  clear hw2 hb2 hg2 e2 HT
  go_wp2
  go_ret
  exact ⟨rfl, HW2.out, HB2.out.1, HB2.out.2⟩

/-- Bits and number of the first k symbols of a text. -/
def hN (ls ts : List Int) : Nat → Nat
  | 0 => 0
  | k + 1 => hN ls ts k + zN ls (ts.getD k 0)
def hV (ls cs ts : List Int) : Nat → Nat
  | 0 => 0
  | k + 1 => hV ls cs ts k + rvp (cs.getD (ts.getD k 0).toNat 0).toNat (zN ls (ts.getD k 0)) (zN ls (ts.getD k 0)) * 2 ^ hN ls ts k
theorem hN_le {ls ts : List Int} (h : ∀ z ∈ ls, 0 ≤ z ∧ z ≤ 12) (k : Nat) : hN ls ts k ≤ 12 * k := by
  induction k with
  | zero => simp [hN]
  | succ k ih =>
    have h1 : zN ls (ts.getD k 0) ≤ 12 := by
      unfold zN
      by_cases hi : (ts.getD k 0).toNat < ls.length
      · have := h _ (getD_mem hi); omega
      · rw [List.getD_eq_getElem?_getD, List.getElem?_eq_none (by omega)]; simp
    simp only [hN]
    omega
/-- The next code of L bits. -/
def cv (zs l : List Int) (L : Nat) : Nat := (crun zs l).1 * 2 ^ (L - (crun zs l).2.1)
theorem cv_double (zs l : List Int) (L : Nat) (h : (crun zs l).2.1 ≤ L) : cv zs l (L + 1) = cv zs l L * 2 := by
  unfold cv
  rw [show L + 1 - (crun zs l).2.1 = (L - (crun zs l).2.1) + 1 from by omega, Nat.pow_succ, Nat.mul_assoc]
theorem cv_snoc (zs l : List Int) (s : Int) (L : Nat) (h : zN zs s = L) : cv zs (l ++ [s]) L = cv zs l L + 1 ∧ (crun zs (l ++ [s])).2.2 = (crun zs l).2.2.set s.toNat (cv zs l L : Nat) := by
  unfold cv
  rw [crun_snoc]
  simp only [cst, h]
  simp
theorem cv_bound (zs l : List Int) (L : Nat) (h : asc zs l) (hl : (crun zs l).2.1 ≤ L) (hL : L ≤ 12) (hn : l.length ≤ 2000) : cv zs l L ≤ 8192000 := by
  have h1 := (cr_step _ _ L l.length hl (cr_full zs l h)).1
  have h2 : 2 ^ L ≤ 2 ^ 12 := Nat.pow_le_pow_right (by omega) hL
  have h3 : l.length * 2 ^ L ≤ 2000 * 2 ^ 12 := Nat.mul_le_mul hn h2
  unfold cv
  exact Nat.le_trans h1 (Nat.le_trans h3 (by decide))
theorem cv_nil (zs : List Int) : cv zs [] 0 = 0 := by simp [cv, crun_nil]

/-- All that the walk asks, at length M and the symbols below k. -/
structure At (zs : List Int) (M k c : Nat) (out : List Int) : Prop where
  c : cv zs (sbL zs (M - 1) ++ atL zs M k) M = c
  out : (crun zs (sbL zs (M - 1) ++ atL zs M k)).2.2 = out
theorem at_bound {zs : List Int} {M k c : Nat} {out : List Int} (h : At zs M k c out) (hM : 1 ≤ M) (hM2 : M ≤ 12) (hn : zs.length ≤ 80) (hk : k ≤ zs.length) : c ≤ 8192000 ∧ out.length = zs.length := by
  obtain ⟨l, rfl⟩ : ∃ l, M = l + 1 := ⟨M - 1, by omega⟩
  have hs := sbL_len zs l
  have ha := atL_len zs (l + 1) k
  have hm : l * zs.length ≤ 11 * 80 := Nat.mul_le_mul (by omega) hn
  refine ⟨?_, by rw [← h.out]; exact crun_len zs _⟩
  rw [← h.c]
  refine cv_bound zs _ _ (asc_part zs l k) (cr_ln zs _ _ (fun a ha => ?_)) hM2 (by rw [List.length_append]; simp; omega)
  rcases List.mem_append.1 ha with h1 | h1
  · have := zN_sb zs l a h1; omega
  · have := zN_at zs (l + 1) k a h1; omega
theorem at_yes {zs : List Int} {M k c : Nat} {out : List Int} (h : At zs M k c out) (hz : zs.getD k 0 = (M : Int)) : At zs M (k + 1) (c + 1) (out.set k ((c : Nat) : Int)) := by
  have e : sbL zs (M - 1) ++ atL zs M (k + 1) = (sbL zs (M - 1) ++ atL zs M k) ++ [(k : Int)] := by rw [atL_yes zs M k hz, List.append_assoc]
  have hzn : zN zs (k : Int) = M := by unfold zN; rw [Int.toNat_natCast, hz]; simp
  obtain ⟨s1, s2⟩ := cv_snoc zs (sbL zs (M - 1) ++ atL zs M k) (k : Int) M hzn
  refine ⟨by rw [e, s1, h.c], ?_⟩
  rw [e, s2, h.c, h.out]
  simp
theorem at_no {zs : List Int} {M k c : Nat} {out : List Int} (h : At zs M k c out) (hz : ¬ zs.getD k 0 = (M : Int)) : At zs M (k + 1) c out := by
  refine ⟨?_, ?_⟩
  · rw [atL_no zs M k hz]; exact h.c
  · rw [atL_no zs M k hz]; exact h.out
theorem at_first (zs : List Int) : cv zs (sbL zs 0) 0 = 0 ∧ (crun zs (sbL zs 0)).2.2 = List.replicate zs.length 0 := ⟨cv_nil zs, rfl⟩
theorem at_start {zs : List Int} {M c : Nat} {out : List Int} (hM : 1 ≤ M) (hc : cv zs (sbL zs (M - 1)) (M - 1) = c) (ho : (crun zs (sbL zs (M - 1))).2.2 = out) : At zs M 0 (c * 2) out := by
  obtain ⟨l, rfl⟩ : ∃ l, M = l + 1 := ⟨M - 1, by omega⟩
  simp only [Nat.add_sub_cancel] at hc ho
  refine ⟨?_, ?_⟩
  · rw [atL_zero, List.append_nil, Nat.add_sub_cancel, cv_double zs _ l (cr_ln zs _ _ (zN_sb zs l)), hc]
  · rw [atL_zero, List.append_nil, Nat.add_sub_cancel]; exact ho
theorem at_end {zs : List Int} {M c : Nat} {out : List Int} (hM : 1 ≤ M) (h : At zs M zs.length c out) : cv zs (sbL zs M) M = c ∧ (crun zs (sbL zs M)).2.2 = out := by
  obtain ⟨l, rfl⟩ : ∃ l, M = l + 1 := ⟨M - 1, by omega⟩
  have e : sbL zs (l + 1) = sbL zs (l + 1 - 1) ++ atL zs (l + 1) zs.length := rfl
  rw [e]
  exact ⟨h.c, h.out⟩
/-- The model's bits at X; their row lies from block U on. -/
def SJ (w : World) (X U n V : Nat) : Prop := ∃ v, w.heap[X]? = some (.cells #[v, .int .i64 n] 37 (0, 0)) ∧ OwnV w U v (enc n V) ∧ V < 2 ^ n ∧ U ≤ w.heap.size
theorem SJ.put {w : World} {X U n V : Nat} (h : SJ w X U n V) (b : Nat) (hb : b ≤ 1) (hn : n ≤ 4096) :
    Calls Tryz.prog 24 #[.pointer (some ⟨X, 0, none⟩), .int .i64 (b : Nat), .int .i64 1] w fun e w' => e = .returned (.tuple #[]) ∧ SJ w' X U (n + 1) (V + b * 2 ^ n) ∧ Only (fun k => k = X ∨ U ≤ k) w w' := by
  obtain ⟨v, hR, hv, hV, hU⟩ := h
  refine (l1put_any X U v n V (b : Nat) 1 w hR hv hV hU (by omega) (by omega) (by omega) (by omega) (by omega)).mono ?_
  rintro e w' ⟨rfl, v', hR', hv', ho, _⟩
  have e1 : ((b : Nat) : Int).toNat % 2 ^ (1 : Int).toNat = b := by
    rw [Int.toNat_natCast]
    exact Nat.mod_eq_of_lt (by simp; omega)
  rw [e1] at hv'
  have hon : Only (fun k => k = X ∨ U ≤ k) w w' := ho.mono (fun k _ hk => by
    rcases hk with hk | hk
    · exact .inl hk
    · exact .inr (hv.blk hk))
  exact ⟨rfl, ⟨v', by simpa using hR', by simpa using hv', put_lt n V 1 b hV (by omega), Nat.le_trans hU hon.size⟩, hon⟩
theorem crun_rng2 (ls : List Int) (hl : ls.length ≤ 80) : ∀ z ∈ (crun ls (sbL ls 12)).2.2, 0 ≤ z ∧ z ≤ 8192000 := by
  have hsl : (sbL ls 12).length ≤ 2000 := by have := sbL_len ls 12; omega
  have key : ∀ t, t ≤ (sbL ls 12).length → ∀ z ∈ (crun ls ((sbL ls 12).take t)).2.2, 0 ≤ z ∧ z ≤ 8192000 := by
    intro t
    induction t with
    | zero => intro _ z hz; simp [crun_nil] at hz; omega
    | succ t ih =>
      intro ht z hz
      rw [take_snoc _ t (by omega), crun_snoc] at hz
      simp only [cst] at hz
      rcases List.mem_or_eq_of_mem_set hz with hz | rfl
      · exact ih (by omega) z hz
      · obtain ⟨b1, b2⟩ := cr_bound ls (sbL ls 12) (asc_sb ls 12) t (by omega)
        have b3 := (cr_step _ _ _ t (b2 (by omega)) b1).1
        have b4 := zN_sb ls 12 _ (getD_mem (zs := sbL ls 12) (k := t) (by omega))
        have b5 : 2 ^ zN ls ((sbL ls 12).getD t 0) ≤ 2 ^ 12 := Nat.pow_le_pow_right (by omega) b4
        have b6 : t * 2 ^ zN ls ((sbL ls 12).getD t 0) ≤ 2000 * 2 ^ 12 := Nat.mul_le_mul (by omega) b5
        omega
  intro z hz
  exact key _ (Nat.le_refl _) z (by rw [List.take_length]; exact hz)
theorem bit_i64 (c k : Nat) (hc : c ≤ 8192000) : bits .and .i64 ((c : Int) / 2 ^ k) 1 = ((c / 2 ^ k % 2 : Nat) : Int) := by
  have e : ((c : Int) / 2 ^ k) = ((c / 2 ^ k : Nat) : Int) := by simp
  have hle : c / 2 ^ k ≤ c := Nat.div_le_self _ _
  have h1 := i64_and_nat (c / 2 ^ k) 1 (by omega) (by omega)
  rw [show ((1 : Nat) : Int) = 1 from rfl, nat_mask1] at h1
  rw [e, h1]
theorem rvp_next (V c L j n : Nat) : V + rvp c L j * 2 ^ n + (c / 2 ^ (L - 1 - j) % 2) * 2 ^ (n + j) = V + rvp c L (j + 1) * 2 ^ n := by
  simp only [rvp]
  rw [Nat.add_mul, Nat.pow_add]
  have e : c / 2 ^ (L - 1 - j) % 2 * (2 ^ n * 2 ^ j) = c / 2 ^ (L - 1 - j) % 2 * 2 ^ j * 2 ^ n := by rw [Nat.mul_comm (2 ^ n), ← Nat.mul_assoc]
  omega
theorem shl_fact (nx ln c : Nat) (z : Int) (hz : (ln : Int) ≤ z) (hc : c = nx * 2 ^ (z.toNat - ln)) (hb : c ≤ 8192000) : wrap64 ((nx : Int) * 2 ^ (z.toNat - ln)) = ((c : Nat) : Int) := by
  rw [show ((nx : Int) * 2 ^ (z.toNat - ln)) = ((nx * 2 ^ (z.toNat - ln) : Nat) : Int) from by simp, ← hc]
  exact IntWalk.wrap64_in _ (by omega)

set_option maxHeartbeats 3200000 in
theorem codesOf_any (a : Option Addr) (cap : Nat) (zs : List Int) (w : World) (hb : Ins w a zs) (hn : zs.length ≤ 80) (hok : ∀ z ∈ zs, 0 ≤ z ∧ z ≤ 12) :
    Calls Tryz.prog 79 #[.slice a zs.length cap] w fun e w' =>
      e = .returned (.slice (some ⟨w.heap.size, 0, none⟩) zs.length zs.length) ∧ OwI w' w.heap.size w.heap.size zs.length (crun zs (sbL zs 12)).2.2 ∧ Below w.heap.size w w' := by
  obtain ⟨i0, hi, hz0, hz1, hz2⟩ := info_parts Tryz.infoI64
  have HSY : Hid (∀ w, Ins w a zs → Calls Tryz.prog 91 #[.slice a zs.length cap] w fun e w' => ∃ a' cp, e = .returned (.slice a' (sbL zs 12).length cp) ∧ MinI w' w.heap.size w'.heap.size a' cp (sbL zs 12) ∧ Below w.heap.size w w') := fun w h => syms_any a cap zs w h hn
  have hodl : (sbL zs 12).length ≤ 2000 := by have := sbL_len zs 12; omega
  have HMEM : Hid _ := sbL_mem zs 12
  have HBD : Hid _ := cr_bound zs (sbL zs 12) (asc_sb zs 12)
  have HCL : Hid _ := fun t => crun_len zs ((sbL zs 12).take t)
  have HST : Hid (∀ t, t < (sbL zs 12).length → crun zs ((sbL zs 12).take (t + 1)) = cst zs (crun zs ((sbL zs 12).take t)) ((sbL zs 12).getD t 0)) := fun t ht => by rw [take_snoc _ t ht, crun_snoc]
  have HC0 : Hid (crun zs ((sbL zs 12).take 0) = (0, 0, List.replicate zs.length 0)) := rfl
  have HCE : Hid (crun zs ((sbL zs 12).take (sbL zs 12).length) = crun zs (sbL zs 12)) := by unfold Hid; rw [List.take_length]
  generalize sbL zs 12 = od at *
  generalize hlen : zs.length = n at *
  have HL : Hid (zs.length = n) := hlen
  clear hlen hok
  generalize hN : od.length = N at *
  have HN : Hid (od.length = N) := hN
  clear hN
  go_enter Tryz.func79, Tryz.ntmps79
  go_wp2_with (at_make; refine wpList_make_full _ rfl _ _ 35 rfl w.heap.size 3 i0 (.int .i64 0) 1 Tryz.underlying35 hi hz0 hz1 .i64 .i64 _ _ n rfl rfl rfl rfl (by rw [hz2]; omega) (by unfold maxLen; omega) (Nat.le_refl _) ?_; intro w1 hown hgrow)
  have h0 : OwI w1 w.heap.size w.heap.size n (List.replicate n 0) := by
    refine ⟨?_, by intro z hz; simp at hz; omega⟩
    rw [made_zeroI] at hown
    simpa using hown
  have hbw : Below w.heap.size w w1 := (Below.refl _ _).grown hgrow (Nat.le_refl _) (by intro k hk; cases hk)
  have H0 : Hid (OwI w1 w.heap.size w.heap.size n (List.replicate n 0)) := h0
  clear h0 hown hgrow hi hz0 hz1 hz2
  refine (HSY.out _ (hb.below hbw (Nat.le_refl _))).mono ?_
  rintro e w2 ⟨ao, co, rfl, hmo, hb2⟩
  have hlt0 := H0.out.lt.2
  have HR2 : Hid (OwI w2 w.heap.size w.heap.size n (crun zs (od.take 0)).2.2) := by rw [HC0.out]; exact H0.out.below hb2 (Nat.le_refl _)
  have hbw2 : Below w.heap.size w w2 := hbw.trans (hb2.mono hbw.size)
  have HMO : Hid (MinI w2 w1.heap.size w2.heap.size ao co od) := hmo
  clear hmo hb2 H0 hbw HSY
  generalize w1.heap.size = U1 at *
  generalize hU2 : w2.heap.size = U2 at *
  clear hU2
  go_wp2
  go_loopw [4, 5, 14] (fun x l i wr => ∃ t : Nat, t ≤ N ∧ i = .int .i64 t ∧ x = .int .i64 ((crun zs (od.take t)).1 : Nat) ∧ l = .int .i64 ((crun zs (od.take t)).2.1 : Nat) ∧ OwI wr w.heap.size w.heap.size n (crun zs (od.take t)).2.2 ∧ MinI wr U1 U2 ao co od ∧ Below w.heap.size w wr) (fun _ _ i _ => N - (intOf i).toNat)
  case atStart => exact ⟨0, Nat.zero_le _, rfl, rfl, rfl, HR2.out, HMO.out, hbw2⟩
  case round =>
    clear HR2 HMO hbw2
    obtain ⟨t, ht, rfl, rfl, rfl, hown, hmo, hbel⟩ := hrel
    have HO : Hid (OwI wr w.heap.size w.heap.size n (crun zs (od.take t)).2.2) := hown
    have HM : Hid (MinI wr U1 U2 ao co od) := hmo
    clear hown hmo
    by_cases hlt : t < N
    · obtain ⟨b1, o1, rfl, hb1, hc1⟩ := HM.out.byt.len_pos t (by rw [HN.out]; exact hlt)
      have hs1 := hc1 t (by rw [HN.out]; exact hlt)
      obtain ⟨sn, hse, hsn, hz1, hz2⟩ := HMEM.out _ (getD_mem (k := t) (by rw [HN.out]; exact hlt))
      obtain ⟨B1, B2⟩ := HBD.out t (by omega)
      have B2 := B2 hlt
      have HS := HST.out t hlt
      have hcl := HCL.out t
      rw [hse] at hs1 B2 HS
      obtain ⟨b2, o2, rfl, hb2, hc2⟩ := (hb.below hbel (Nat.le_refl _)).len_pos sn (by rw [HL.out]; exact hsn)
      have hs2 := hc2 sn (by rw [HL.out]; exact hsn)
      clear hc1 hc2 hse
      simp only [cst, zN, Int.toNat_natCast] at B2 HS
      generalize hzz : zs.getD sn 0 = z at *
      generalize crun zs (od.take t) = st at *
      obtain ⟨nx, ln, out⟩ := st
      simp only at *
      have b3 := (cr_step nx ln z.toNat t B2 B1).1
      have b5 : 2 ^ z.toNat ≤ 2 ^ 12 := Nat.pow_le_pow_right (by omega) (by omega)
      have b6 : t * 2 ^ z.toNat ≤ 2000 * 2 ^ 12 := Nat.mul_le_mul (by omega) b5
      have hcb : nx * 2 ^ (z.toNat - ln) ≤ 8192000 := by omega
      generalize hcc : nx * 2 ^ (z.toNat - ln) = c at *
      have HSH : Hid (wrap64 ((nx : Int) * 2 ^ (z.toNat - ln)) = ((c : Nat) : Int)) := shl_fact nx ln c z (by omega) hcc.symm hcb
      have hlz : (ln : Int) ≤ z := by omega
      have hlnb : ln ≤ 12 := by omega
      have hU : ∀ k, U1 ≤ k → k ≠ w.heap.size := fun k hk => by omega
      have hnb : nx ≤ 8192000 := by
        have h2 : nx ≤ nx * 2 ^ (z.toNat - ln) := Nat.le_mul_of_pos_right _ (Nat.pow_pos (by decide))
        rw [hcc] at h2
        exact Nat.le_trans h2 hcb
      clear B1 B2 b3 b5 b6 hcc
      have HO2 : Hid (OwI wr w.heap.size w.heap.size n out) := HO.out
      clear HO
      have hcl2 : out.length = n := hcl
      clear hcl
      have hdst := HO2.out.cell sn (by rw [hcl2]; exact hsn)
      have hfz := HO2.out.frozen sn
      have hcr : -9223372036854775808 ≤ ((c : Nat) : Int) ∧ ((c : Nat) : Int) ≤ 9223372036854775807 := by omega
      have R := HO2.out.store sn ((c : Nat) : Int) hcr
      have HR : Hid (OwI (wr.setCell ⟨w.heap.size, sn, none⟩ (.int .i64 (c : Nat))) w.heap.size w.heap.size n (crun zs (od.take (t + 1))).2.2) := by rw [HS]; exact R
      have HB : Hid (Below w.heap.size w (wr.setCell ⟨w.heap.size, sn, none⟩ (.int .i64 (c : Nat)))) := hbel.setCell (p := ⟨w.heap.size, sn, none⟩) (Nat.le_refl _) _
      have HM2 : Hid (MinI (wr.setCell ⟨w.heap.size, sn, none⟩ (.int .i64 (c : Nat))) U1 U2 (some ⟨b1, o1, none⟩) co od) := HM.out.only (Only.setCell (Only.refl (fun b => b = w.heap.size) wr) (p := ⟨w.heap.size, sn, none⟩) (.inl rfl) _) (fun k h1 _ => hU k h1)
      have HS' : Hid _ := HS
      clear R HS hU HO2 HM hbel hcl2
      generalize out.getD sn 0 = old at *
      go_wp2
      go_roundw
      case rel => exact ⟨t + 1, by omega, by go_num, by rw [HSH.out, HS'.out]; show Value.int .i64 (wrap64 ((c : Int) + 1)) = Value.int .i64 ((c + 1 : Nat) : Int); rw [IntWalk.wrap64_in _ (by omega)]; simp, by rw [HS'.out]; go_num, by rw [HSH.out]; simpa using HR.out, by rw [HSH.out]; simpa using HM2.out, by rw [HSH.out]; simpa using HB.out⟩
      case measure => simp [intOf]; omega
    · have hkn : t = N := by omega
      subst hkn
      rw [HCE.out]
      have HA : Hid (OwI wr w.heap.size w.heap.size n (crun zs od).2.2) := by rw [← HCE.out]; exact HO.out
      clear HO HM
      go_wp2
      go_ret
      exact ⟨rfl, HA.out, hbel⟩
theorem WI.cells {w : World} {B R n V : Nat} (h : WI w B R n V) : ∃ a' cp, w.cell? ⟨R, 0, none⟩ = some (.slice a' (enc n V).length cp) ∧ w.cell? ⟨R, 1, none⟩ = some (.int .i64 n) ∧ Mine w B w.heap.size a' cp (enc n V) := by
  obtain ⟨v, hR, hv, _⟩ := h
  obtain ⟨a', cp, rfl, hm⟩ := hv.mine
  exact ⟨a', cp, cellR (j := 0) hR rfl, cellR (j := 1) hR rfl, hm⟩
theorem SI.cells {w : World} {B R n V : Nat} (h : SI w B R n V) : ∃ a' cp, w.cell? ⟨R, 0, none⟩ = some (.slice a' (enc n V).length cp) ∧ w.cell? ⟨R, 1, none⟩ = some (.int .i64 n) ∧ Mine w B w.heap.size a' cp (enc n V) := by
  obtain ⟨v, hR, hv, _⟩ := h
  obtain ⟨a', cp, rfl, hm⟩ := hv.mine
  exact ⟨a', cp, cellR (j := 0) hR rfl, cellR (j := 1) hR rfl, hm⟩

theorem mine_out {w3 : World} {B C g : Nat} {a' : Option Addr} {cp : Nat} {ys : List Int} (v0 v1 : Value) (hm : Mine w3 C w3.heap.size a' cp ys) (hg : g < C) (hB : B ≤ g) :
    Mine ((w3.setCell ⟨g, 0, none⟩ v0).setCell ⟨g, 1, none⟩ v1) B ((w3.setCell ⟨g, 0, none⟩ v0).setCell ⟨g, 1, none⟩ v1).heap.size a' cp ys := by
  have hO3 : Only (fun b => b = g) w3 ((w3.setCell ⟨g, 0, none⟩ v0).setCell ⟨g, 1, none⟩ v1) :=
    Only.setCell (Only.setCell (Only.refl (fun b => b = g) w3) (p := ⟨g, 0, none⟩) (.inl rfl) _) (p := ⟨g, 1, none⟩) (.inl rfl) _
  exact ((hm.only hO3 (fun b h1 _ => by omega)).mono (by omega) (by simp [World.setCell]))
/-- What a call keeps of the block of its answer. -/
structure Ans (w W : World) : Prop where
  r0 : W.cell? ⟨w.heap.size, 0, none⟩ = some (.slice none 0 0)
  r1 : W.cell? ⟨w.heap.size, 1, none⟩ = some (.int .i64 0)
  f0 : W.frozen? ⟨w.heap.size, 0, none⟩ = false
  f1 : W.frozen? ⟨w.heap.size, 1, none⟩ = false
  lt : w.heap.size < W.heap.size
  bel : Below w.heap.size w W
theorem Ans.new (w : World) : Ans w (w.alloc (Obj.cells #[Value.slice none 0 0, Value.int IntKind.i64 0] 37)) := ⟨by simp, by simp, by simp, by simp, by simp, (Below.refl _ _).alloc (Nat.le_refl _) _⟩
theorem Ans.step {w W W' : World} {B : Nat} (h : Ans w W) (hb : Below B W W') (hB : w.heap.size < B) : Ans w W' :=
  ⟨keep hb hB h.r0, keep hb hB h.r1, (hb.frozen (p := ⟨w.heap.size, 0, none⟩) hB).trans h.f0, (hb.frozen (p := ⟨w.heap.size, 1, none⟩) hB).trans h.f1, Nat.lt_of_lt_of_le h.lt hb.size, h.bel.trans (hb.mono (Nat.le_of_lt hB))⟩

theorem lensB_okH {zs : List Int} (h : lensB zs = true) : 1 ≤ zs.length ∧ zs.length ≤ 80 ∧ ∀ z ∈ zs, 0 ≤ z ∧ z ≤ 12 := by
  simp only [lensB, decide_eq_true_eq] at h
  exact ⟨h.1, h.2.1, h.2.2.1⟩
/-- Each symbol of the text has a code. -/
def coded (ls ts : List Int) : Prop := ∀ k, k < ts.length → ls.getD (ts.getD k 0).toNat 0 ≠ 0
abbrev csOf (ls : List Int) : List Int := (crun ls (sbL ls 12)).2.2

/-- The sentinel of a symbol without a code. -/
structure SentC (w : World) : Prop where
  s0 : Sent w 4
  hG : 4 < w.heap.size
theorem SentC.below {w w' : World} (h : SentC w) (hb : Below w.heap.size w w') : SentC w' := ⟨h.s0.below hb h.hG, Nat.lt_of_lt_of_le h.hG hb.size⟩

set_option maxRecDepth 20000 in
set_option maxHeartbeats 8000000 in
/-- The writer has n0 bits already. -/
theorem putCodes_any (R B n0 V0 : Nat) (a : Option Addr) (ca : Nat) (ls : List Int) (b : Option Addr) (cb : Nat) (ts : List Int) (w0 w : World) (hw : WI w B R n0 V0) (ha : Ins w0 a ls) (hb : Ins w0 b ts) (hB : w0.heap.size = B) (hbel : Below B w0 w) (hlb : lensB ls = true) (htl : ts.length ≤ 300) (hn0 : n0 + ts.length * 12 ≤ 4096) (hts : ∀ k, k < ts.length → 0 ≤ ts.getD k 0 ∧ ts.getD k 0 < ls.length) (hS : SentC w0) :
    Calls Tryz.prog 61 #[.pointer (some ⟨R, 0, none⟩), .slice a ls.length ca, .slice b ts.length cb] w fun e w' => Below B w0 w' ∧
      (coded ls ts → e = .returned .nilIface ∧ WI w' B R (n0 + hN ls ts ts.length) (V0 + hV ls (csOf ls) ts ts.length * 2 ^ n0)) ∧ (¬ coded ls ts → ∃ T' y, e = .returned (.iface T' y)) := by
  obtain ⟨hn1, hn2, hok⟩ := lensB_okH hlb
  have HCO := codesOf_any a ca ls w (ha.below hbel (by rw [hB]; exact Nat.le_refl _)) hn2 hok
  have HNL : Hid (∀ k, hN ls ts k ≤ 12 * k) := fun k => hN_le (ts := ts) hok k
  have HCL : Hid ((crun ls (sbL ls 12)).2.2.length = ls.length ∧ ∀ z ∈ (crun ls (sbL ls 12)).2.2, 0 ≤ z ∧ z ≤ 8192000) := ⟨crun_len ls (sbL ls 12), crun_rng2 ls hn2⟩
  have HP : Hid (Ins w0 a ls ∧ Ins w0 b ts ∧ (∀ k, k < ts.length → 0 ≤ ts.getD k 0 ∧ ts.getD k 0 < ls.length) ∧ (∀ k, k < ls.length → 0 ≤ ls.getD k 0 ∧ ls.getD k 0 ≤ 12) ∧ SentC w0 ∧ w0.heap.size = B) := ⟨ha, hb, hts, fun k hk => hok _ (getD_mem hk), hS, hB⟩
  have HW : Hid (WI w B R (n0 + 0) (V0 + 0 * 2 ^ n0) ∧ Below B w0 w) := ⟨by simpa using hw, hbel⟩
  have hRlt : R < w.heap.size := by obtain ⟨_, h, _⟩ := hw; exact (Array.getElem?_eq_some_iff.1 h).1
  have hBw : B ≤ w.heap.size := by obtain ⟨_, _, _, _, _, h⟩ := hw; exact h
  clear hw ha hb hB hbel hlb hts hS hok
  go_enter Tryz.func61, Tryz.ntmps61
  go_wp2_with fail
  refine HCO.mono ?_
  clear HCO
  rintro e w1 ⟨rfl, hoc, hb1⟩
  obtain ⟨cur, hcur, hback⟩ := OwI.blockG (w' := w1) hoc
  have HBK : Hid (∀ W : World, W.heap[w.heap.size]? = some (.cells cur 3 (0, 0)) → OwI W w.heap.size w.heap.size ls.length (crun ls (sbL ls 12)).2.2) := fun W hW => by
    obtain ⟨c2, h2, h3⟩ := OwI.blockG (w' := W) hoc
    rw [hcur] at h2
    simp at h2
    subst h2
    exact h3 hW
  have HW1 : Hid (WI w1 B R (n0 + 0) (V0 + 0 * 2 ^ n0) ∧ Below B w0 w1 ∧ w1.heap[w.heap.size]? = some (.cells cur 3 (0, 0))) := ⟨HW.out.1.stay hb1, HW.out.2.trans (hb1.mono hBw), hcur⟩
  have hgR : w.heap.size ≠ R := by omega
  clear hoc hb1 hback hcur HW hRlt
  generalize hcs0 : (crun ls (sbL ls 12)).2.2 = cs at *
  have HCSE : Hid (csOf ls = cs ∧ True) := ⟨hcs0, trivial⟩
  clear hcs0
  generalize w.heap.size = gc at *
  generalize hTn : ts.length = n at *
  generalize hLn : ls.length = L0 at *
  have HLn : Hid (ts.length = n ∧ ls.length = L0) := ⟨hTn, hLn⟩
  clear hTn hLn
  go_wp2
  go_loopw [15] (fun i wr => ∃ k : Nat, k ≤ n ∧ i = .int .i64 k ∧ WI wr B R (n0 + hN ls ts k) (V0 + hV ls cs ts k * 2 ^ n0) ∧ wr.heap[gc]? = some (.cells cur 3 (0, 0)) ∧ Below B w0 wr ∧ ∀ j, j < k → ls.getD (ts.getD j 0).toNat 0 ≠ 0) (fun i _ => n - (intOf i).toNat)
  case atStart => exact ⟨0, Nat.zero_le _, rfl, HW1.out.1, HW1.out.2.2, HW1.out.2.1, fun j hj => by omega⟩
  case round =>
    clear HW1
    obtain ⟨k, hk, rfl, hwi, hgb, hbel, hnz⟩ := hrel
    have HS : Hid (WI wr B R (n0 + hN ls ts k) (V0 + hV ls cs ts k * 2 ^ n0) ∧ wr.heap[gc]? = some (.cells cur 3 (0, 0)) ∧ Below B w0 wr ∧ (∀ j, j < k → ls.getD (ts.getD j 0).toNat 0 ≠ 0) ∧ hN ls ts k ≤ 12 * k) := ⟨hwi, hgb, hbel, hnz, HNL.out k⟩
    by_cases hlt : k < n
    · obtain ⟨b1, o1, rfl, hb1, hc1⟩ := (HP.out.2.1.below hbel (by rw [HP.out.2.2.2.2.2]; exact Nat.le_refl _)).len_pos k (by rw [HLn.out.1]; exact hlt)
      have hs0 := hc1 k (by rw [HLn.out.1]; exact hlt)
      have hsr := HP.out.2.2.1 k hlt
      obtain ⟨sn, hsn⟩ := Int.eq_ofNat_of_zero_le hsr.1
      have hsl : sn < L0 := by omega
      obtain ⟨b2, o2, rfl, hb2, hc2⟩ := (HP.out.1.below hbel (by rw [HP.out.2.2.2.2.2]; exact Nat.le_refl _)).len_pos sn (by rw [HLn.out.2]; exact hsl)
      have hl0 := hc2 sn (by rw [HLn.out.2]; exact hsl)
      have hLr := HP.out.2.2.2.1 sn hsl
      obtain ⟨L, hLe⟩ := Int.eq_ofNat_of_zero_le hLr.1
      rw [hsn] at hs0
      rw [hLe] at hl0 hLr
      have HST : Hid (hN ls ts (k + 1) = hN ls ts k + L ∧ hV ls cs ts (k + 1) = hV ls cs ts k + rvp (cs.getD sn 0).toNat L L * 2 ^ hN ls ts k ∧ ls.getD (ts.getD k 0).toNat 0 = (L : Int)) := by
        refine ⟨?_, ?_, ?_⟩
        · rw [hN, hsn]; unfold zN; rw [Int.toNat_natCast, hLe, Int.toNat_natCast]
        · rw [hV, hsn]; unfold zN; rw [Int.toNat_natCast, hLe, Int.toNat_natCast]
        · rw [hsn, Int.toNat_natCast, hLe]
      have hsn80 : (sn : Int) < (L0 : Int) := by omega
      have hsce := (HP.out.2.2.2.2.1.s0.below hbel (by have := HP.out.2.2.2.2.1.hG; have := HP.out.2.2.2.2.2; omega))
      obtain ⟨T', y, hce⟩ := hsce
      have hcr := HCL.out.2 _ (getD_mem (zs := cs) (k := sn) (by rw [HCL.out.1]; exact hsl))
      have hcc : wr.cell? ⟨gc, sn, none⟩ = some (.int .i64 (cs.getD sn 0)) := (HBK.out wr hgb).cell sn (by rw [HCL.out.1]; exact hsl)
      obtain ⟨c, hce2⟩ := Int.eq_ofNat_of_zero_le hcr.1
      rw [hce2] at hcc hcr
      rw [hce2, Int.toNat_natCast] at HST
      clear hc1 hc2 hwi hgb hbel hnz hsr hsn hLe hce2
      by_cases hL0 : L = 0
      · have HNC : Hid (¬ coded ls ts ∧ Below B w0 wr) := ⟨fun h => h k (by rw [HLn.out.1]; exact hlt) (by rw [HST.out.2.2, hL0]; rfl), HS.out.2.2.1⟩
        subst hL0
        clear HS HST
        go_wp2
        go_ret
        exact ⟨HNC.out.2, fun h => absurd h HNC.out.1, fun _ => ⟨T', y, rfl⟩⟩
      · have HNZ2 : Hid (∀ j, j < k + 1 → ls.getD (ts.getD j 0).toNat 0 ≠ 0) := fun j hj => by
          by_cases hjk : j = k
          · subst hjk; rw [HST.out.2.2]; omega
          · exact HS.out.2.2.2.1 j (by omega)
        have HPU : Hid (∀ W : World, WI W B R (n0 + hN ls ts k) (V0 + hV ls cs ts k * 2 ^ n0) → W.heap[gc]? = some (.cells cur 3 (0, 0)) → Calls Tryz.prog 80 #[.pointer (some ⟨R, 0, none⟩), .int .i64 (c : Nat), .int .i64 (L : Nat)] W fun e w' => e = .returned .nilIface ∧ WI w' B R (n0 + hN ls ts (k + 1)) (V0 + hV ls cs ts (k + 1) * 2 ^ n0) ∧ Below B W w' ∧ w'.heap[gc]? = some (.cells cur 3 (0, 0))) := by
          intro W hW hgW
          have := putCode_yesG W B R _ _ c L gc cur 3 hW hgW (by decide) hgR (by omega) (by omega) (by omega) (by have := HS.out.2.2.2.2; omega)
          rw [Nat.add_assoc, ← HST.out.1, put_at, ← HST.out.2.1] at this
          exact this
        have hne0 : ((L : Int) == 0) = false := by simp; omega
        clear hce
        go_wp2
        go_region_with (go_at_call 80; refine (HPU.out _ (by exact HS.out.1) (by exact HS.out.2.1)).mono ?_; rintro e w6 ⟨rfl, hw6, hb6, hg6⟩; have HW6 : Hid (WI w6 B R (n0 + hN ls ts (k + 1)) (V0 + hV ls cs ts (k + 1) * 2 ^ n0) ∧ w6.heap[gc]? = some (.cells cur 3 (0, 0)) ∧ Below B w0 w6) := ⟨hw6, hg6, HS.out.2.2.1.trans (Below.drewS hb6)⟩; clear hw6 hb6 hg6)
        all_goals
          go_wp2
          go_roundw
          case rel => exact ⟨k + 1, by omega, by go_num, HW6.out.1, HW6.out.2.1, HW6.out.2.2, HNZ2.out⟩
          case measure => simp [intOf]; omega
    · have hkn : k = n := by omega
      subst hkn
      have HCD : Hid (coded ls ts) := fun j hj => hnz j (by rw [HLn.out.1] at hj; exact hj)
      clear hwi hgb hbel hnz
      go_wp2
      go_ret
      exact ⟨HS.out.2.2.1, fun _ => ⟨rfl, by rw [HCSE.out.1, HLn.out.1]; exact HS.out.1⟩, fun h => absurd HCD.out h⟩

end Go.Proofs.YtpancccomdchnaaGreatDoor
