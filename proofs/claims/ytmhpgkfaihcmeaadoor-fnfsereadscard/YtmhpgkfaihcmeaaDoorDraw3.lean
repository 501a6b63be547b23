/-
  A drawn text.
-/
import Derived.Test.YtmhpgkfaihcmeaaDoorINorm5
import Derived.Test.YtmhpgkfaihcmeaaDoorIApp
import Derived.Test.YtmhpgkfaihcmeaaDoorIList
namespace Go.Proofs.YtmhpgkfaihcmeaaDoor
open Go.RowKit
set_option linter.unusedVariables false

theorem cross {ci cp ck ni np nk : Int} (h1 : ci * np ≤ cp * ni) (h2 : cp * nk < ck * np) (hi : 0 ≤ ni) (hk : 0 ≤ nk) (hp : 0 < np) : ci * nk ≤ ck * ni := by
  have a1 : ci * np * nk ≤ cp * ni * nk := Int.mul_le_mul_of_nonneg_right h1 hk
  have a2 : cp * nk * ni ≤ ck * np * ni := Int.mul_le_mul_of_nonneg_right (Int.le_of_lt h2) hi
  have e1 : ci * np * nk = ci * nk * np := by rw [Int.mul_assoc, Int.mul_comm np nk, ← Int.mul_assoc]
  have e2 : cp * ni * nk = cp * nk * ni := by rw [Int.mul_assoc, Int.mul_comm ni nk, ← Int.mul_assoc]
  have e3 : ck * np * ni = ck * ni * np := by rw [Int.mul_assoc, Int.mul_comm np ni, ← Int.mul_assoc]
  rw [e1, e2] at a1
  rw [e3] at a2
  exact Int.le_of_mul_le_mul_right (Int.le_trans a1 a2) hp
theorem pick_max {cs ns : List Int} {j : Nat} (hf : Fair cs ns j) (k : Nat) (hk : k ≤ cs.length) : ∀ i, i < k → 0 < cs.getD i 0 → cs.getD i 0 * ns.getD (pick cs ns k).toNat 0 ≤ cs.getD (pick cs ns k).toNat 0 * ns.getD i 0 := by
  induction k with
  | zero => intro i hi; omega
  | succ k ih =>
    intro i hi hc
    by_cases c : ahead cs ns (pick cs ns k) k
    · rw [pick_yes c, Int.toNat_natCast]
      by_cases hik : i = k
      · subst hik; exact Int.le_refl _
      · rcases c.2 with c2 | c2
        · exact absurd (pick_some cs ns k i (by omega) hc) (by omega)
        · have hp := pick_some cs ns k i (by omega) hc
          have hr := pick_rng cs ns k
          have hpp := pick_pos cs ns k hp
          have h1 := ih (by omega) i (by omega) hc
          have np := (hf.2 (pick cs ns k).toNat (by omega)).1 hpp
          exact cross h1 c2 (hf.bnd i).1 (hf.bnd k).1 (by omega)
    · rw [pick_no c]
      by_cases hik : i = k
      · subst hik
        have hp : 0 ≤ pick cs ns i := by
          by_cases h0 : pick cs ns i < 0
          · exact absurd ⟨hc, .inl h0⟩ c
          · omega
        have : ¬ (cs.getD (pick cs ns i).toNat 0 * ns.getD i 0 < cs.getD i 0 * ns.getD (pick cs ns i).toNat 0) := fun h => c ⟨hc, .inr h⟩
        omega
      · exact ih (by omega) i (by omega) hc
def Mono (cs ns : List Int) : Prop := ∀ i k, i < cs.length → k < cs.length → cs.getD k 0 < cs.getD i 0 → ns.getD k 0 ≤ ns.getD i 0
theorem mono_all {cs : List Int} (hs : some1 cs) (h0 : ∀ i, i < cs.length → 0 ≤ cs.getD i 0) (j : Nat) : Mono cs (shares cs j) := by
  induction j with
  | zero =>
    intro i k hi hk h
    have e : ∀ q, q < cs.length → (shares cs 0).getD q 0 = one (cs.getD q 0) := fun q hq => by simp [shares, List.getD_eq_getElem?_getD, List.getElem?_eq_getElem hq]
    rw [e i hi, e k hk]
    have h2 := h0 k hk
    simp only [one]
    rw [if_pos (show 0 < cs.getD i 0 by omega)]
    split <;> omega
  | succ j ih =>
    have hf := fair_all hs j
    obtain ⟨p1, p2, p3⟩ := pick_in (ns := shares cs j) hs
    have hmax := pick_max hf cs.length (Nat.le_refl _)
    intro i k hi hk h
    show (give cs (shares cs j)).getD k 0 ≤ (give cs (shares cs j)).getD i 0
    unfold give bump
    generalize (pick cs (shares cs j) cs.length).toNat = p at *
    generalize shares cs j = ns at *
    have h1 := ih i k hi hk h
    by_cases hkp : k = p
    · subst hkp
      have hip : i ≠ k := fun e => by subst e; omega
      rw [getD_set_eq (by rw [hf.1]; exact hk), getD_set_ne hip]
      have h2 := hmax i hi (by have := h0 k hk; omega)
      have h3 := (hf.2 k hk).1 p3
      by_cases he : ns.getD k 0 = ns.getD i 0
      · rw [he] at h2 h3
        have := Int.le_of_mul_le_mul_right h2 (by omega)
        omega
      · omega
    · rw [getD_set_ne hkp]
      by_cases hip : i = p
      · subst hip
        rw [getD_set_eq (by rw [hf.1]; exact hi)]
        omega
      · rw [getD_set_ne hip]; exact h1
theorem sum_setN (cs : List Int) (i : Nat) (v : Int) (h : i < cs.length) : (cs.set i v).sum = cs.sum - cs.getD i 0 + v := by
  induction cs generalizing i with
  | nil => simp at h
  | cons c cs ih =>
    cases i with
    | zero => simp; omega
    | succ i =>
      have := ih i (by simpa using h)
      simp only [List.set_cons_succ, List.sum_cons, this]
      simp
      omega
theorem shares_sum {cs : List Int} (hs : some1 cs) (j : Nat) : (shares cs j).sum = sumF one cs + j := by
  induction j with
  | zero => simp [shares, sumF]
  | succ j ih =>
    obtain ⟨p1, p2, p3⟩ := pick_in (ns := shares cs j) hs
    show (give cs (shares cs j)).sum = _
    unfold give bump
    rw [sum_setN _ _ _ (by rw [(fair_all hs j).1]; exact p2), ih]
    omega
theorem shares_norm {cs : List Int} (hc : cntB cs = true) (hr : roomy cs) : normB (shares cs (rest cs)) = true := by
  have hs := some1_of hr.1
  have hf := fair_all hs (rest cs)
  have hb := cntB_bndN hc
  simp only [normB, decide_eq_true_eq]
  rw [hf.1]
  refine ⟨hb.1, hb.2, fun z hz => ?_, ?_⟩
  · have h1 := hf.rng z hz
    have h2 := hr.1
    unfold rest at h1
    omega
  · rw [shares_sum hs]
    have h1 := hr.1
    have h2 := hr.2
    unfold rest
    omega
end Go.Proofs.YtmhpgkfaihcmeaaDoor
namespace Go.Proofs.YtmhpgkfaihcmeaaDoor
open Go.RowKit
set_option linter.unusedVariables false

theorem sumF_le (zs : List Int) : sumF one zs ≤ zs.length := by
  have := (sumF_bnd one 1 one_bnd zs).2
  omega
theorem cnt_of {q : List Int} {n : Nat} (hl : q.length = n) (h1 : 1 ≤ n) (h2 : n ≤ 12) (hr : ∀ z ∈ q, 0 ≤ z ∧ z ≤ 1000) : cntB q = true := by
  simp only [cntB, decide_eq_true_eq]
  exact ⟨by omega, by omega, fun z hz => by have := hr z hz; omega⟩
theorem some_set {q : List Int} (h : 0 < q.length) : 1 ≤ sumF one (q.set 0 1) := by
  cases q with
  | nil => simp at h
  | cons z q =>
    have h1 := (sumF_bnd one 1 one_bnd q).1
    have e : sumF one ((z :: q).set 0 1) = 1 + sumF one q := by simp [sumF, one]
    rw [e]
    omega

set_option maxHeartbeats 1600000 in
theorem Dr.draw {w0 w : World} {B R : Nat} {a : Option Addr} {bs : List Int} {cap : Nat} (h : Dr w0 w B R a bs cap) :
    Calls Tryd.prog 37 #[.pointer (some ⟨R, 0, none⟩)] w fun e w' => ∃ (n g : Nat) (zs : List Int), e = .returned (.slice (some ⟨g, 0, none⟩) n n) ∧ zs.length = n ∧ 1 ≤ n ∧ n ≤ 12 ∧ normB zs = true ∧ OwI w' w.heap.size g n zs ∧ Dr w0 w' B R a bs cap ∧ Only (fun k => k = R) w w' := by
  have H : Hid (Dr w0 w B R a bs cap) := h
  have hRB := h.cur.lt
  clear h
  go_enter Tryd.func37, Tryd.ntmps37
  go_wp2_with fail
  refine H.out.counts.mono ?_
  rintro e w1 ⟨n, g, rfl, hn1, hn2, ⟨q, hrow, hql, hqr⟩, hd, ho⟩
  have HQ : Hid (OwI w1 w.heap.size g n q) := hrow
  have HQL : Hid (q.length = n) := hql
  have HQR : Hid (∀ z ∈ q, 0 ≤ z ∧ z ≤ 1000) := hqr
  have HD : Hid (Dr w0 w1 B R a bs cap) := hd
  have HO : Hid (Only (fun k => k = R) w w1) := ho
  have hg := hrow.lt
  have hs1 := ho.size
  have HSM := l2some_any (some ⟨g, 0, none⟩) n q w1 hrow.byt (by omega)
  rw [hql] at HSM
  have hsb := (sumF_bnd one 1 one_bnd q).1
  have hsl := sumF_le q
  clear hrow hql hqr hd ho H
  go_wp2_with fail
  refine HSM.mono ?_
  rintro e w2 ⟨rfl, rfl⟩
  clear HSM
  by_cases h0 : sumF one q = 0
  · have h0b : (sumF one q == 0) = true := by simpa using h0
    have hdst := HQ.out.cell 0 (by rw [HQL.out]; omega)
    have hfz := HQ.out.frozen 0
    have HQ3 : Hid (OwI (w2.setCell ⟨g, 0, none⟩ (.int .i64 1)) w.heap.size g n (q.set 0 1)) := HQ.out.store 0 1 (by omega)
    have HD3 : Hid (Dr w0 (w2.setCell ⟨g, 0, none⟩ (.int .i64 1)) B R a bs cap) := HD.out.other (S := fun b => b = g) (Only.setCell (Only.refl (fun b => b = g) w2) (p := ⟨g, 0, none⟩) (.inl rfl) _) (by omega) (fun b hb => by omega)
    have HO3 : Hid (Only (fun k => k = R) w (w2.setCell ⟨g, 0, none⟩ (.int .i64 1))) := Only.setCell (S := fun k => k = R) HO.out (p := ⟨g, 0, none⟩) (.inr hg.1) _
    have HQL3 : Hid ((q.set 0 1).length = n) := by unfold Hid; rw [List.length_set]; exact HQL.out
    have HQR3 : Hid (∀ z ∈ q.set 0 1, 0 ≤ z ∧ z ≤ 1000) := by
      intro z hz
      rcases List.mem_or_eq_of_mem_set hz with hz | rfl
      · exact HQR.out z hz
      · omega
    have HRM : Hid (roomy (q.set 0 1)) := ⟨some_set (by rw [HQL.out]; omega), by have := sumF_le (q.set 0 1); rw [HQL3.out] at this; omega⟩
    have HSZ3 : Hid ((w2.setCell ⟨g, 0, none⟩ (.int .i64 1)).heap.size = w2.heap.size) := by simp [Hid, World.setCell]
    generalize q.getD 0 0 = old at *
    generalize sumF one q = S at *
    clear hsb hsl h0 HQ HD HO HQL HQR
    generalize q.set 0 1 = p at *
    go_wp2_with fail
    clear hdst hfz
    generalize w2.setCell ⟨g, 0, none⟩ (.int .i64 1) = w3 at *
    have HN := l3norm_any (some ⟨g, 0, none⟩) n p w3 HQ3.out.byt (cnt_of HQL3.out hn1 hn2 HQR3.out) HRM.out
    rw [HQL3.out] at HN
    refine HN.mono ?_
    rintro e w4 ⟨rfl, ho4, hb4⟩
    have hf := fair_all (some1_of HRM.out.1) (rest p)
    have HA : Hid (OwI w4 w.heap.size w3.heap.size n (shares p (rest p))) := ho4.mono (by have := HSZ3.out; omega)
    have hon : Only (fun _ => False) w3 w4 := Only.ofBelow hb4 (Nat.le_refl _)
    have HD4 : Hid (Dr w0 w4 B R a bs cap) := HD3.out.other hon (by simp) (by simp)
    have HO4 : Hid (Only (fun k => k = R) w w4) := HO3.out.trans (hon.mono (by simp))
    have HNB : Hid (normB (shares p (rest p)) = true) := shares_norm (cnt_of HQL3.out hn1 hn2 HQR3.out) HRM.out
    have HNL : Hid ((shares p (rest p)).length = n) := hf.1.trans HQL3.out
    clear ho4 hb4 hf hon HN HD3 HO3 HQ3
    generalize w3.heap.size = g4 at *
    go_wp2
    go_ret
    exact ⟨n, g4, _, rfl, HNL.out, hn1, hn2, HNB.out, HA.out, HD4.out, HO4.out⟩
  · have h0b : (sumF one q == 0) = false := by simpa using h0
    have HRM : Hid (roomy q) := ⟨by omega, by rw [HQL.out] at hsl; omega⟩
    have HN := l3norm_any (some ⟨g, 0, none⟩) n q w2 HQ.out.byt (cnt_of HQL.out hn1 hn2 HQR.out) HRM.out
    rw [HQL.out] at HN
    generalize sumF one q = S at *
    clear hsb hsl h0
    go_wp2_with fail
    refine HN.mono ?_
    rintro e w4 ⟨rfl, ho4, hb4⟩
    have hf := fair_all (some1_of HRM.out.1) (rest q)
    have HA : Hid (OwI w4 w.heap.size w2.heap.size n (shares q (rest q))) := ho4.mono (by omega)
    have hon : Only (fun _ => False) w2 w4 := Only.ofBelow hb4 (Nat.le_refl _)
    have HD4 : Hid (Dr w0 w4 B R a bs cap) := HD.out.other hon (by simp) (by simp)
    have HO4 : Hid (Only (fun k => k = R) w w4) := HO.out.trans (hon.mono (by simp))
    have HNB : Hid (normB (shares q (rest q)) = true) := shares_norm (cnt_of HQL.out hn1 hn2 HQR.out) HRM.out
    have HNL : Hid ((shares q (rest q)).length = n) := hf.1.trans HQL.out
    clear ho4 hb4 hf hon HN HD HO HQ
    generalize w2.heap.size = g4 at *
    go_wp2
    go_ret
    exact ⟨n, g4, _, rfl, HNL.out, hn1, hn2, HNB.out, HA.out, HD4.out, HO4.out⟩

theorem mk_row {w : World} {B g n : Nat} (hown : w.ownsRow B 3 1 (.slice (some ⟨g, 0, none⟩) n n) n (madeCells (Value.int .i64 0).cells (n * 1)).toList) : OwI w B g n (List.replicate n 0) := by
  refine ⟨?_, by intro z hz; simp at hz; omega⟩
  rw [made_zeroI] at hown
  simpa using hown
theorem mk_cell {w : World} {B g n : Nat} (h : OwI w B g n (List.replicate n 0)) (i : Nat) (hi : i < n) : w.cell? ⟨g, i, none⟩ = some (.int .i64 0) := by
  rw [h.cell i (by simpa using hi)]
  simp [List.getD_eq_getElem?_getD, hi]

set_option maxHeartbeats 3200000 in
theorem Dr.bent {w0 w : World} {B R : Nat} {a : Option Addr} {bs : List Int} {cap : Nat} (h : Dr w0 w B R a bs cap) :
    Calls Tryd.prog 21 #[.pointer (some ⟨R, 0, none⟩)] w fun e w' => ∃ (v : Value) (l : List Int), e = .returned v ∧ OVI w' w.heap.size v l ∧ (1 ≤ l.length ∧ l.length ≤ 81) ∧ Dr w0 w' B R a bs cap ∧ Only (fun k => k = R) w w' := by
  obtain ⟨i0, hi, hz0, hz1, hz2⟩ := info_parts Tryd.infoI64
  have H : Hid (Dr w0 w B R a bs cap) := h
  have hRB := h.cur.lt
  clear h
  go_enter Tryd.func21, Tryd.ntmps21
  go_wp2_with fail
  refine H.out.draw.mono ?_
  rintro e w1 ⟨n, g, q, rfl, hql, hn1, hn2, hnb, hrow, hd, ho⟩
  have HQ : Hid (OwI w1 w.heap.size g n q) := hrow
  have HQL : Hid (q.length = n) := hql
  have HD : Hid (Dr w0 w1 B R a bs cap) := hd
  have HO : Hid (Only (fun k => k = R) w w1) := ho
  have hg := hrow.lt
  clear hrow hql hd ho H hnb
  go_wp2_with fail
  refine (HD.out.once 7 (by omega) (by omega)).mono ?_
  rintro e w2 ⟨⟨b, rfl⟩, hd2, ho2⟩
  have HQ2 : Hid (OwI w2 w.heap.size g n q) := HQ.out.only ho2 (by omega)
  have HD2 : Hid (Dr w0 w2 B R a bs cap) := hd2
  have HO2 : Hid (Only (fun k => k = R) w w2) := HO.out.trans ho2
  have hg2 := HQ2.out.lt
  clear hd2 ho2 HQ HD HO hg
  cases b
  · go_wp2
    go_ret
    refine ⟨_, q, rfl, ?_, by rw [HQL.out]; omega, HD2.out, HO2.out⟩
    have h1 := HQ2.out.1
    rw [HQL.out] at h1
    exact ⟨by rw [HQL.out]; exact h1, HQ2.out.2⟩
  · go_wp2_with fail
    refine (HD2.out.below 3 (by omega) (by omega)).mono ?_
    rintro e w3 ⟨⟨x, hx1, hx2, rfl⟩, hd3, ho3⟩
    have HQ3 : Hid (OwI w3 w.heap.size g n q) := HQ2.out.only ho3 (by omega)
    have HD3 : Hid (Dr w0 w3 B R a bs cap) := hd3
    have HO3 : Hid (Only (fun k => k = R) w w3) := HO2.out.trans ho3
    have hg3 := HQ3.out.lt
    have hR3 := hd3.cur.lt
    clear hd3 ho3 HQ2 HD2 HO2 hg2
    rcases (show x = 0 ∨ x = 1 ∨ x = 2 by omega) with rfl | rfl | rfl
    · have HIN : Hid (∀ T, Ins (w3.alloc (.cells #[.int .i64 (-1), .int .i64 0, .int .i64 64, .int .i64 65] T)) (some ⟨w3.heap.size, 0, none⟩) [-1, 0, 64, 65]) := fun T => by
        have := ins_newN w3 T [-1, 0, 64, 65] (by intro z hz; simp at hz; omega)
        simpa using this
      go_wp2_with fail
      have hoa : Only (fun _ => False) w3 (w3.alloc (Obj.cells #[.int .i64 (-1), .int .i64 0, .int .i64 64, .int .i64 65] 3)) := (Only.refl _ w3).alloc _
      refine ((HD3.out.other hoa (by simp) (by simp)).pick w3.heap.size 4 [-1, 0, 64, 65] (HIN.out _) (by omega) (by simp) (by simp)).mono ?_
      rintro e w5 ⟨⟨y, hy, rfl⟩, hd5, ho5⟩
      have hyr : -1 ≤ y ∧ y ≤ 65 := by simp at hy; omega
      have hr5 : OwI w5 w.heap.size g n q := (HQ3.out.only hoa (by simp)).only ho5 (by omega)
      have ho5' : Only (fun k => k = R) w w5 := (HO3.out.trans (hoa.mono (by simp))).trans ho5
      have hdst := hr5.cell 0 (by rw [HQL.out]; omega)
      have hfz := hr5.frozen 0
      have HR6 : Hid (OwI (w5.setCell ⟨g, 0, none⟩ (.int .i64 y)) w.heap.size g n (q.set 0 y)) := hr5.store 0 y (by omega)
      have HO6 : Hid (Only (fun k => k = R) w (w5.setCell ⟨g, 0, none⟩ (.int .i64 y))) := Only.setCell (S := fun k => k = R) ho5' (p := ⟨g, 0, none⟩) (.inr hg3.1) _
      have HD6 : Hid (Dr w0 (w5.setCell ⟨g, 0, none⟩ (.int .i64 y)) B R a bs cap) := hd5.other (S := fun b => b = g) (Only.setCell (Only.refl (fun b => b = g) w5) (p := ⟨g, 0, none⟩) (.inl rfl) _) (by omega) (fun b hb => by omega)
      clear hr5 ho5' ho5 hd5 hoa HIN HQ3 HD3 HO3 hy
      generalize q.getD 0 0 = old at *
      go_wp2
      go_ret
      have hl6 : (q.set 0 y).length = n := by rw [List.length_set]; exact HQL.out
      refine ⟨_, q.set 0 y, rfl, ?_, by rw [hl6]; omega, HD6.out, HO6.out⟩
      have h1 := HR6.out
      have h2 := h1.1
      rw [hl6] at h2
      exact ⟨by rw [hl6]; exact h2, h1.2⟩
    · go_wp2_with fail
      refine (HD3.out.below 3 (by omega) (by omega)).mono ?_
      rintro e w4 ⟨⟨y, hy1, hy2, rfl⟩, hd4, ho4⟩
      have hq4 : OwI w4 w.heap.size g n q := HQ3.out.only ho4 (by omega)
      have HOV : Hid (OVI w4 w.heap.size (.slice (some ⟨g, 0, none⟩) n n) q) := by
        have h2 := hq4.1
        rw [HQL.out] at h2
        exact ⟨by rw [HQL.out]; exact h2, hq4.2⟩
      have hu : w4.ownsRow w.heap.size 3 1 (.slice (some ⟨g, 0, none⟩) n n) n (q.map (Value.int .i64)) := by have := hq4.1; rw [HQL.out] at this; exact this
      have HD4 : Hid (Dr w0 w4 B R a bs cap) := hd4
      have HO4 : Hid (Only (fun k => k = R) w w4) := HO3.out.trans ho4
      have hz4 := HO4.out.size
      clear hd4 ho4 hq4 HQ3 HD3 HO3
      go_wp2_with (at_builtin; (refine wpList_append_lies _ rfl (.tmp 25) (.tmp 28) 23 rfl w.heap.size 3 i0 (.int .i64 0) 1 8 Tryd.underlying23 hi hz0 hz1 hz2 rfl (by decide) (.slice (some ⟨g, 0, none⟩) n n) n (q.map (Value.int .i64)) rfl (hu.alloc _) ⟨w4.heap.size, 0, none⟩ 1 1 [.int .i64 y] rfl rfl (by intro j y hj; match j, hj with | 0, hj => (simp at hj; subst hj; simp [Addr.add])) (by intro y hy; simp at hy; subst hy; rfl) (by omega) (by unfold maxLen; omega) (by omega) (by simp; omega) _ rfl ?_); intro g5 cap5 w5 hown hgrow hat hlt1)
      have HOV5 : Hid (OVI w5 w.heap.size (.slice (some ⟨g5, 0, none⟩) (n + 1) cap5) (q ++ [y])) := OVI.app HQL.out HOV.out.2 (by omega) hown
      have hon5 : Only (fun b => (Value.slice (some ⟨g, 0, none⟩) n n).ownBlock = some b) w4 w5 := Only.grown ((Only.refl _ w4).alloc _) hgrow (fun b hb => .inl hb)
      have HD5 : Hid (Dr w0 w5 B R a bs cap) := HD4.out.other hon5 (fun hh => by have := HOV.out.blk hh; omega) (fun b hh => by have := HOV.out.blk hh; omega)
      have HO5 : Hid (Only (fun k => k = R) w w5) := Only.grown (HO4.out.alloc _) hgrow (fun b hb => .inr (HOV.out.blk hb))
      clear hown hgrow hat hlt1 hon5 HOV HD4 HO4 hu
      go_ret
      exact ⟨_, q ++ [y], rfl, HOV5.out, by rw [List.length_append, HQL.out]; simp; omega, HD5.out, HO5.out⟩
    · go_wp2_with fail
      refine (HD3.out.below 2 (by omega) (by omega)).mono ?_
      rintro e w4 ⟨⟨y, hy1, hy2, rfl⟩, hd4, ho4⟩
      obtain ⟨m, rfl⟩ := Int.eq_ofNat_of_zero_le hy1
      have HD4 : Hid (Dr w0 w4 B R a bs cap) := hd4
      have HO4 : Hid (Only (fun k => k = R) w w4) := HO3.out.trans ho4
      have hz4 := HO4.out.size
      clear hd4 ho4 HQ3 HD3 HO3 HQL hg3
      rcases (show m = 0 ∨ m = 1 by omega) with rfl | rfl
      · clear hy1 hy2
        go_wp2_with (at_make; refine wpList_make_full _ rfl _ _ 23 rfl w.heap.size 3 i0 (.int .i64 0) 1 Tryd.underlying23 hi hz0 hz1 .i64 .i64 _ _ 80 rfl rfl rfl rfl (by rw [hz2]; omega) (by unfold maxLen; omega) hz4 ?_; intro w5 hown hgrow; have hr5 := mk_row hown; clear hown; have hdst := mk_cell hr5 3 (by omega); have hfz := hr5.frozen 3; have HR5 : Hid (OwI w5 w.heap.size w4.heap.size 80 (List.replicate 80 0)) := hr5; clear hr5; have HG5 : Hid (w4.grownBy w5 none) := hgrow; clear hgrow)
        have honly5 : Only (fun _ => False) w4 w5 := Only.grown (Only.refl _ w4) HG5.out (fun k hk => by cases hk)
        have hd5 : Dr w0 w5 B R a bs cap := HD4.out.other honly5 (by simp) (by simp)
        have ho5 : Only (fun k => k = R) w w5 := HO4.out.trans (honly5.mono (by simp))
        have HR6 : Hid (OwI (w5.setCell ⟨w4.heap.size, 3, none⟩ (.int .i64 64)) w.heap.size w4.heap.size 80 ((List.replicate 80 0).set 3 64)) := HR5.out.store 3 64 (by omega)
        have HO6 : Hid (Only (fun k => k = R) w (w5.setCell ⟨w4.heap.size, 3, none⟩ (.int .i64 64))) := Only.setCell (S := fun k => k = R) ho5 (p := ⟨w4.heap.size, 3, none⟩) (.inr hz4) _
        have HD6 : Hid (Dr w0 (w5.setCell ⟨w4.heap.size, 3, none⟩ (.int .i64 64)) B R a bs cap) := hd5.other (S := fun b => b = w4.heap.size) (Only.setCell (Only.refl (fun b => b = w4.heap.size) w5) (p := ⟨w4.heap.size, 3, none⟩) (.inl rfl) _) (by omega) (fun b hb => by omega)
        clear honly5 hd5 ho5 HD4 HO4
        go_ret
        have hl6 : ((List.replicate 80 (0 : Int)).set 3 64).length = 80 := by simp
        refine ⟨_, _, rfl, ?_, by rw [hl6]; omega, HD6.out, HO6.out⟩
        have h1 := HR6.out
        have h2 := h1.1
        rw [hl6] at h2
        exact ⟨by rw [hl6]; exact h2, h1.2⟩
      · clear hy1 hy2
        go_wp2_with (at_make; refine wpList_make_full _ rfl _ _ 23 rfl w.heap.size 3 i0 (.int .i64 0) 1 Tryd.underlying23 hi hz0 hz1 .i64 .i64 _ _ 81 rfl rfl rfl rfl (by rw [hz2]; omega) (by unfold maxLen; omega) hz4 ?_; intro w5 hown hgrow; have hr5 := mk_row hown; clear hown; have hdst := mk_cell hr5 3 (by omega); have hfz := hr5.frozen 3; have HR5 : Hid (OwI w5 w.heap.size w4.heap.size 81 (List.replicate 81 0)) := hr5; clear hr5; have HG5 : Hid (w4.grownBy w5 none) := hgrow; clear hgrow)
        have honly5 : Only (fun _ => False) w4 w5 := Only.grown (Only.refl _ w4) HG5.out (fun k hk => by cases hk)
        have hd5 : Dr w0 w5 B R a bs cap := HD4.out.other honly5 (by simp) (by simp)
        have ho5 : Only (fun k => k = R) w w5 := HO4.out.trans (honly5.mono (by simp))
        have HR6 : Hid (OwI (w5.setCell ⟨w4.heap.size, 3, none⟩ (.int .i64 64)) w.heap.size w4.heap.size 81 ((List.replicate 81 0).set 3 64)) := HR5.out.store 3 64 (by omega)
        have HO6 : Hid (Only (fun k => k = R) w (w5.setCell ⟨w4.heap.size, 3, none⟩ (.int .i64 64))) := Only.setCell (S := fun k => k = R) ho5 (p := ⟨w4.heap.size, 3, none⟩) (.inr hz4) _
        have HD6 : Hid (Dr w0 (w5.setCell ⟨w4.heap.size, 3, none⟩ (.int .i64 64)) B R a bs cap) := hd5.other (S := fun b => b = w4.heap.size) (Only.setCell (Only.refl (fun b => b = w4.heap.size) w5) (p := ⟨w4.heap.size, 3, none⟩) (.inl rfl) _) (by omega) (fun b hb => by omega)
        clear honly5 hd5 ho5 HD4 HO4
        go_ret
        have hl6 : ((List.replicate 81 (0 : Int)).set 3 64).length = 81 := by simp
        refine ⟨_, _, rfl, ?_, by rw [hl6]; omega, HD6.out, HO6.out⟩
        have h1 := HR6.out
        have h2 := h1.1
        rw [hl6] at h2
        exact ⟨by rw [hl6]; exact h2, h1.2⟩

end Go.Proofs.YtmhpgkfaihcmeaaDoor
namespace Go.Proofs.YtmhpgkfaihcmeaaDoor
open Go.RowKit
set_option linter.unusedVariables false

theorem ins_new (W : World) (T : TypeId) (zs : List Int) (hr : ∀ z ∈ zs, -9223372036854775808 ≤ z ∧ z ≤ 9223372036854775807) : Ins (W.alloc (.cells (zs.map (Value.int .i64)).toArray T)) (some ⟨W.heap.size, 0, none⟩) zs := by
  refine ⟨hr, fun hp => ⟨W.heap.size, 0, rfl, by simp, fun i hi => ?_⟩⟩
  rw [Nat.zero_add, cell_of_row _ W.heap.size i _ T (0, 0) (heap_alloc_new W _)]
  simp [hi]

set_option maxHeartbeats 3200000 in
theorem Dr.text {w0 w : World} {B R : Nat} {a : Option Addr} {bs : List Int} {cap : Nat} (h : Dr w0 w B R a bs cap) (s : Int) (hs1 : 1 ≤ s) (hs2 : s ≤ 90) :
    Calls Tryd.prog 22 #[.pointer (some ⟨R, 0, none⟩), .int .i64 s] w fun e w' => ∃ (v : Value) (l : List Int), e = .returned v ∧ OVI w' w.heap.size v l ∧ l.length ≤ 30 ∧ (∀ z ∈ l, 0 ≤ z ∧ z < s) ∧ Dr w0 w' B R a bs cap ∧ Only (fun k => k = R) w w' := by
  obtain ⟨i0, hi, hz0, hz1, hz2⟩ := info_parts Tryd.infoI64
  have H : Hid (Dr w0 w B R a bs cap) := h
  have hRB := h.cur.lt
  have hwB : B ≤ w.heap.size := by omega
  clear h
  go_enter Tryd.func22, Tryd.ntmps22
  go_wp2_with fail
  refine (H.out.below 30 (by omega) (by omega)).mono ?_
  rintro e w1 ⟨⟨N, hN1, hN2, rfl⟩, hd, ho⟩
  obtain ⟨n, rfl⟩ := Int.eq_ofNat_of_zero_le hN1
  have HD : Hid (Dr w0 w1 B R a bs cap) := hd
  have HO : Hid (Only (fun k => k = R) w w1) := ho
  have hn : n < 30 := by omega
  clear hd ho H hN1 hN2
  go_wp2
  go_loopw [5, 7] (fun o i wr => ∃ (k : Nat) (q : List Int), k ≤ n ∧ i = .int .i64 k ∧ OVI wr w.heap.size o q ∧ q.length = k ∧ (∀ z ∈ q, 0 ≤ z ∧ z < s) ∧ Dr w0 wr B R a bs cap ∧ Only (fun k => k = R) w wr) (fun _ i _ => n - (intOf i).toNat)
  case atStart => exact ⟨0, [], Nat.zero_le _, rfl, OVI.nil _ _, rfl, by simp, HD.out, HO.out⟩
  case round =>
    clear HD HO
    obtain ⟨k, q, hk, rfl, hov, hql, hqr, hd, ho⟩ := hrel
    obtain ⟨au, cu, rfl⟩ := hov.form
    have HQL : Hid (q.length = k) := hql
    rw [hql] at hov ⊢
    have HQR : Hid (∀ z ∈ q, 0 ≤ z ∧ z < s) := hqr
    have HOV : Hid (OVI wr w.heap.size (.slice au k cu) q) := hov
    have HD : Hid (Dr w0 wr B R a bs cap) := hd
    have HO : Hid (Only (fun k => k = R) w wr) := ho
    clear hov hql hqr hd ho
    by_cases hlt : k < n
    · go_wp2_with fail
      refine (HD.out.below s (by omega) (by omega)).mono ?_
      rintro e w2 ⟨⟨x, hx1, hx2, rfl⟩, hd2, ho2⟩
      have HD2 : Hid (Dr w0 w2 B R a bs cap) := hd2
      have HO2 : Hid (Only (fun k => k = R) w w2) := HO.out.trans ho2
      have HOV2 : Hid (OVI w2 w.heap.size (.slice au k cu) q) := HOV.out.only ho2 (fun b hb => by omega)
      clear hd2 ho2 HD HO HOV
      go_wp2_with fail
      refine (HD2.out.once 2 (by omega) (by omega)).mono ?_
      rintro e w3 ⟨⟨b, rfl⟩, hd3, ho3⟩
      have HD3 : Hid (Dr w0 w3 B R a bs cap) := hd3
      have HO3 : Hid (Only (fun k => k = R) w w3) := HO2.out.trans ho3
      have HOV3 : Hid (OVI w3 w.heap.size (.slice au k cu) q) := HOV2.out.only ho3 (fun b hb => by omega)
      have hz3 := HO3.out.size
      have hu : w3.ownsRow w.heap.size 3 1 (.slice au k cu) k (q.map (Value.int .i64)) := by have := HOV3.out.1; rw [HQL.out] at this; exact this
      clear hd3 ho3 HD2 HO2 HOV2
      cases b
      · go_wp2_with (at_builtin; (refine wpList_append_lies _ rfl (.tmp 23) (.tmp 25) 23 rfl w.heap.size 3 i0 (.int .i64 0) 1 8 Tryd.underlying23 hi hz0 hz1 hz2 rfl (by decide) (.slice au k cu) k (q.map (Value.int .i64)) rfl (hu.alloc _) ⟨w3.heap.size, 0, none⟩ 1 1 [.int .i64 x] rfl rfl (by intro j y hj; match j, hj with | 0, hj => (simp at hj; subst hj; simp [Addr.add])) (by intro y hy; simp at hy; subst hy; rfl) (by omega) (by unfold maxLen; omega) (by omega) (by simp; omega) _ rfl ?_); intro g cap1 w4 hown hgrow hat hlt1)
        have HOV4 : Hid (OVI w4 w.heap.size (.slice (some ⟨g, 0, none⟩) (k + 1) cap1) (q ++ [x])) := OVI.app HQL.out HOV3.out.2 (by omega) hown
        have hon4 : Only (fun b => (Value.slice au k cu).ownBlock = some b) w3 w4 := Only.grown ((Only.refl _ w3).alloc _) hgrow (fun b hb => .inl hb)
        have HD4 : Hid (Dr w0 w4 B R a bs cap) := HD3.out.other hon4 (fun hh => by have := HOV3.out.blk hh; omega) (fun b hh => by have := HOV3.out.blk hh; omega)
        have HO4 : Hid (Only (fun k => k = R) w w4) := Only.grown (HO3.out.alloc _) hgrow (fun b hb => .inr (HOV3.out.blk hb))
        clear hown hgrow hat hlt1 hon4 HOV3 HD3 HO3 hu
        go_roundw
        case rel => exact ⟨k + 1, q ++ [x], by omega, by go_num, HOV4.out, by rw [List.length_append, HQL.out]; rfl, by
          intro z hz
          rcases List.mem_append.1 hz with hz | hz
          · exact HQR.out z hz
          · simp at hz; subst hz; omega, HD4.out, HO4.out⟩
        case measure => simp [intOf]; omega
      · go_wp2_with (at_builtin; (refine wpList_append_lies _ rfl (.tmp 23) (.tmp 25) 23 rfl w.heap.size 3 i0 (.int .i64 0) 1 8 Tryd.underlying23 hi hz0 hz1 hz2 rfl (by decide) (.slice au k cu) k (q.map (Value.int .i64)) rfl (hu.alloc _) ⟨w3.heap.size, 0, none⟩ 1 1 [.int .i64 (x / 3)] rfl rfl (by intro j y hj; match j, hj with | 0, hj => (simp at hj; subst hj; simp [Addr.add])) (by intro y hy; simp at hy; subst hy; rfl) (by omega) (by unfold maxLen; omega) (by omega) (by simp; omega) _ rfl ?_); intro g cap1 w4 hown hgrow hat hlt1)
        have HOV4 : Hid (OVI w4 w.heap.size (.slice (some ⟨g, 0, none⟩) (k + 1) cap1) (q ++ [(x / 3)])) := OVI.app HQL.out HOV3.out.2 (by omega) hown
        have hon4 : Only (fun b => (Value.slice au k cu).ownBlock = some b) w3 w4 := Only.grown ((Only.refl _ w3).alloc _) hgrow (fun b hb => .inl hb)
        have HD4 : Hid (Dr w0 w4 B R a bs cap) := HD3.out.other hon4 (fun hh => by have := HOV3.out.blk hh; omega) (fun b hh => by have := HOV3.out.blk hh; omega)
        have HO4 : Hid (Only (fun k => k = R) w w4) := Only.grown (HO3.out.alloc _) hgrow (fun b hb => .inr (HOV3.out.blk hb))
        clear hown hgrow hat hlt1 hon4 HOV3 HD3 HO3 hu
        go_roundw
        case rel => exact ⟨k + 1, q ++ [(x / 3)], by omega, by go_num, HOV4.out, by rw [List.length_append, HQL.out]; rfl, by
          intro z hz
          rcases List.mem_append.1 hz with hz | hz
          · exact HQR.out z hz
          · simp at hz; subst hz; omega, HD4.out, HO4.out⟩
        case measure => simp [intOf]; omega
    · have hkn : k = n := by omega
      subst hkn
      go_wp2
      go_ret
      exact ⟨_, q, rfl, HOV.out, by rw [HQL.out]; omega, HQR.out, HD.out, HO.out⟩
end Go.Proofs.YtmhpgkfaihcmeaaDoor
