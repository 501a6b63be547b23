/-
  Lens of the program. (Typed by wip/mkpcv.py.)
-/
import Derived.Test.YtfeokafkhnbdiaaGreatDoorAs1
import Derived.Test.YtfeokafkhnbdiaaGreatDoorICntI
import Derived.Test.YtfeokafkhnbdiaaGreatDoorPcU
namespace Go.Proofs.YtfeokafkhnbdiaaGreatDoor
open Go.RowKit
set_option linter.unusedVariables false
/-- What the first k symbols cost. -/
def pays (cs ls : List Int) : Nat → Int
  | 0 => 0
  | k + 1 => pays cs ls k + cs.getD k 0 * ls.getD k 0
/-- What makes Cost answer. -/
def costYes (cs ls : List Int) : Prop := cntB cs = true ∧ lensB ls = true ∧ ls.length = cs.length ∧ ∀ i, i < cs.length → ¬ (0 < cs.getD i 0 ∧ ls.getD i 0 = 0)
noncomputable def costB (cs ls : List Int) : Bool := @decide (costYes cs ls) (Classical.propDecidable _)
noncomputable def costN (cs ls : List Int) : Int := if costB cs ls = true then pays cs ls cs.length else 0
theorem cost_yes {cs ls : List Int} (h : costYes cs ls) : costB cs ls = true ∧ costN cs ls = pays cs ls cs.length := by
  have e : costB cs ls = true := by simp [costB, h]
  exact ⟨e, by simp [costN, e]⟩
theorem cost_no {cs ls : List Int} (h : ¬ costYes cs ls) : costB cs ls = false ∧ costN cs ls = 0 := by
  have e : costB cs ls = false := by simp [costB, h]
  exact ⟨e, by simp [costN, e]⟩

theorem cntB_get {zs : List Int} (h : cntB zs = true) (k : Nat) (hk : k < zs.length) : 0 ≤ zs.getD k 0 ∧ zs.getD k 0 ≤ 1000000 := by
  simp only [cntB, decide_eq_true_eq] at h
  exact h.2.2 _ (getD_mem hk)
theorem cntB_bnd {zs : List Int} (h : cntB zs = true) : 1 ≤ zs.length ∧ zs.length ≤ 80 := by
  simp only [cntB, decide_eq_true_eq] at h
  exact ⟨h.1, h.2.1⟩
theorem lensB_get {zs : List Int} (h : lensB zs = true) (k : Nat) (hk : k < zs.length) : 0 ≤ zs.getD k 0 ∧ zs.getD k 0 ≤ 12 := by
  simp only [lensB, decide_eq_true_eq] at h
  exact h.2.2.1 _ (getD_mem hk)
theorem mul_bnd {x y : Int} (hx : 0 ≤ x ∧ x ≤ 1000000) (hy : 0 ≤ y ∧ y ≤ 12) : 0 ≤ x * y ∧ x * y ≤ 12000000 := by
  refine ⟨Int.mul_nonneg hx.1 hy.1, ?_⟩
  have h1 : x * y ≤ 1000000 * y := Int.mul_le_mul_of_nonneg_right hx.2 hy.1
  omega
theorem pays_bnd {cs ls : List Int} (hc : cntB cs = true) (hl : lensB ls = true) (hlen : ls.length = cs.length) (k : Nat) (hk : k ≤ cs.length) : 0 ≤ pays cs ls k ∧ pays cs ls k ≤ 12000000 * k := by
  induction k with
  | zero => simp [pays]
  | succ k ih =>
    have h1 := ih (by omega)
    have h2 := mul_bnd (cntB_get hc k (by omega)) (lensB_get hl k (by omega))
    simp only [pays]
    omega
set_option linter.unusedSimpArgs false
theorem sumF_coins (f : Int → Nat) (hf : f 0 = 0) {zs ls : List Int} (hl : ls.length = zs.length) (hno : ∀ s, ¬ 0 < zs.getD s 0 → ls.getD s 0 = 0) : ∀ k, k ≤ ls.length → sumF (fun z => (f z : Int)) (ls.take k) = ((tot (fun p => f (ls.getD p.plc 0)) (coinsL zs k) : Nat) : Int)
  | 0, _ => by simp [sumF, coinsL, tot]
  | k + 1, h => by
    rw [sumF_succ _ _ _ (by omega), sumF_coins f hf hl hno k (by omega)]
    simp only [coinsL]
    split
    · rw [tot_app]
      simp [tot, Pc.plc]
    · rename_i hz
      rw [hno k hz, hf]
      simp
theorem sumF_rank (f : Int → Nat) (hf : f 0 = 0) {zs ls : List Int} {L : Nat} {lm : Nat → Nat} (h : LF zs ls L lm) : sumF (fun z => (f z : Int)) ls = ((sumN (fun k => f (lm k)) (coinsS zs).length : Nat) : Int) := by
  have := sumF_coins f hf h.len h.no ls.length (Nat.le_refl _)
  rw [List.take_length, h.len, tot_perm _ (srt_perm zs zs.length).symm] at this
  rw [this]
  show ((tot _ (coinsS zs) : Nat) : Int) = _
  have e := tot_sumN (fun p => f (ls.getD p.plc 0)) dpc (coinsS zs) (coinsS zs).length (Nat.le_refl _)
  rw [List.take_length] at e
  rw [e]
  congr 1
  refine sumN_congr fun k hk => ?_
  rw [List.getD_eq_getElem?_getD (i := k), List.getElem?_eq_getElem hk]
  simp only [Option.getD_some]
  rw [h.at_ k hk]
theorem LF.rng {zs ls : List Int} {L : Nat} {lm : Nat → Nat} (h : LF zs ls L lm) (s : Nat) (hs : s < zs.length) : (0 < zs.getD s 0 → ∃ k, ∃ hk : k < (coinsS zs).length, (coinsS zs)[k] = .coin s (zs.getD s 0).toNat ∧ ls.getD s 0 = (lm k : Nat) ∧ 1 ≤ lm k ∧ lm k ≤ L) ∧ (¬ 0 < zs.getD s 0 → ls.getD s 0 = 0) := by
  refine ⟨fun hz => ?_, h.no s⟩
  obtain ⟨k, hk, e⟩ := coinsS_has zs s hs hz
  have := h.at_ k hk
  rw [e] at this
  exact ⟨k, hk, e, this, h.pos k hk, h.le k⟩
theorem one_nat : one = fun z => (((if 0 < z then 1 else 0 : Nat)) : Int) := by
  funext z; unfold one; split <;> rfl
theorem LF.okB {zs ls : List Int} {L : Nat} {lm : Nat → Nat} (h : LF zs ls L lm) (hc : cntB zs = true) (hL : L ≤ 12) (h1 : 1 ≤ (coinsS zs).length) : lensB ls = true := by
  simp only [cntB, decide_eq_true_eq] at hc
  obtain ⟨hl1, hl2, hz⟩ := hc
  simp only [lensB, decide_eq_true_eq]
  have hr : ∀ z ∈ ls, 0 ≤ z ∧ z ≤ 12 := fun z hz' => by
    obtain ⟨s, hs, rfl⟩ := List.getElem_of_mem hz'
    have e : ls[s] = ls.getD s 0 := by simp [List.getD_eq_getElem?_getD, List.getElem?_eq_getElem hs]
    rw [e]
    obtain ⟨a1, a2⟩ := h.rng s (by rw [← h.len]; exact hs)
    by_cases hp : 0 < zs.getD s 0
    · obtain ⟨k, _, _, e2, e3, e4⟩ := a1 hp
      omega
    · have := a2 hp
      omega
  have ho : sumF one ls = ((coinsS zs).length : Nat) := by
    rw [one_nat, sumF_rank (fun z => if 0 < z then 1 else 0) (by simp) h]
    congr 1
    rw [sumN_congr (h := fun _ => 1) (fun k hk => by have := h.pos k hk; simp; omega), sumN_const]
    omega
  have hs : sumF share ls = ((sumN (fun k => 2 ^ (12 - lm k)) (coinsS zs).length : Nat) : Int) := by
    have e : share = fun z => (((if 0 < z then 2 ^ (12 - z).toNat else 0 : Nat)) : Int) := by
      funext z; unfold share; split
      · simp
      · rfl
    rw [e, sumF_rank (fun z => if 0 < z then 2 ^ (12 - z).toNat else 0) (by simp) h]
    congr 1
    refine sumN_congr fun k hk => ?_
    have p1 := h.pos k hk
    have p2 := h.le k
    rw [if_pos (by omega)]
    congr 1
    omega
  refine ⟨by rw [h.len]; exact hl1, by rw [h.len]; exact hl2, hr, ?_⟩
  by_cases hn : (coinsS zs).length = 1
  · left
    rw [ho, hs, hn]
    simp only [sumN]
    rw [h.sole hn]
    decide
  · right
    refine ⟨by rw [ho]; omega, ?_⟩
    rw [hs]
    have e : sumN (fun k => 2 ^ (12 - lm k)) (coinsS zs).length = 2 ^ (12 - L) * sumN (fun k => 2 ^ (L - lm k)) (coinsS zs).length := by
      rw [← sumN_mul]
      refine sumN_congr fun k hk => ?_
      rw [← Nat.pow_add]
      congr 1
      have := h.le k
      omega
    rw [e, h.full (by omega), ← Nat.pow_add, show 12 - L + L = 12 by omega]
    decide
theorem LF.less {zs ls : List Int} {L : Nat} {lm : Nat → Nat} (h : LF zs ls L lm) (hn : zs.length ≤ 80) (i j : Nat) (hi : i < zs.length) (hj : j < zs.length) (h1 : zs.getD j 0 < zs.getD i 0) (h2 : 0 < zs.getD j 0) : ls.getD i 0 ≤ ls.getD j 0 := by
  obtain ⟨k, hk, e1, e2, _⟩ := (h.rng i hi).1 (by omega)
  obtain ⟨l, hl, e3, e4, _⟩ := (h.rng j hj).1 h2
  have hw := coinsS_WS hn
  have : l ≤ k := by
    rcases Nat.lt_or_ge k l with hlt | hge
    · have := List.pairwise_iff_getElem.1 hw k l hk hl hlt
      rw [e1, e3] at this
      simp only [Pc.wt] at this
      omega
    · exact hge
  have := h.mono l k this
  omega
/-- No shares cost less. -/
theorem mrg_min : ∀ (a b : List Pc) (c p : Nat), WS a → WS b → c ≤ a.length → p ≤ b.length → tot Pc.wt ((mrg a b).take (c + p)) ≤ tot Pc.wt (a.take c) + tot Pc.wt (b.take p)
  | [], b, c, p, _, _, hc, hp => by
    obtain rfl : c = 0 := by simpa using hc
    rw [mrg]
    simp [tot]
  | a :: ar, [], c, p, _, _, hc, hp => by
    obtain rfl : p = 0 := by simpa using hp
    rw [mrg]
    simp [tot]
  | a :: ar, b :: br, c, p, ha, hb, hc, hp => by
    obtain ⟨a1, a2⟩ := List.pairwise_cons.1 ha
    obtain ⟨b1, b2⟩ := List.pairwise_cons.1 hb
    rw [mrg]
    split
    · rename_i hw
      cases c with
      | succ c =>
        rw [show c + 1 + p = c + p + 1 by omega, List.take_succ_cons, List.take_succ_cons, tot_cons, tot_cons]
        have := mrg_min ar (b :: br) c p a2 hb (by simpa using hc) hp
        omega
      | zero =>
        cases p with
        | zero => simp [tot]
        | succ p =>
          rw [show 0 + (p + 1) = 0 + p + 1 by omega, List.take_succ_cons, tot_cons]
          have := mrg_min ar (b :: br) 0 p a2 hb (by omega) (by simp at hp ⊢; omega)
          have e := List.take_succ_eq_append_getElem (l := b :: br) (i := p) (by omega)
          rw [e, tot_app]
          have hx : a.wt ≤ ((b :: br)[p]).wt := by
            rcases List.mem_cons.1 (List.getElem_mem (l := b :: br) (n := p) (by omega)) with h | h
            · rw [h]; exact hw
            · have := b1 _ h; omega
          have e2 : tot Pc.wt [(b :: br)[p]] = ((b :: br)[p]).wt := by simp [tot]
          rw [e2]
          simp only [List.take_zero, tot, List.map_nil, List.sum_nil, Nat.add_zero, Nat.zero_add] at this ⊢
          omega
    · rename_i hw
      cases p with
      | succ p =>
        rw [show c + (p + 1) = c + p + 1 by omega, List.take_succ_cons, List.take_succ_cons, tot_cons, tot_cons]
        have := mrg_min (a :: ar) br c p ha b2 hc (by simpa using hp)
        omega
      | zero =>
        cases c with
        | zero => simp [tot]
        | succ c =>
          rw [show c + 1 + 0 = c + 0 + 1 by omega, List.take_succ_cons, tot_cons]
          have := mrg_min (a :: ar) br c 0 ha b2 (by simp at hc ⊢; omega) (by omega)
          have e := List.take_succ_eq_append_getElem (l := a :: ar) (i := c) (by omega)
          rw [e, tot_app]
          have hx : b.wt ≤ ((a :: ar)[c]).wt := by
            rcases List.mem_cons.1 (List.getElem_mem (l := a :: ar) (n := c) (by omega)) with h | h
            · rw [h]; omega
            · have := a1 _ h; omega
          have e2 : tot Pc.wt [(a :: ar)[c]] = ((a :: ar)[c]).wt := by simp [tot]
          rw [e2]
          simp only [List.take_zero, tot, List.map_nil, List.sum_nil, Nat.add_zero, Nat.zero_add] at this ⊢
          omega
termination_by a b => a.length + b.length
theorem sumN_le (w : Nat → Nat) {c d : Nat} (h : c ≤ d) : sumN w c ≤ sumN w d := by
  induction d with
  | zero => obtain rfl : c = 0 := by omega
            exact Nat.le_refl _
  | succ d ih =>
    by_cases e : c = d + 1
    · subst e; exact Nat.le_refl _
    · have := ih (by omega)
      simp only [sumN]
      omega
theorem lower {S : List Pc} (hS : WS S) (hW : ∀ r, WS (pairL (rnd S r) ((rnd S r).length / 2))) : ∀ (ts : List Nat) (k : Nat), (∀ a ∈ ts, a ≤ S.length) → k * 2 ^ ts.length ≤ 2 * pmv ts → k ≤ (rnd S ts.length).length ∧ tot Pc.wt ((rnd S ts.length).take k) ≤ (ts.map (fun a => tot Pc.wt (S.take a))).sum
  | [], k, _, h => by
    simp [pmv] at h
    subst h
    simp [rnd, tot]
  | a :: ts, k, ha, h => by
    have haS := ha a (by simp)
    have h2 : (2 * (k - min a k)) * 2 ^ ts.length ≤ 2 * pmv ts := by
      simp only [pmv, List.length_cons, Nat.pow_succ] at h
      generalize 2 ^ ts.length = z at *
      by_cases hka : k ≤ a
      · rw [show k - min a k = 0 by omega]; simp
      · obtain ⟨p, hp⟩ : ∃ p, k = p + a := ⟨k - a, by omega⟩
        rw [show k - min a k = p by omega]
        rw [hp, Nat.mul_comm z 2, ← Nat.mul_assoc, Nat.add_mul, Nat.add_mul, Nat.mul_comm p 2, Nat.mul_comm a 2, Nat.mul_assoc 2 a z] at h
        omega
    obtain ⟨i1, i2⟩ := lower hS hW ts (2 * (k - min a k)) (fun d hd => ha d (by simp [hd])) h2
    have hlen : (rnd S (ts.length + 1)).length = S.length + (rnd S ts.length).length / 2 := by
      show (mrg _ _).length = _
      rw [(mrg_perm _ _).length_eq, List.length_append, pairL_len]
    refine ⟨by simp only [List.length_cons]; rw [hlen]; omega, ?_⟩
    simp only [List.length_cons, List.map_cons, List.sum_cons]
    have hm := mrg_min S (pairL (rnd S ts.length) ((rnd S ts.length).length / 2)) (min a k) (k - min a k) hS (hW _) (by omega) (by rw [pairL_len]; omega)
    rw [pairL_take _ _ _ (by omega), tot_pair wt_add _ _ (by omega), show min a k + (k - min a k) = k by omega] at hm
    have hP : tot Pc.wt (S.take (min a k)) ≤ tot Pc.wt (S.take a) := by
      rw [tot_sumN _ dpc S _ (by omega), tot_sumN _ dpc S _ haS]
      exact sumN_le _ (by omega)
    show tot Pc.wt ((mrg _ _).take k) ≤ _
    omega
def cnt (q : Nat → Bool) (n : Nat) : Nat := sumN (fun k => if q k = true then 1 else 0) n
theorem cnt_le (q : Nat → Bool) : ∀ n, cnt q n ≤ n
  | 0 => Nat.le_refl _
  | n + 1 => by
    have := cnt_le q n
    unfold cnt at this ⊢
    simp only [sumN]
    split <;> omega
theorem cnt_min (w : Nat → Nat) (q : Nat → Bool) : ∀ n, (∀ i j, i ≤ j → j < n → w i ≤ w j) → sumN w (cnt q n) ≤ sumN (fun k => if q k = true then w k else 0) n
  | 0, _ => Nat.le_refl _
  | n + 1, h => by
    have ih := cnt_min w q n (fun i j h1 h2 => h i j h1 (by omega))
    have hc := cnt_le q n
    unfold cnt at ih hc ⊢
    simp only [sumN]
    by_cases hq : q n = true
    · simp only [hq, if_true]
      simp only [sumN]
      have := h _ n hc (by omega)
      omega
    · simp only [hq, if_false]
      simpa using ih
def al (n L : Nat) (lm : Nat → Nat) : Nat → List Nat
  | 0 => []
  | r + 1 => cnt (fun k => decide (L - r ≤ lm k)) n :: al n L lm r
theorem al_len (n L : Nat) (lm : Nat → Nat) : ∀ r, (al n L lm r).length = r
  | 0 => rfl
  | r + 1 => by simp [al, al_len n L lm r]
theorem al_le (n L : Nat) (lm : Nat → Nat) : ∀ r, ∀ a ∈ al n L lm r, a ≤ n
  | 0, a, h => by simp [al] at h
  | r + 1, a, h => by
    rcases List.mem_cons.1 h with rfl | h
    · exact cnt_le _ _
    · exact al_le n L lm r a h
theorem al_val (n L : Nat) (lm : Nat → Nat) (hm : ∀ k, k < n → lm k ≤ L) : ∀ r, r ≤ L → sumN (fun k => 2 ^ (min r (L - lm k))) n + pmv (al n L lm r) = n * 2 ^ r
  | 0, _ => by
    simp only [Nat.zero_min, Nat.pow_zero, al, pmv]
    rw [sumN_const]
    omega
  | r + 1, hr => by
    have ih := al_val n L lm hm r (by omega)
    simp only [al, pmv]
    rw [al_len]
    have e : sumN (fun k => 2 ^ (min (r + 1) (L - lm k))) n + sumN (fun k => (if decide (L - r ≤ lm k) = true then 1 else 0) * 2 ^ r) n = sumN (fun k => 2 ^ (min r (L - lm k))) n + sumN (fun _ => 2 ^ r) n := by
      rw [← sumN_add, ← sumN_add]
      refine sumN_congr fun k hk => ?_
      have hmk := hm k hk
      by_cases h : L - r ≤ lm k
      · simp only [h, decide_true, if_true]
        rw [show min (r + 1) (L - lm k) = min r (L - lm k) by omega]
        omega
      · simp only [h, decide_false]
        rw [show min (r + 1) (L - lm k) = r + 1 by omega, show min r (L - lm k) = r by omega, Nat.pow_succ]
        simp
        omega
    have e2 : sumN (fun k => (if decide (L - r ≤ lm k) = true then 1 else 0) * 2 ^ r) n = cnt (fun k => decide (L - r ≤ lm k)) n * 2 ^ r := by
      unfold cnt
      rw [Nat.mul_comm, ← sumN_mul]
      exact sumN_congr fun k _ => Nat.mul_comm _ _
    rw [e2, sumN_const] at e
    rw [Nat.pow_succ, Nat.mul_comm _ 2, Nat.mul_left_comm, Nat.two_mul]
    generalize 2 ^ r = z at *
    omega
theorem al_wt (n L : Nat) (lm w : Nat → Nat) (hw : ∀ i j, i ≤ j → j < n → w i ≤ w j) (hm : ∀ k, k < n → lm k ≤ L) : ∀ r, r ≤ L → ((al n L lm r).map (fun a => sumN w a)).sum ≤ sumN (fun k => w k * (lm k - (L - r))) n
  | 0, _ => by simp [al]
  | r + 1, hr => by
    have ih := al_wt n L lm w hw hm r (by omega)
    have hc := cnt_min w (fun k => decide (L - r ≤ lm k)) n hw
    simp only [al, List.map_cons, List.sum_cons]
    have e : sumN (fun k => w k * (lm k - (L - (r + 1)))) n = sumN (fun k => if decide (L - r ≤ lm k) = true then w k else 0) n + sumN (fun k => w k * (lm k - (L - r))) n := by
      rw [← sumN_add]
      refine sumN_congr fun k hk => ?_
      by_cases h : L - r ≤ lm k
      · simp only [h, decide_true, if_true]
        rw [show lm k - (L - (r + 1)) = lm k - (L - r) + 1 by omega, Nat.mul_add]
        omega
      · simp only [h, decide_false]
        rw [show lm k - (L - (r + 1)) = 0 by omega, show lm k - (L - r) = 0 by omega]
        simp
    rw [e]
    exact Nat.add_le_add hc ih
/-- Whatever lengths there are within the limit that share what there is: they cost no less. -/
theorem best {S : List Pc} (hS : WS S) (hW : ∀ r, WS (pairL (rnd S r) ((rnd S r).length / 2))) {L : Nat} (lm : Nat → Nat) (hn : 1 ≤ S.length) (h1 : ∀ k, k < S.length → lm k ≤ L) (hK : sumN (fun k => 2 ^ (L - lm k)) S.length ≤ 2 ^ L) : tot Pc.wt ((rnd S L).take (2 * S.length - 2)) ≤ sumN (fun k => (S.getD k dpc).wt * lm k) S.length := by
  have hv := al_val S.length L lm h1 L (Nat.le_refl _)
  have e : sumN (fun k => 2 ^ (min L (L - lm k))) S.length = sumN (fun k => 2 ^ (L - lm k)) S.length := sumN_congr fun k hk => by rw [show min L (L - lm k) = L - lm k by omega]
  rw [e] at hv
  have hl := lower hS hW (al S.length L lm L) (2 * S.length - 2) (al_le _ _ _ _) (by
    rw [al_len]
    obtain ⟨m, hm⟩ : ∃ m, S.length = m + 1 := ⟨S.length - 1, by omega⟩
    rw [hm] at hv hK ⊢
    generalize sumN (fun k => 2 ^ (L - lm k)) (m + 1) = q at *
    generalize pmv (al (m + 1) L lm L) = v at *
    generalize 2 ^ L = z at *
    rw [show 2 * (m + 1) - 2 = 2 * m by omega, Nat.mul_assoc]
    rw [Nat.add_mul, Nat.one_mul] at hv
    omega)
  rw [al_len] at hl
  have hmon : ∀ i j, i ≤ j → j < S.length → (S.getD i dpc).wt ≤ (S.getD j dpc).wt := fun i j hij hj => by
    by_cases e : i = j
    · subst e; exact Nat.le_refl _
    · have := List.pairwise_iff_getElem.1 hS i j (by omega) hj (by omega)
      rw [List.getD_eq_getElem?_getD, List.getElem?_eq_getElem (by omega), List.getD_eq_getElem?_getD, List.getElem?_eq_getElem hj]
      exact this
  have ha := al_wt S.length L lm (fun k => (S.getD k dpc).wt) hmon h1 L (Nat.le_refl _)
  have e2 : ((al S.length L lm L).map (fun a => tot Pc.wt (S.take a))) = (al S.length L lm L).map (fun a => sumN (fun k => (S.getD k dpc).wt) a) := List.map_congr_left fun a h => tot_sumN _ dpc S a (al_le _ _ _ _ a h)
  have e3 : sumN (fun k => (S.getD k dpc).wt * (lm k - (L - L))) S.length = sumN (fun k => (S.getD k dpc).wt * lm k) S.length := sumN_congr fun k _ => by rw [Nat.sub_self, Nat.sub_zero]
  rw [e2] at hl
  rw [e3] at ha
  exact Nat.le_trans hl.2 ha

theorem getD_nn {ls : List Int} (h : ∀ z ∈ ls, 0 ≤ z) (i : Nat) : 0 ≤ ls.getD i 0 := by
  by_cases hi : i < ls.length
  · exact h _ (getD_mem hi)
  · rw [List.getD_eq_getElem?_getD, List.getElem?_eq_none (by omega)]; simp
theorem pays_tot {zs ls : List Int} (hz : ∀ z ∈ zs, 0 ≤ z) (hl : ∀ z ∈ ls, 0 ≤ z) : ∀ k, pays zs ls k = ((tot (fun p => p.wt * (ls.getD p.plc 0).toNat) (coinsL zs k) : Nat) : Int)
  | 0 => by simp [pays, coinsL, tot]
  | k + 1 => by
    have h0 := getD_nn hz k
    have h1 := getD_nn hl k
    simp only [pays, coinsL]
    rw [pays_tot hz hl k]
    split
    · rw [tot_app]
      simp only [tot, List.map_cons, List.map_nil, List.sum_cons, List.sum_nil, Pc.wt, Pc.plc, Nat.add_zero]
      rw [Int.natCast_add, Int.natCast_mul, Int.toNat_of_nonneg h0, Int.toNat_of_nonneg h1]
    · rw [show zs.getD k 0 = 0 by omega]
      simp
theorem rank_tot (zs : List Int) (f : Pc → Nat) : tot f (coinsL zs zs.length) = sumN (fun k => f ((coinsS zs).getD k dpc)) (coinsS zs).length := by
  have e := tot_sumN f dpc (coinsS zs) (coinsS zs).length (Nat.le_refl _)
  rw [List.take_length] at e
  rw [← e]
  exact tot_perm f (srt_perm zs zs.length).symm
theorem sumF_more (f : Int → Nat) {zs ls : List Int} : ∀ k, k ≤ ls.length → ((tot (fun p => f (ls.getD p.plc 0)) (coinsL zs k) : Nat) : Int) ≤ sumF (fun z => (f z : Int)) (ls.take k)
  | 0, _ => by simp [sumF, coinsL, tot]
  | k + 1, h => by
    have ih := sumF_more f (zs := zs) (ls := ls) k (by omega)
    rw [sumF_succ _ _ _ (by omega)]
    simp only [coinsL]
    split
    · rw [tot_app]
      simp only [tot, List.map_cons, List.map_nil, List.sum_cons, List.sum_nil, Pc.plc, Nat.add_zero] at ih ⊢
      omega
    · omega
theorem packs_WS {zs : List Int} (hz : ∀ z ∈ zs, 0 ≤ z ∧ z ≤ 1000000) (hn : zs.length ≤ 80) (r : Nat) : WS (pairL (rnd (coinsS zs) r) ((rnd (coinsS zs) r).length / 2)) := by
  obtain ⟨h1, h2, h3⟩ := rnd_inv hz hn r
  have hm : (coinsS zs).length ≤ 80 := by rw [coinsS_len]; have := coinsL_len zs zs.length; omega
  refine WS_of_KS (pairL_KS h1 (fun p hp => by have := (h2 p hp).2.1; omega) (by omega)) fun p hp => ?_
  obtain ⟨i, hi, rfl⟩ := pairL_mem hp
  simp only [Pc.plc]
  omega
theorem lens_best {zs ls : List Int} {L : Nat} (h : costYes zs ls) (hm : ∀ z ∈ ls, z ≤ (L : Int)) (hL : 1 ≤ L) (hL2 : L ≤ 12) (h1 : 1 ≤ (coinsS zs).length) (h2 : (coinsS zs).length ≤ 2 ^ L) : costYes zs (lensV zs L) ∧ pays zs (lensV zs L) zs.length ≤ pays zs ls zs.length := by
  obtain ⟨hc, hlb, hlen, hno⟩ := h
  obtain ⟨lm, hF, hT⟩ := lens_facts hc hL h1 h2
  have hVB := hF.okB hc hL2 h1
  have hc0 := hc
  simp only [cntB, decide_eq_true_eq] at hc0
  obtain ⟨n1, n2, hz⟩ := hc0
  have hlb0 := hlb
  simp only [lensB, decide_eq_true_eq] at hlb0
  obtain ⟨_, _, lr, lsum⟩ := hlb0
  have hVB0 := hVB
  simp only [lensB, decide_eq_true_eq] at hVB0
  have hgd : ∀ k, k < (coinsS zs).length → ∃ s, s < zs.length ∧ 0 < zs.getD s 0 ∧ (coinsS zs).getD k dpc = .coin s (zs.getD s 0).toNat := fun k hk => by
    obtain ⟨s, h1, h2, h3⟩ := coinsS_at zs k hk
    refine ⟨s, h1, h2, ?_⟩
    rw [List.getD_eq_getElem?_getD, List.getElem?_eq_getElem hk]
    exact h3
  refine ⟨⟨hc, hVB, hF.len, fun i hi hbad => ?_⟩, ?_⟩
  · obtain ⟨k, hk, _, e, p1, _⟩ := (hF.rng i hi).1 hbad.1
    omega
  · rw [pays_tot (fun z hz' => (hz z hz').1) (fun z hz' => (hVB0.2.2.1 z hz').1), pays_tot (fun z hz' => (hz z hz').1) (fun z hz' => (lr z hz').1), rank_tot, rank_tot]
    have eV : sumN (fun k => ((coinsS zs).getD k dpc).wt * ((lensV zs L).getD ((coinsS zs).getD k dpc).plc 0).toNat) (coinsS zs).length = sumN (fun k => ((coinsS zs).getD k dpc).wt * lm k) (coinsS zs).length := sumN_congr fun k hk => by
      have := hF.at_ k hk
      rw [List.getD_eq_getElem?_getD (l := coinsS zs), List.getElem?_eq_getElem hk]
      simp only [Option.getD_some]
      rw [this]
      rfl
    rw [eV]
    have hlam : ∀ k, k < (coinsS zs).length → 1 ≤ (ls.getD ((coinsS zs).getD k dpc).plc 0).toNat ∧ (ls.getD ((coinsS zs).getD k dpc).plc 0).toNat ≤ L := fun k hk => by
      obtain ⟨s, s1, s2, s3⟩ := hgd k hk
      rw [s3]
      simp only [Pc.plc]
      have hin : ls.getD s 0 ∈ ls := getD_mem (by omega)
      have := hm _ hin
      have := lr _ hin
      have := hno s s1
      omega
    by_cases hn : (coinsS zs).length = 1
    · have h10 := (hlam 0 (by omega)).1
      rw [hn]
      simp only [sumN]
      rw [hF.sole hn]
      exact Int.ofNat_le.2 (Nat.add_le_add_left (Nat.mul_le_mul_left _ h10) _)
    · rw [← hT (by omega)]
      refine Int.ofNat_le.2 (best (coinsS_WS n2) (packs_WS hz n2) (fun k => (ls.getD ((coinsS zs).getD k dpc).plc 0).toNat) h1 (fun k hk => (hlam k hk).2) ?_)
      have hsh : share = fun z => (((if 0 < z then 2 ^ (12 - z).toNat else 0 : Nat)) : Int) := by
        funext z; unfold share; split
        · simp
        · rfl
      have hmore := sumF_more (fun z => if 0 < z then 2 ^ (12 - z).toNat else 0) (zs := zs) (ls := ls) ls.length (Nat.le_refl _)
      rw [List.take_length, ← hsh, hlen, rank_tot] at hmore
      have e12 : sumN (fun k => if 0 < ls.getD ((coinsS zs).getD k dpc).plc 0 then 2 ^ (12 - ls.getD ((coinsS zs).getD k dpc).plc 0).toNat else 0) (coinsS zs).length = 2 ^ (12 - L) * sumN (fun k => 2 ^ (L - (ls.getD ((coinsS zs).getD k dpc).plc 0).toNat)) (coinsS zs).length := by
        rw [← sumN_mul]
        refine sumN_congr fun k hk => ?_
        have := hlam k hk
        rw [← Nat.pow_add, if_pos (by omega)]
        congr 1
        omega
      rw [e12] at hmore
      have hle : 2 ^ (12 - L) * sumN (fun k => 2 ^ (L - (ls.getD ((coinsS zs).getD k dpc).plc 0).toNat)) (coinsS zs).length ≤ 2 ^ (12 - L) * 2 ^ L := by
        rw [← Nat.pow_add, show 12 - L + L = 12 by omega]
        have e4 : (2 : Nat) ^ 12 = 4096 := by decide
        rw [e4]
        generalize 2 ^ (12 - L) * sumN (fun k => 2 ^ (L - (ls.getD ((coinsS zs).getD k dpc).plc 0).toNat)) (coinsS zs).length = q at *
        omega
      exact Nat.le_of_mul_le_mul_left hle (Nat.pow_pos (by omega))

theorem cntL_rng (Z : Nat) : ∀ (l : List Pc) (zs : List Int) (M : Int), 0 ≤ M → (∀ p ∈ l, p.sz ≤ Z) → (∀ z ∈ zs, 0 ≤ z ∧ z ≤ M) → ∀ z ∈ cntL l zs, 0 ≤ z ∧ z ≤ M + (l.length * Z : Nat)
  | [], zs, M, _, _, h, z, hz => by have := h z hz; simp; omega
  | p :: l, zs, M, h0, hl, h, z, hz => by
    have h1 := cntP_rng p zs M h0 h
    have h2 := hl p (by simp)
    have h3 := cntL_rng Z l (cntP p zs) (M + p.sz) (by omega) (fun q hq => hl q (by simp [hq])) h1 z hz
    refine ⟨h3.1, Int.le_trans h3.2 ?_⟩
    simp only [List.length_cons, Nat.add_mul, Nat.one_mul]
    omega
theorem coins_one {zs : List Int} (h : (coinsS zs).length = 1) : (coinsS zs).getD 0 dpc = (coinsL zs zs.length).getD 0 dpc := by
  have hp := srt_perm zs zs.length
  have h2 : (coinsL zs zs.length).length = 1 := by rw [← coinsS_len]; exact h
  obtain ⟨p, hp1⟩ := List.length_eq_one_iff.1 h
  obtain ⟨q, hq1⟩ := List.length_eq_one_iff.1 h2
  unfold coinsS at hp1
  rw [hp1, hq1] at hp
  have := hp.eq_singleton
  unfold coinsS
  rw [hp1, hq1]
  simpa using this
theorem fine_of {zs : List Int} (hz : ∀ z ∈ zs, 0 ≤ z ∧ z ≤ 1000000) (hn : zs.length ≤ 80) (k : Nat) (hk : k ≤ 12) : ∀ p ∈ rnd (coinsS zs) k, p.fine ∧ p.ok zs.length ∧ p.sz ≤ 10000000000 := fun p hp => by
  obtain ⟨h1, h2, h3⟩ := (rnd_inv hz hn k).2.1 p hp
  have h4 : 2 ^ k ≤ 2 ^ 12 := Nat.pow_le_pow_right (by omega) hk
  have h5 : 1000000 * 2 ^ k ≤ 1000000 * 4096 := Nat.mul_le_mul_left _ h4
  have h6 := sz_wt p h3
  exact ⟨⟨by omega, by omega⟩, h3, by omega⟩

/-- One round, in the program. -/
theorem pcRound_any (a1 a2 : Option Addr) (c1 c2 N M : Nat) (zs : List Int) (k : Nat) (w : World) (hz : ∀ z ∈ zs, 0 ≤ z ∧ z ≤ 1000000) (hn : zs.length ≤ 80) (hk : k < 12) (hc : 1 ≤ (coinsS zs).length) (hN : N = (coinsL zs zs.length).length) (hM : M = (rnd (coinsS zs) k).length / 2) (h1 : Pcs w a1 (coinsL zs zs.length)) (h2 : Pcs w a2 (pairL (rnd (coinsS zs) k) M)) :
    Calls Tryz.prog 121 #[.slice a1 N c1, .slice a2 M c2] w fun e w' => ∃ (v : Value), e = .returned v ∧ OVV w' w.heap.size v (rnd (coinsS zs) (k + 1)) ∧ Below w.heap.size w w' := by
  subst hN
  have hinv := rnd_inv hz hn k
  have hcl := coinsL_len zs zs.length
  have hml : (coinsS zs).length ≤ 80 := by rw [coinsS_len]; omega
  have h := roundList_any a1 a2 c1 c2 (coinsL zs zs.length) (pairL (rnd (coinsS zs) k) M) w h1 h2 (fun p hp => by
    have hin : p ∈ rnd (coinsS zs) (k + 1) := by
      refine ((mrg_perm _ _).mem_iff).2 ?_
      rcases List.mem_append.1 hp with hp | hp
      · exact List.mem_append_left _ ((srt_perm zs zs.length).mem_iff.2 hp)
      · rw [hM] at hp
        exact List.mem_append_right _ hp
    exact (fine_of hz hn (k + 1) (by omega) p hin).1) (by rw [pairL_len]; omega) (by rw [← coinsS_len]; exact hc)
  rw [pairL_len] at h
  refine h.mono ?_
  rintro e w' ⟨v, l, rfl, ho, hp, hs, hb⟩
  have e1 : l = rnd (coinsS zs) (k + 1) := rnd_round hz hn k (by rw [← hM]; exact hp) hs
  rw [e1] at ho
  exact ⟨v, rfl, ho, hb⟩

theorem lens_pow {L : Nat} (h : L ≤ 12) : wrap64 (2 ^ L) = ((2 ^ L : Nat) : Int) := by
  have h1 : 2 ^ L ≤ 2 ^ 12 := Nat.pow_le_pow_right (by omega) h
  have e : ((2 : Int) ^ L) = ((2 ^ L : Nat) : Int) := by simp
  rw [e]
  generalize 2 ^ L = P at *
  exact IntWalk.wrap64_in _ (by omega)

theorem OwI.tag {w : World} {B g cap : Nat} {zs : List Int} (h : OwI w B g cap zs) : ∃ cur, w.heap[g]? = some (.cells cur 3 (0, 0)) := by
  rcases h.1.2 with ⟨h1, _⟩ | ⟨g', cap', cur, h1, _, hh, _⟩
  · cases h1
  · obtain rfl : g = g' := by simp at h1; exact h1.1
    exact ⟨cur, hh⟩
theorem cntL_step (l : List Pc) (zs : List Int) (k : Nat) (hk : k < l.length) : cntL (l.take (k + 1)) zs = cntP (l.getD k dpc) (cntL (l.take k) zs) := by
  rw [List.take_succ_eq_append_getElem hk, cntL_snoc]
  simp [List.getD_eq_getElem?_getD, hk]
theorem cntL_step_rng {zs : List Int} (hz : ∀ z ∈ zs, 0 ≤ z ∧ z ≤ 1000000) (hn : zs.length ≤ 80) (L : Nat) (hL : L ≤ 12) (k : Nat) (hk : k ≤ 160) : ∀ z ∈ cntL ((rnd (coinsS zs) L).take k) (List.replicate zs.length 0), 0 ≤ z ∧ z ≤ 2000000000000 := fun z hzm => by
  have h := cntL_rng 10000000000 ((rnd (coinsS zs) L).take k) (List.replicate zs.length 0) 0 (Int.le_refl _) (fun p hp => (fine_of hz hn L hL p (List.mem_of_mem_take hp)).2.2) (fun z hz => by simp at hz; omega) z hzm
  have h2 : ((rnd (coinsS zs) L).take k).length ≤ 160 := by rw [List.length_take]; omega
  have h3 : ((rnd (coinsS zs) L).take k).length * 10000000000 ≤ 160 * 10000000000 := Nat.mul_le_mul_right _ h2
  omega

theorem lens_made {w0 w1 w2 : World} {zs : List Int} {n m lc : Nat} {la : Option Addr} {cs : List Pc} (hn : n = zs.length) (hov : OVV w1 w0.heap.size (.slice la m lc) cs) (hb1 : Below w0.heap.size w0 w1) (hown : w2.ownsRow w1.heap.size 3 1 (.slice (some ⟨w1.heap.size, 0, none⟩) n n) n (madeCells (Value.int .i64 0).cells (n * 1)).toList) (hgrow : w1.grownBy w2 none) :
    OwI w2 w1.heap.size w1.heap.size n (List.replicate zs.length 0) ∧ OVV w2 w0.heap.size (.slice la m lc) cs ∧ Below w0.heap.size w0 w2 ∧ w0.heap.size ≤ w1.heap.size ∧ (List.replicate zs.length (0 : Int)).length = n ∧ w1.heap.size < w2.heap.size := by
  have hbw : Below w1.heap.size w1 w2 := (Below.refl _ _).grown hgrow (Nat.le_refl _) (by intro k hk; cases hk)
  have h0 : OwI w2 w1.heap.size w1.heap.size n (List.replicate zs.length 0) := by
    rw [← hn]
    refine ⟨?_, by intro z hz; simp at hz; omega⟩
    rw [made_zeroI] at hown
    simpa using hown
  exact ⟨h0, hov.below hbw, hb1.trans (hbw.mono hb1.size), hb1.size, by rw [List.length_replicate]; exact hn.symm, h0.lt.2⟩

set_option maxRecDepth 20000 in
set_option maxHeartbeats 8000000 in
theorem implLens_yes (a : Option Addr) (c : Nat) (zs : List Int) (L : Nat) (w : World) (hb : Ins w a zs) (hok : lensOkB zs (L : Int)) :
    Calls Tryz.prog 95 #[.slice a zs.length c, .int .i64 L] w fun e w' => (∃ g, e = .returned (.tuple #[.slice (some ⟨g, 0, none⟩) zs.length zs.length, .bool true]) ∧ OwI w' w.heap.size g zs.length (lensV zs L)) ∧ Below w.heap.size w w' := by
  obtain ⟨i0, hi, hz0, hz1, hz2⟩ := info_parts Tryz.infoI64
  obtain ⟨hcb, hx1, hx2, hm1, hm2⟩ := hok
  have hcnt := hcb
  simp only [cntB, decide_eq_true_eq] at hcnt
  obtain ⟨hn1, hn2, hzr⟩ := hcnt
  have hL1 : 1 ≤ L := by omega
  have hL2 : L ≤ 12 := by omega
  rw [Int.toNat_natCast] at hm2
  have HCNT := implCnt_any a c zs w hb (by omega)
  rw [hcb] at HCNT
  have HCO := coinsOf_any a c zs w hb (by omega) (fun z h => (hzr z h).1)
  have HZ : Hid ((∀ z ∈ zs, 0 ≤ z ∧ z ≤ 1000000) ∧ zs.length ≤ 80 ∧ (coinsS zs).length ≤ 2 ^ L ∧ 1 ≤ L) := ⟨hzr, hn2, hm2, hL1⟩
  obtain ⟨m, hm⟩ : ∃ m, m = (coinsL zs zs.length).length := ⟨_, rfl⟩
  have hmS : (coinsS zs).length = m := by rw [coinsS_len, hm]
  have hm80 : m ≤ 80 := by rw [hm]; have := coinsL_len zs zs.length; omega
  obtain ⟨P2, hP2⟩ : ∃ P2, P2 = 2 ^ L := ⟨_, rfl⟩
  have HP2 : Hid (wrap64 (2 ^ L) = ((P2 : Nat) : Int) ∧ True) := by rw [hP2]; exact ⟨lens_pow hL2, trivial⟩
  have hmP : m ≤ P2 := by rw [hP2, ← hmS]; exact hm2
  rw [hmS] at hm1
  have hP2b : P2 ≤ 4096 := by rw [hP2]; exact Nat.pow_le_pow_right (by omega) hL2
  have HMS : Hid ((coinsS zs).length = m ∧ m = (coinsL zs zs.length).length) := ⟨hmS, hm⟩
  have hl1 : ¬ (L : Int) < 1 := by omega
  have hl2 : ¬ (12 : Int) < (L : Int) := by omega
  have hmm1 : ¬ (m : Int) < 1 := by omega
  have hmm2 : ¬ (P2 : Int) < (m : Int) := by omega
  clear hcb hx1 hx2 hm2 hzr hmS hm hP2 hb
  obtain ⟨n, hn⟩ : ∃ n, n = zs.length := ⟨_, rfl⟩
  have HNZ : Hid (n = zs.length ∧ True) := ⟨hn, trivial⟩
  rw [← hn] at hn1 hn2 HCNT HCO ⊢
  clear hn
  have hpw := HP2.out.1
  go_enter Tryz.func95, Tryz.ntmps95
  go_wp2_with fail
  refine HCNT.mono ?_
  clear HCNT
  rintro e w0 ⟨rfl, rfl⟩
  go_wp2_with fail
  refine HCO.mono ?_
  clear HCO
  rintro e w1 ⟨v, rfl, hov, hb1⟩
  obtain ⟨la, lc, hv, -, -⟩ := hov.slice
  rw [HNZ.out.1, ← HMS.out.2] at hv
  rw [HNZ.out.1] at hov
  subst hv
  have H1 : Hid (OVV w1 w0.heap.size (.slice la m lc) (coinsL zs zs.length) ∧ Below w0.heap.size w0 w1) := ⟨hov, hb1⟩
  clear hov hb1
  by_cases hone : m = 1
  · have hone2 : (m : Int) = 1 := by omega
    have hd1 : ((m : Int) == 1) = true := by simp [hone2]
    obtain ⟨p, hp⟩ : ∃ p, p = (coinsL zs zs.length).getD 0 dpc := ⟨_, rfl⟩
    have hpin : p ∈ coinsL zs zs.length := by rw [hp]; exact getD_memP2 (by rw [← HMS.out.2]; omega)
    obtain ⟨q1, q2, q3, s, k, q4⟩ := coinsL_mem zs HZ.out.1 zs.length (Nat.le_refl _) p hpin
    have HV : Hid (lensV zs L = cntP p (List.replicate zs.length 0)) := by
      unfold Hid lensV
      rw [HMS.out.1, if_pos hone, coins_one (by rw [HMS.out.1]; exact hone), ← hp]
    have hm0 : (0 : Int) < (m : Int) := by omega
    subst q4
    have HP : Hid (Pcs w1 la (coinsL zs zs.length) ∧ (coinsL zs zs.length).getD 0 dpc = .coin s k ∧ (Pc.coin s k).ok zs.length) := by
      obtain ⟨a', c', e', hpc, _⟩ := H1.out.1.slice
      simp only [Value.slice.injEq] at e'
      rw [e'.1]
      exact ⟨hpc, hp.symm, q3⟩
    obtain ⟨b2, o2, hla, hb2, hc2⟩ := HP.out.1 (by rw [← HMS.out.2]; omega)
    subst hla
    have hc20 := hc2 0 (by rw [← HMS.out.2]; omega)
    rw [HP.out.2.1, Nat.add_zero] at hc20
    have HC20 : Hid (w1.cell? ⟨b2, o2, none⟩ = some (.iface 198 (.agg #[.int .i64 s, .int .i64 k]))) := hc20
    have mA := Tryz.meth_coin_countInto
    clear hp hpin q1 q2 q3 hc2 hc20 hone
    go_wp2_with (at_make; refine wpList_make_full _ rfl _ _ 38 rfl w1.heap.size 3 i0 (.int .i64 0) 1 Tryz.underlying38 hi hz0 hz1 .i64 .i64 _ _ n rfl rfl rfl rfl (by rw [hz2]; omega) (by unfold maxLen; omega) (Nat.le_refl _) ?_; intro w2 hown hgrow; have c20 := ((Below.refl w1.heap.size w1).grown hgrow (Nat.le_refl _) (by intro k hk; cases hk)).cell (p := ⟨b2, o2, none⟩) hb2; rw [HC20.out] at c20; have H2 : Hid _ := lens_made HNZ.out.1 H1.out.1 H1.out.2 hown hgrow; clear hown hgrow hi hz0 hz1 hz2)
    have HCI := coinCI s k w1.heap.size w1.heap.size n (List.replicate zs.length 0) w2 0 H2.out.1 (by rw [H2.out.2.2.2.2.1, HNZ.out.1]; exact HP.out.2.2) (Int.le_refl _) (by intro z hz; simp at hz; omega) (by simp [Pc.sz])
    rw [H2.out.2.2.2.2.1] at HCI
    refine HCI.mono ?_
    clear HCI
    rintro e w3 ⟨rfl, ho3, on3⟩
    have H3 : Hid (OwI w3 w0.heap.size w1.heap.size n (lensV zs L) ∧ Below w0.heap.size w0 w3) := by
      rw [HV.out]
      exact ⟨ho3.mono H2.out.2.2.2.1, H2.out.2.2.1.trans (on3.below H2.out.2.2.1.size (fun j hj => by rw [hj]; exact H2.out.2.2.2.1))⟩
    clear ho3 on3
    go_wp2
    go_ret2
    exact ⟨⟨_, rfl, H3.out.1⟩, H3.out.2⟩
  · have hone2 : ¬ (m : Int) = 1 := by omega
    have hd1 : ((m : Int) == 1) = false := by simp [hone2]
    have HV : Hid (lensV zs L = cntL ((rnd (coinsS zs) L).take (2 * m - 2)) (List.replicate zs.length 0)) := by
      unfold Hid lensV
      rw [HMS.out.1, if_neg hone]
    go_wp2_with (at_make; refine wpList_make_full _ rfl _ _ 38 rfl w1.heap.size 3 i0 (.int .i64 0) 1 Tryz.underlying38 hi hz0 hz1 .i64 .i64 _ _ n rfl rfl rfl rfl (by rw [hz2]; omega) (by unfold maxLen; omega) (Nat.le_refl _) ?_; intro w2 hown hgrow; have H2 : Hid _ := lens_made HNZ.out.1 H1.out.1 H1.out.2 hown hgrow; clear hown hgrow hi hz0 hz1 hz2)
    go_loopw [47, 8] (fun i lv W => ∃ k : Nat, k ≤ L ∧ i = .int .i64 k ∧ OVV W w0.heap.size lv (rnd (coinsS zs) k) ∧ OwI W w1.heap.size w1.heap.size n (List.replicate zs.length 0) ∧ OVV W w0.heap.size (.slice la m lc) (coinsL zs zs.length) ∧ Below w0.heap.size w0 W) (fun i _ _ => L - (intOf i).toNat)
    case atStart => exact ⟨0, Nat.zero_le _, rfl, OVV.nil _ _, H2.out.1, H2.out.2.1, H2.out.2.2.1⟩
    case round =>
      obtain ⟨k, hk, rfl, hlv, hlens, hcs, hbel⟩ := hrel
      have HR : Hid (OVV wr w0.heap.size u8 (rnd (coinsS zs) k) ∧ OwI wr w1.heap.size w1.heap.size n (List.replicate zs.length 0) ∧ OVV wr w0.heap.size (.slice la m lc) (coinsL zs zs.length) ∧ Below w0.heap.size w0 wr) := ⟨hlv, hlens, hcs, hbel⟩
      clear hlv hlens hcs hbel
      have hinv := rnd_inv HZ.out.1 HZ.out.2.1 k
      obtain ⟨N, hN⟩ : ∃ N, N = (rnd (coinsS zs) k).length := ⟨_, rfl⟩
      have hN160 : N ≤ 160 := by rw [hN]; have := hinv.2.2; rw [HMS.out.1] at this; omega
      obtain ⟨lb, ld, hv8, hpc8, hcap8⟩ := HR.out.1.slice
      rw [← hN] at hv8 hcap8
      subst hv8
      have HN : Hid (N = (rnd (coinsS zs) k).length ∧ Pcs wr lb (rnd (coinsS zs) k)) := ⟨hN, hpc8⟩
      clear hinv hpc8
      by_cases hkL : k < L
      · have hkL2 : (k : Int) < (L : Int) := by omega
        have HPO := packsOf_any lb ld (rnd (coinsS zs) k) wr HN.out.2 (by rw [← HN.out.1]; omega) (fun p hp => (fine_of HZ.out.1 HZ.out.2.1 k (by omega) p hp).1)
        rw [← HN.out.1] at HPO
        clear hN
        go_wp2_with fail
        refine HPO.mono ?_
        clear HPO
        rintro e w5 ⟨v5, rfl, ho5, hb5⟩
        obtain ⟨l5, d5, hv5, hp5, -⟩ := ho5.slice
        rw [pairL_len] at hv5
        subst hv5
        have hcs5 := HR.out.2.2.1.below hb5
        obtain ⟨la', lc', e', hpc5, -⟩ := hcs5.slice
        simp only [Value.slice.injEq] at e'
        obtain ⟨rfl, -, rfl⟩ := e'
        have H5 : Hid (OwI w5 w1.heap.size w1.heap.size n (List.replicate zs.length 0) ∧ OVV w5 w0.heap.size (.slice la m lc) (coinsL zs zs.length) ∧ Below w0.heap.size w0 w5) := ⟨HR.out.2.1.below hb5 (Nat.le_refl _), hcs5, HR.out.2.2.2.trans (hb5.mono HR.out.2.2.2.size)⟩
        have HRO := pcRound_any la l5 lc d5 m (N / 2) zs k w5 HZ.out.1 HZ.out.2.1 (by omega) (by rw [HMS.out.1]; omega) HMS.out.2 (by rw [HN.out.1]) hpc5 hp5
        clear ho5 hb5 hp5 hcs5 hpc5
        go_wp2_with fail
        refine HRO.mono ?_
        clear HRO
        rintro e w6 ⟨v6, rfl, ho6, hb6⟩
        have H6 : Hid (OVV w6 w0.heap.size v6 (rnd (coinsS zs) (k + 1)) ∧ OwI w6 w1.heap.size w1.heap.size n (List.replicate zs.length 0) ∧ OVV w6 w0.heap.size (.slice la m lc) (coinsL zs zs.length) ∧ Below w0.heap.size w0 w6) := ⟨ho6.mono H5.out.2.2.size, H5.out.1.below hb6 (Nat.le_refl _), H5.out.2.1.below hb6, H5.out.2.2.trans (hb6.mono H5.out.2.2.size)⟩
        clear ho6 hb6
        go_wp2
        go_roundw
        case rel => exact ⟨k + 1, by omega, by go_num, H6.out.1, H6.out.2.1, H6.out.2.2.1, H6.out.2.2.2⟩
        case measure => simp [intOf]; omega
      · have hkk : k = L := by omega
        have hkL2 : ¬ (k : Int) < (L : Int) := by omega
        subst hkk
        obtain ⟨Q, hQ⟩ : ∃ Q, Q = 2 * m - 2 := ⟨_, rfl⟩
        have hQi : 2 * (m : Int) - 2 = (Q : Int) := by omega
        have hQN : Q ≤ N := by
          have := rnd_enough (coinsS zs) k HZ.out.2.2.2 HZ.out.2.2.1
          rw [HMS.out.1, ← HN.out.1] at this
          omega
        have hQ0 : 1 ≤ Q := by omega
        rw [← hQ] at HV
        obtain ⟨b8, o8, hlb, hb8, hc8⟩ := HN.out.2 (by rw [← HN.out.1]; omega)
        subst hlb
        obtain ⟨i1, hif, -, hsz1, -⟩ := info_parts Tryz.infoPc
        have hsl : ∀ W, (Instr.slice 163 (.slice (some ⟨b8, o8, none⟩) N ld) none (some (.int .i64 (Q : Int))) none).run Tryz.prog W = .ok (.slice (some ⟨b8, o8, none⟩) Q ld) W := by
          intro W
          rw [run_slice_h W 163 _ _ _ (by simp [Program.elem, Tryz.underlying163]) .i64 _ (by omega) (by omega)]
          simp [Program.elem, Tryz.underlying163, Go.sizeOf, typeInfo, hif, hsz1, Result.andThen, sliced, Addr.add]
        obtain ⟨tg, htg⟩ := HR.out.2.1.tag
        have hbg : b8 ≠ w1.heap.size := fun e => (HR.out.1.tagne htg (by decide)) (by simp [Value.ownBlock, e])
        have HC8 : Hid ((∀ i, i < Q → wr.cell? ⟨b8, o8 + i, none⟩ = some ((rnd (coinsS zs) k).getD i dpc).vl) ∧ b8 ≠ w1.heap.size ∧ Q ≤ (rnd (coinsS zs) k).length ∧ Q ≤ 160) := ⟨fun i hi => hc8 i (by rw [← HN.out.1]; omega), hbg, by rw [← HN.out.1]; exact hQN, by omega⟩
        have mA := Tryz.meth_coin_countInto
        have mB := Tryz.meth_coinPack_countInto
        clear hc8 hbg htg hif hsz1 hQ hN
        generalize wr = V8 at *
        go_wp2
        go_loopw [61] (fun i W => ∃ j : Nat, j ≤ Q ∧ i = .int .i64 j ∧ OwI W w0.heap.size w1.heap.size n (cntL ((rnd (coinsS zs) k).take j) (List.replicate zs.length 0)) ∧ Only (fun b => b = w1.heap.size) V8 W) (fun i _ => Q - (intOf i).toNat)
        case atStart => exact ⟨0, Nat.zero_le _, rfl, HR.out.2.1.mono H2.out.2.2.2.1, Only.refl _ _⟩
        case round =>
          obtain ⟨j, hj, rfl, hlens, hon⟩ := hrel
          by_cases hjQ : j < Q
          · have hjQ2 : (j : Int) < (Q : Int) := by omega
            obtain ⟨p, hpp⟩ : ∃ p, p = (rnd (coinsS zs) k).getD j dpc := ⟨_, rfl⟩
            obtain ⟨hpf, hpo, hps⟩ := fine_of HZ.out.1 HZ.out.2.1 k hL2 p (by rw [hpp]; exact getD_memP2 (by have := HC8.out.2.2.1; omega))
            have hlen8 := HC8.out.2.2
            rcases p.counted with ⟨x, hvx, hCI⟩ | ⟨x, hvx, hCI⟩
            · rw [hpp] at hvx
              have hcj := HC8.out.1 j hjQ
              rw [hvx] at hcj
              have hcw := hon.cell hb8 (fun e => HC8.out.2.1 e) hcj
              have hcx := hCI w0.heap.size w1.heap.size n (cntL ((rnd (coinsS zs) k).take j) (List.replicate zs.length 0)) wr 2000000000000 hlens (by rw [cntL_len, List.length_replicate]; exact hpo) (by omega) (cntL_step_rng HZ.out.1 HZ.out.2.1 k hL2 j (by omega)) (by omega)
              rw [cntL_len, H2.out.2.2.2.2.1, hpp, ← cntL_step (rnd (coinsS zs) k) _ j (by omega)] at hcx
              have HCX := hcx
              have HON : Hid (Only (fun b => b = w1.heap.size) V8 wr) := hon
              clear hcx hCI hvx hcj hon hlens hpp hpf hpo hps
              go_wp2_with fail
              refine HCX.mono ?_
              rintro e w9 ⟨rfl, ho9, on9⟩
              have H9 : Hid (OwI w9 w0.heap.size w1.heap.size n (cntL ((rnd (coinsS zs) k).take (j + 1)) (List.replicate zs.length 0)) ∧ Only (fun b => b = w1.heap.size) V8 w9) := ⟨ho9, HON.out.trans on9⟩
              clear ho9 on9
              go_wp2
              go_roundw
              case rel => exact ⟨j + 1, by omega, by go_num, H9.out.1, H9.out.2⟩
              case measure => simp [intOf]; omega
            · rw [hpp] at hvx
              have hcj := HC8.out.1 j hjQ
              rw [hvx] at hcj
              have hcw := hon.cell hb8 (fun e => HC8.out.2.1 e) hcj
              have hcx := hCI w0.heap.size w1.heap.size n (cntL ((rnd (coinsS zs) k).take j) (List.replicate zs.length 0)) wr 2000000000000 hlens (by rw [cntL_len, List.length_replicate]; exact hpo) (by omega) (cntL_step_rng HZ.out.1 HZ.out.2.1 k hL2 j (by omega)) (by omega)
              rw [cntL_len, H2.out.2.2.2.2.1, hpp, ← cntL_step (rnd (coinsS zs) k) _ j (by omega)] at hcx
              have HCX := hcx
              have HON : Hid (Only (fun b => b = w1.heap.size) V8 wr) := hon
              clear hcx hCI hvx hcj hon hlens hpp hpf hpo hps
              go_wp2_with fail
              refine HCX.mono ?_
              rintro e w9 ⟨rfl, ho9, on9⟩
              have H9 : Hid (OwI w9 w0.heap.size w1.heap.size n (cntL ((rnd (coinsS zs) k).take (j + 1)) (List.replicate zs.length 0)) ∧ Only (fun b => b = w1.heap.size) V8 w9) := ⟨ho9, HON.out.trans on9⟩
              clear ho9 on9
              go_wp2
              go_roundw
              case rel => exact ⟨j + 1, by omega, by go_num, H9.out.1, H9.out.2⟩
              case measure => simp [intOf]; omega
          · have hjj : j = Q := by omega
            have hjQ2 : ¬ (j : Int) < (Q : Int) := by omega
            have H9 : Hid (OwI wr w0.heap.size w1.heap.size n (lensV zs k) ∧ Below w0.heap.size w0 wr) := by
              rw [hjj, ← HV.out] at hlens
              exact ⟨hlens, HR.out.2.2.2.trans (hon.below HR.out.2.2.2.size (fun i hi => by rw [hi]; exact H2.out.2.2.2.1))⟩
            clear hlens hon hjj
            go_wp2
            go_ret2
            exact ⟨⟨_, rfl, H9.out.1⟩, H9.out.2⟩
end Go.Proofs.YtfeokafkhnbdiaaGreatDoor
