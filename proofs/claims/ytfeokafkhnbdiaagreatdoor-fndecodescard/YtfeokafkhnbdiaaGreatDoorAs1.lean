/-
  errors.As at a target of type **lensError: at nil false, at a *lensError true. After the manner of the guide's worked toy.
-/
import Derived.Test.YtfeokafkhnbdiaaGreatDoorPcU
import Derived.Test.YtfeokafkhnbdiaaGreatDoorICntI
import Derived.LaidEql
import Derived.Stop.Asserts
import Derived.RowKitTokens
namespace Go.Proofs.YtfeokafkhnbdiaaGreatDoor
open Go.RowKit
set_option linter.unusedVariables false
set_option linter.unusedSimpArgs false

/-- What a measure has over a list of parcels. -/
def tot (f : Pc → Nat) (l : List Pc) : Nat := (l.map f).sum
theorem tot_app (f : Pc → Nat) (l m : List Pc) : tot f (l ++ m) = tot f l + tot f m := by simp [tot]
theorem tot_cons (f : Pc → Nat) (p : Pc) (l : List Pc) : tot f (p :: l) = f p + tot f l := by simp [tot]
theorem tot_perm (f : Pc → Nat) {l m : List Pc} (h : l.Perm m) : tot f l = tot f m := (h.map f).sum_nat
/-- A pack has what its two have. -/
def Addv (f : Pc → Nat) : Prop := ∀ a b n, f (.pack a b n) = f a + f b
def occ (s : Nat) : Pc → Nat
  | .coin t c => if t = s then 1 else 0
  | .pack a b n => occ s a + occ s b
theorem occ_add (s : Nat) : Addv (occ s) := fun _ _ _ => rfl
theorem wt_add : Addv Pc.wt := fun _ _ _ => rfl
/-- The lighter ones are first. -/
def WS (l : List Pc) : Prop := l.Pairwise (fun p q => p.wt ≤ q.wt)
theorem WS_of_KS {l : List Pc} (h : KS l) (hp : ∀ p ∈ l, p.plc < 1024) : WS l := by
  refine List.pairwise_iff_getElem.2 fun i j hi hj hij => ?_
  have h1 := List.pairwise_iff_getElem.1 h i j hi hj hij
  have p1 := hp l[i] (List.getElem_mem _)
  have p2 := hp l[j] (List.getElem_mem _)
  unfold Pc.key at h1
  omega
theorem mrg_take : ∀ (a b : List Pc) (m : Nat), WS a → m ≤ a.length + b.length → ∃ c p, c + p = m ∧ c ≤ a.length ∧ p ≤ b.length ∧ ((mrg a b).take m).Perm (a.take c ++ b.take p) ∧ ∀ x ∈ a.drop c, ∀ y ∈ b.take p, y.wt < x.wt
  | [], b, m, _, hm => ⟨0, m, by omega, by simp, by simpa using hm, by rw [mrg]; simp, by simp⟩
  | a :: ar, [], m, _, hm => ⟨m, 0, by omega, by simpa using hm, by simp, by rw [mrg]; simp, by simp⟩
  | a :: ar, b :: br, 0, _, _ => ⟨0, 0, rfl, by simp, by simp, by simp, by simp⟩
  | a :: ar, b :: br, m + 1, hw, hm => by
    obtain ⟨h1, h2⟩ := List.pairwise_cons.1 hw
    rw [mrg]
    split
    · obtain ⟨c, p, e, hc, hp, hP, hx⟩ := mrg_take ar (b :: br) m h2 (by simp at hm ⊢; omega)
      refine ⟨c + 1, p, by omega, by simp; omega, hp, ?_, by simpa using hx⟩
      simpa using List.Perm.cons a hP
    · rename_i hlt
      obtain ⟨c, p, e, hc, hp, hP, hx⟩ := mrg_take (a :: ar) br m hw (by simp at hm ⊢; omega)
      refine ⟨c, p + 1, by omega, hc, by simp; omega, ?_, ?_⟩
      · simp only [List.take_succ_cons]
        exact (List.Perm.cons b hP).trans List.perm_middle.symm
      · intro x hxm y hy
        simp only [List.take_succ_cons, List.mem_cons] at hy
        rcases hy with rfl | hy
        · rcases List.mem_cons.1 (List.mem_of_mem_drop hxm) with rfl | hx'
          · omega
          · have := h1 x hx'; omega
        · exact hx x hxm y hy
termination_by a b => a.length + b.length
theorem pairL_take (l : List Pc) (p : Nat) : ∀ k, p ≤ k → (pairL l k).take p = pairL l p
  | 0, h => by obtain rfl : p = 0 := by omega
               rfl
  | k + 1, h => by
    by_cases hk : p ≤ k
    · simp only [pairL]
      rw [List.take_append_of_le_length (by rw [pairL_len]; exact hk)]
      exact pairL_take l p k hk
    · obtain rfl : p = k + 1 := by omega
      rw [List.take_of_length_le (by rw [pairL_len]; exact Nat.le_refl _)]
theorem tot_pair {f : Pc → Nat} (hf : Addv f) (l : List Pc) : ∀ p, 2 * p ≤ l.length → tot f (pairL l p) = tot f (l.take (2 * p))
  | 0, _ => by simp [pairL, tot]
  | p + 1, h => by
    have ih := tot_pair hf l p (by omega)
    rw [show 2 * (p + 1) = 2 * p + 1 + 1 by omega, List.take_succ_eq_append_getElem (by omega), List.take_succ_eq_append_getElem (by omega)]
    simp only [pairL, tot_app, tot_cons]
    rw [ih, hf, List.getD_eq_getElem?_getD, List.getElem?_eq_getElem (by omega), List.getD_eq_getElem?_getD, List.getElem?_eq_getElem (by omega)]
    simp [tot]
    omega
/-- Of each symbol's rank k: how many of the prefixes have it. -/
def lam (cs : List Nat) (k : Nat) : Nat := cs.countP (fun c => decide (k < c))
def pmv : List Nat → Nat
  | [] => 0
  | c :: cs => c * 2 ^ cs.length + pmv cs
theorem chain {S : List Pc} (hS : WS S) : ∀ (r m : Nat), m ≤ (rnd S r).length → ∃ cs : List Nat, cs.length = r ∧ (∀ c ∈ cs, c ≤ S.length) ∧ cs.Pairwise (fun c d => d ≤ c) ∧ (∀ f, Addv f → tot f ((rnd S r).take m) = (cs.map (fun c => tot f (S.take c))).sum) ∧ 2 * pmv cs = m * 2 ^ r ∧ ∀ c ∈ cs, ∀ x ∈ S.take c, ∃ y ∈ (rnd S r).take m, x.wt ≤ y.wt
  | 0, m, hm => ⟨[], rfl, by simp, .nil, fun f hf => by simp [rnd, tot], by simp [rnd] at hm; simp [pmv, hm], by simp⟩
  | r + 1, m, hm => by
    have hlen : (rnd S (r + 1)).length = S.length + (rnd S r).length / 2 := by
      show (mrg _ _).length = _
      rw [(mrg_perm _ _).length_eq, List.length_append, pairL_len]
    obtain ⟨c, p, e, hc, hp, hP, hx⟩ := mrg_take S (pairL (rnd S r) ((rnd S r).length / 2)) m hS (by rw [pairL_len]; omega)
    rw [pairL_len] at hp
    rw [pairL_take _ _ _ hp] at hP hx
    obtain ⟨cs, h1, h2, h3, h4, h5, h6⟩ := chain hS r (2 * p) (by omega)
    have hpk : ∀ y ∈ (rnd S r).take (2 * p), ∃ z ∈ pairL (rnd S r) p, y.wt ≤ z.wt := fun y hy => by
      obtain ⟨i, hi, rfl⟩ := List.getElem_of_mem hy
      rw [List.length_take] at hi
      rw [List.getElem_take]
      have hg := pairL_get (rnd S r) p (i / 2) (by omega)
      refine ⟨(pairL (rnd S r) p).getD (i / 2) dpc, ?_, ?_⟩
      · rw [List.getD_eq_getElem?_getD, List.getElem?_eq_getElem (by rw [pairL_len]; omega)]
        exact List.getElem_mem _
      · rw [hg]
        simp only [Pc.wt]
        have g : ∀ j, (hj : j < (rnd S r).length) → (rnd S r).getD j dpc = (rnd S r)[j] := fun j hj => by rw [List.getD_eq_getElem?_getD, List.getElem?_eq_getElem hj]; rfl
        rcases Nat.mod_two_eq_zero_or_one i with hm | hm
        · rw [g (2 * (i / 2)) (by omega)]
          simp only [show 2 * (i / 2) = i by omega]
          omega
        · rw [g (2 * (i / 2) + 1) (by omega)]
          simp only [show 2 * (i / 2) + 1 = i by omega]
          omega
    have hnest : ∀ d ∈ cs, d ≤ c := fun d hd => by
      rcases Nat.lt_or_ge c d with hlt | hge
      · have hdS := h2 d hd
        have hcS : c < S.length := by omega
        have m1 : S[c] ∈ S.take d := List.mem_iff_getElem.2 ⟨c, by rw [List.length_take]; omega, by simp⟩
        have m2 : S[c] ∈ S.drop c := List.mem_iff_getElem.2 ⟨0, by rw [List.length_drop]; omega, by simp⟩
        obtain ⟨y, hy, hw⟩ := h6 d hd _ m1
        obtain ⟨z, hz, hw2⟩ := hpk y hy
        have := hx _ m2 z hz
        omega
      · exact hge
    refine ⟨c :: cs, by simp [h1], ?_, List.pairwise_cons.2 ⟨hnest, h3⟩, fun f hf => ?_, ?_, ?_⟩
    · intro d hd
      rcases List.mem_cons.1 hd with rfl | hd
      · exact hc
      · exact h2 d hd
    · show tot f ((mrg _ _).take m) = _
      rw [tot_perm f hP, tot_app, tot_pair hf _ _ (by omega), h4 f hf]
      simp
    · simp only [pmv]
      rw [h1, Nat.mul_add, h5, ← e, Nat.pow_succ]
      generalize 2 ^ r = z
      have e1 : 2 * (c * z) = c * (z * 2) := by rw [Nat.mul_left_comm, Nat.mul_comm 2 z]
      have e2 : 2 * p * z = p * (z * 2) := by rw [Nat.mul_comm 2 p, Nat.mul_assoc, Nat.mul_comm 2 z]
      rw [e1, e2, ← Nat.add_mul]
    · intro d hd x hxm
      rcases List.mem_cons.1 hd with rfl | hd
      · exact ⟨x, hP.mem_iff.2 (List.mem_append_left _ hxm), Nat.le_refl _⟩
      · obtain ⟨y, hy, hw⟩ := h6 d hd x hxm
        obtain ⟨z, hz, hw2⟩ := hpk y hy
        exact ⟨z, hP.mem_iff.2 (List.mem_append_right _ hz), by omega⟩

theorem sum_nought {l : List Nat} (h : ∀ z ∈ l, z = 0) : l.sum = 0 := by
  induction l with
  | nil => rfl
  | cons x l ih => rw [List.sum_cons, h x (by simp), ih (fun z hz => h z (by simp [hz]))]
def sumN (g : Nat → Nat) : Nat → Nat
  | 0 => 0
  | n + 1 => sumN g n + g n
theorem sumN_congr {g h : Nat → Nat} : ∀ {n : Nat}, (∀ k, k < n → g k = h k) → sumN g n = sumN h n
  | 0, _ => rfl
  | n + 1, e => by rw [sumN, sumN, sumN_congr (fun k hk => e k (by omega)), e n (by omega)]
theorem sumN_add (g h : Nat → Nat) : ∀ n, sumN (fun k => g k + h k) n = sumN g n + sumN h n
  | 0 => rfl
  | n + 1 => by simp only [sumN]; rw [sumN_add g h n]; omega
theorem sumN_mul (A : Nat) (g : Nat → Nat) : ∀ n, sumN (fun k => A * g k) n = A * sumN g n
  | 0 => rfl
  | n + 1 => by simp only [sumN]; rw [sumN_mul A g n, Nat.mul_add]
theorem sumN_const (A : Nat) : ∀ n, sumN (fun _ => A) n = n * A
  | 0 => by simp [sumN]
  | n + 1 => by simp only [sumN]; rw [sumN_const A n, Nat.add_mul, Nat.one_mul]
theorem sumN_ite (A c : Nat) : ∀ n, sumN (fun k => if k < c then A else 0) n = min c n * A
  | 0 => by simp [sumN]
  | n + 1 => by
    simp only [sumN]
    rw [sumN_ite A c n]
    split
    · rw [show min c (n + 1) = n + 1 by omega, show min c n = n by omega, Nat.add_mul, Nat.one_mul]
    · rw [show min c (n + 1) = min c n by omega]; rfl
theorem sumN_ge {g : Nat → Nat} (h1 : ∀ k, 1 ≤ g k) : ∀ (n i : Nat), i < n → g i + (n - 1) ≤ sumN g n
  | 0, i, h => by omega
  | n + 1, i, h => by
    simp only [sumN]
    by_cases e : i = n
    · subst e
      have : i ≤ sumN g i := by
        clear h
        induction i with
        | zero => exact Nat.zero_le _
        | succ j ih => simp only [sumN]; have := h1 j; omega
      omega
    · have := sumN_ge h1 n i (by omega)
      have := h1 n
      omega
theorem lam_zero {cs : List Nat} {k : Nat} (h : ∀ c ∈ cs, c ≤ k) : lam cs k = 0 := by
  unfold lam
  rw [List.countP_eq_zero]
  intro c hc
  have := h c hc
  simp; omega
theorem lam_le (cs : List Nat) (k : Nat) : lam cs k ≤ cs.length := List.countP_le_length
theorem lam_mono (cs : List Nat) {k l : Nat} (h : k ≤ l) : lam cs l ≤ lam cs k := by
  unfold lam
  refine List.countP_mono_left fun c _ hc => ?_
  simp at hc ⊢
  omega
theorem lam_cons (c : Nat) (cs : List Nat) (k : Nat) : lam (c :: cs) k = lam cs k + if k < c then 1 else 0 := by
  unfold lam
  rw [List.countP_cons]
  simp
/-- What the codes take of all there is. -/
theorem kraft (n : Nat) : ∀ cs : List Nat, cs.Pairwise (fun c d => d ≤ c) → (∀ c ∈ cs, c ≤ n) → sumN (fun k => 2 ^ (cs.length - lam cs k)) n + pmv cs = n * 2 ^ cs.length
  | [], _, _ => by
    simp only [pmv, lam, List.countP_nil, List.length_nil, Nat.sub_self, Nat.pow_zero, Nat.mul_one, Nat.add_zero]
    rw [sumN_const]; omega
  | c :: cs, hp, hn => by
    obtain ⟨h1, h2⟩ := List.pairwise_cons.1 hp
    have ih := kraft n cs h2 (fun d hd => hn d (by simp [hd]))
    have hc := hn c (by simp)
    have e : sumN (fun k => 2 ^ ((c :: cs).length - lam (c :: cs) k)) n + sumN (fun k => if k < c then 2 ^ cs.length else 0) n = sumN (fun k => 2 ^ (cs.length - lam cs k)) n + sumN (fun _ => 2 ^ cs.length) n := by
      rw [← sumN_add, ← sumN_add]
      refine sumN_congr fun k hk => ?_
      rw [lam_cons]
      have hl := lam_le cs k
      simp only [List.length_cons]
      by_cases hkc : k < c
      · simp only [hkc, if_true]
        rw [show cs.length + 1 - (lam cs k + 1) = cs.length - lam cs k by omega]
      · simp only [hkc, if_false]
        rw [lam_zero (fun d hd => by have := h1 d hd; omega)]
        simp only [Nat.add_zero, Nat.sub_zero, Nat.pow_succ]
        omega
    rw [sumN_ite, sumN_const, show min c n = c by omega] at e
    simp only [pmv, List.length_cons, Nat.pow_succ]
    simp only [List.length_cons] at e
    generalize 2 ^ cs.length = z at *
    rw [Nat.mul_comm z 2, Nat.mul_left_comm, Nat.two_mul]
    omega
/-- All coins, no two of one symbol. -/
def Cns (S : List Pc) : Prop := S.Pairwise (fun p q => p.plc ≠ q.plc) ∧ ∀ p ∈ S, ∃ s c, p = .coin s c
theorem tot_occ : ∀ {S : List Pc}, Cns S → ∀ (k : Nat) (hk : k < S.length) (c : Nat), tot (occ S[k].plc) (S.take c) = if k < c then 1 else 0
  | [], _, k, hk, _ => by simp at hk
  | x :: S, h, k, hk, 0 => by simp [tot]
  | x :: S, h, k, hk, c + 1 => by
    obtain ⟨h1, h2⟩ := h
    obtain ⟨p1, p2⟩ := List.pairwise_cons.1 h1
    have hS : Cns S := ⟨p2, fun p hp => h2 p (by simp [hp])⟩
    obtain ⟨s, w, rfl⟩ := h2 x (by simp)
    simp only [List.take_succ_cons, tot_cons]
    cases k with
    | zero =>
      simp only [List.getElem_cons_zero, Pc.plc, occ, if_true]
      have : tot (occ s) (S.take c) = 0 := by
        unfold tot
        refine sum_nought ?_
        intro z hz
        obtain ⟨q, hq, rfl⟩ := List.mem_map.1 hz
        have hq := List.mem_of_mem_take hq
        obtain ⟨t, v, rfl⟩ := hS.2 q hq
        have := p1 _ hq
        simp only [Pc.plc] at this
        simp only [occ]
        rw [if_neg (by omega)]
      rw [this]
      simp
    | succ k =>
      simp only [List.getElem_cons_succ]
      have hk' : k < S.length := by simpa using hk
      have ih := tot_occ hS k hk' c
      have hne : s ≠ S[k].plc := p1 _ (List.getElem_mem hk')
      rw [ih]
      simp only [occ]
      rw [if_neg hne]
      by_cases hkc : k < c
      · rw [if_pos hkc, if_pos (by omega)]
      · rw [if_neg hkc, if_neg (by omega)]
theorem tot_occ_no {S : List Pc} (h : Cns S) {s : Nat} (hs : ∀ p ∈ S, p.plc ≠ s) (c : Nat) : tot (occ s) (S.take c) = 0 := by
  unfold tot
  refine sum_nought ?_
  intro z hz
  obtain ⟨q, hq, rfl⟩ := List.mem_map.1 hz
  have hq := List.mem_of_mem_take hq
  obtain ⟨t, v, rfl⟩ := h.2 q hq
  have := hs _ hq
  simp only [Pc.plc] at this
  simp only [occ]
  rw [if_neg (by omega)]
theorem sum_lam {S : List Pc} (h : Cns S) (k : Nat) (hk : k < S.length) : ∀ cs : List Nat, (cs.map (fun c => tot (occ S[k].plc) (S.take c))).sum = lam cs k
  | [] => rfl
  | c :: cs => by
    rw [lam_cons, List.map_cons, List.sum_cons, sum_lam h k hk cs, tot_occ h k hk]
    omega
/-- What is taken at the end: the lengths of the codes, by rank. -/
theorem taken {S : List Pc} (hS : WS S) (hC : Cns S) (hn : 2 ≤ S.length) {L : Nat} (hL : 1 ≤ L) (h2 : S.length ≤ 2 ^ L) : ∃ cs : List Nat, cs.length = L ∧ (∀ k (hk : k < S.length), tot (occ S[k].plc) ((rnd S L).take (2 * S.length - 2)) = lam cs k) ∧ (∀ s, (∀ p ∈ S, p.plc ≠ s) → tot (occ s) ((rnd S L).take (2 * S.length - 2)) = 0) ∧ tot Pc.wt ((rnd S L).take (2 * S.length - 2)) = (cs.map (fun c => tot Pc.wt (S.take c))).sum ∧ (∀ c ∈ cs, c ≤ S.length) ∧ sumN (fun k => 2 ^ (L - lam cs k)) S.length = 2 ^ L ∧ ∀ k, k < S.length → 1 ≤ lam cs k := by
  obtain ⟨cs, h1, hc, h3, h4, h5, -⟩ := chain hS L (2 * S.length - 2) (rnd_enough S L hL h2)
  have hK := kraft S.length cs h3 hc
  rw [h1] at hK
  have hV : sumN (fun k => 2 ^ (L - lam cs k)) S.length = 2 ^ L := by
    generalize sumN (fun k => 2 ^ (L - lam cs k)) S.length = q at *
    generalize 2 ^ L = z at *
    obtain ⟨m, hm⟩ : ∃ m, S.length = m + 1 := ⟨S.length - 1, by omega⟩
    rw [hm] at hK h5
    rw [show 2 * (m + 1) - 2 = 2 * m by omega, Nat.mul_assoc] at h5
    rw [Nat.add_mul, Nat.one_mul] at hK
    omega
  refine ⟨cs, h1, fun k hk => ?_, fun s hs => ?_, h4 _ wt_add, hc, hV, fun k hk => ?_⟩
  · rw [h4 _ (occ_add _), sum_lam hC k hk]
  · rw [h4 _ (occ_add _)]
    refine sum_nought ?_
    intro z hz
    obtain ⟨c, _, rfl⟩ := List.mem_map.1 hz
    exact tot_occ_no hC hs c
  · rcases Nat.lt_or_ge 0 (lam cs k) with h | h
    · exact h
    · have h0 : lam cs k = 0 := by omega
      have := sumN_ge (g := fun k => 2 ^ (L - lam cs k)) (fun k => Nat.one_le_two_pow) S.length k hk
      rw [hV] at this
      simp only [h0, Nat.sub_zero] at this
      omega

theorem coinsL_plc (zs : List Int) : ∀ k, ∀ p ∈ coinsL zs k, ∃ s, s < k ∧ 0 < zs.getD s 0 ∧ p = .coin s (zs.getD s 0).toNat
  | 0, p, h => by simp [coinsL] at h
  | k + 1, p, h => by
    simp only [coinsL] at h
    split at h
    · rename_i hz
      rcases List.mem_append.1 h with h | h
      · obtain ⟨s, h1, h2⟩ := coinsL_plc zs k p h
        exact ⟨s, by omega, h2⟩
      · exact ⟨k, by omega, hz, by simpa using h⟩
    · obtain ⟨s, h1, h2⟩ := coinsL_plc zs k p h
      exact ⟨s, by omega, h2⟩
theorem coinsL_pw (zs : List Int) : ∀ k, (coinsL zs k).Pairwise (fun p q => p.plc ≠ q.plc)
  | 0 => .nil
  | k + 1 => by
    simp only [coinsL]
    split
    · refine List.pairwise_append.2 ⟨coinsL_pw zs k, by simp, fun p hp q hq => ?_⟩
      obtain ⟨s, h1, _, rfl⟩ := coinsL_plc zs k p hp
      simp at hq
      subst hq
      show s ≠ k
      omega
    · exact coinsL_pw zs k
theorem coinsL_has (zs : List Int) : ∀ k s, s < k → 0 < zs.getD s 0 → .coin s (zs.getD s 0).toNat ∈ coinsL zs k
  | 0, s, h, _ => by omega
  | k + 1, s, h, hz => by
    simp only [coinsL]
    by_cases e : s = k
    · subst e
      rw [if_pos hz]
      simp
    · have := coinsL_has zs k s (by omega) hz
      split
      · exact List.mem_append_left _ this
      · exact this
theorem coinsS_Cns (zs : List Int) : Cns (coinsS zs) := by
  have hp := srt_perm zs zs.length
  refine ⟨(hp.pairwise_iff (R := fun p q => p.plc ≠ q.plc) (fun h => Ne.symm h)).2 (coinsL_pw zs _), fun p h => ?_⟩
  obtain ⟨s, _, _, e⟩ := coinsL_plc zs _ p (hp.mem_iff.1 h)
  exact ⟨s, _, e⟩
theorem coinsS_WS {zs : List Int} (hn : zs.length ≤ 80) : WS (coinsS zs) :=
  WS_of_KS (srt_KS zs _ hn) (fun p hp => by have := srt_plc zs _ p hp; omega)
theorem coinsS_at (zs : List Int) (k : Nat) (hk : k < (coinsS zs).length) : ∃ s, s < zs.length ∧ 0 < zs.getD s 0 ∧ (coinsS zs)[k] = .coin s (zs.getD s 0).toNat :=
  coinsL_plc zs _ _ ((srt_perm zs zs.length).mem_iff.1 (List.getElem_mem hk))
theorem coinsS_has (zs : List Int) (s : Nat) (hs : s < zs.length) (hz : 0 < zs.getD s 0) : ∃ k, ∃ h : k < (coinsS zs).length, (coinsS zs)[k] = .coin s (zs.getD s 0).toNat := by
  obtain ⟨k, hk, e⟩ := List.getElem_of_mem ((srt_perm zs zs.length).mem_iff.2 (coinsL_has zs _ s hs hz))
  exact ⟨k, hk, e⟩
theorem bump_get (zs : List Int) (t s : Nat) (ht : t < zs.length) : (bump zs (t : Int)).getD s 0 = zs.getD s 0 + if t = s then 1 else 0 := by
  unfold bump
  rw [Int.toNat_natCast]
  simp only [List.getD_eq_getElem?_getD, List.getElem?_set]
  by_cases h : t = s
  · subst h
    simp [ht]
  · simp [h]
theorem cntP_get (s : Nat) (p : Pc) : ∀ zs : List Int, p.ok zs.length → (cntP p zs).getD s 0 = zs.getD s 0 + (occ s p : Nat) := by
  induction p with
  | coin t c =>
    intro zs h
    simp only [cntP, occ]
    rw [bump_get zs t s h.1]
    split <;> simp
  | pack a b n iha ihb =>
    intro zs h
    simp only [cntP, occ]
    rw [ihb _ (by rw [cntP_len]; exact h.2), iha _ h.1]
    simp
    omega
theorem cntL_get (s : Nat) : ∀ (l : List Pc) (zs : List Int), (∀ p ∈ l, p.ok zs.length) → (cntL l zs).getD s 0 = zs.getD s 0 + (tot (occ s) l : Nat)
  | [], zs, _ => by simp [cntL, tot]
  | p :: l, zs, h => by
    rw [cntL, cntL_get s l _ (fun q hq => by rw [cntP_len]; exact h q (by simp [hq])), cntP_get s p zs (h p (by simp)), tot_cons]
    simp
    omega
theorem noughts_get (n s : Nat) : (List.replicate n (0 : Int)).getD s 0 = 0 := by
  rw [List.getD_eq_getElem?_getD]
  by_cases h : s < n
  · simp [h]
  · simp [h]
/-- What is known of the lengths that are made: by rank, lm. -/
structure LF (zs ls : List Int) (L : Nat) (lm : Nat → Nat) : Prop where
  len : ls.length = zs.length
  at_ : ∀ k (hk : k < (coinsS zs).length), ls.getD (coinsS zs)[k].plc 0 = (lm k : Nat)
  no : ∀ s, ¬ 0 < zs.getD s 0 → ls.getD s 0 = 0
  pos : ∀ k, k < (coinsS zs).length → 1 ≤ lm k
  le : ∀ k, lm k ≤ L
  mono : ∀ k l, k ≤ l → lm l ≤ lm k
  full : 2 ≤ (coinsS zs).length → sumN (fun k => 2 ^ (L - lm k)) (coinsS zs).length = 2 ^ L
  sole : (coinsS zs).length = 1 → lm 0 = 1
theorem sumN_take (w : Nat → Nat) : ∀ c n, c ≤ n → sumN (fun k => if k < c then w k else 0) n = sumN w c
  | c, 0, h => by obtain rfl : c = 0 := by omega
                  rfl
  | c, n + 1, h => by
    by_cases e : c = n + 1
    · subst e
      exact sumN_congr fun k hk => if_pos hk
    · simp only [sumN]
      rw [sumN_take w c n (by omega), if_neg (by omega)]
      rfl
theorem tot_sumN (f : Pc → Nat) (d : Pc) : ∀ (S : List Pc) (c : Nat), c ≤ S.length → tot f (S.take c) = sumN (fun k => f (S.getD k d)) c
  | S, 0, _ => by simp [tot, sumN]
  | S, c + 1, h => by
    rw [List.take_succ_eq_append_getElem (by omega), tot_app, tot_sumN f d S c (by omega)]
    simp only [sumN]
    rw [List.getD_eq_getElem?_getD (i := c), List.getElem?_eq_getElem (by omega)]
    simp [tot]
theorem lam_cost (S : List Pc) : ∀ cs : List Nat, (∀ c ∈ cs, c ≤ S.length) → (cs.map (fun c => tot Pc.wt (S.take c))).sum = sumN (fun k => (S.getD k dpc).wt * lam cs k) S.length
  | [], _ => by
    simp only [List.map_nil, List.sum_nil, lam, List.countP_nil, Nat.mul_zero]
    rw [sumN_const]; simp
  | c :: cs, h => by
    rw [List.map_cons, List.sum_cons, lam_cost S cs (fun d hd => h d (by simp [hd])), tot_sumN _ dpc S c (h c (by simp)), ← sumN_take _ c S.length (h c (by simp)), ← sumN_add]
    refine sumN_congr fun k hk => ?_
    rw [lam_cons, Nat.mul_add]
    by_cases hkc : k < c <;> simp [hkc] <;> omega
theorem lens_facts {zs : List Int} (hc : cntB zs = true) {L : Nat} (hL : 1 ≤ L) (h1 : 1 ≤ (coinsS zs).length) (h2 : (coinsS zs).length ≤ 2 ^ L) : ∃ lm : Nat → Nat, LF zs (lensV zs L) L lm ∧ (2 ≤ (coinsS zs).length → tot Pc.wt ((rnd (coinsS zs) L).take (2 * (coinsS zs).length - 2)) = sumN (fun k => ((coinsS zs).getD k dpc).wt * lm k) (coinsS zs).length) := by
  simp only [cntB, decide_eq_true_eq] at hc
  obtain ⟨hl1, hl2, hz⟩ := hc
  by_cases hn : (coinsS zs).length = 1
  · obtain ⟨p, hp⟩ : ∃ p, coinsS zs = [p] := List.length_eq_one_iff.1 hn
    obtain ⟨s, hs, hzs, he⟩ := coinsS_at zs 0 (by omega)
    have hp0 : p = .coin s (zs.getD s 0).toNat := by rw [← he]; simp [hp]
    have hv : lensV zs L = cntP p (List.replicate zs.length 0) := by unfold lensV; rw [if_pos hn, hp]; rfl
    have hok : p.ok (List.replicate zs.length (0 : Int)).length := by rw [hp0]; exact ⟨by simpa using hs, by omega⟩
    refine ⟨fun _ => 1, ⟨lensV_len zs L, fun k hk => ?_, fun t ht => ?_, fun _ _ => Nat.le_refl _, fun _ => hL, fun _ _ _ => Nat.le_refl _, fun h => by omega, fun _ => rfl⟩, fun h => by omega⟩
    · have hk0 : k = 0 := by omega
      subst hk0
      have e : (coinsS zs)[0].plc = s := by rw [he]; rfl
      rw [e, hv, cntP_get _ _ _ hok, noughts_get, hp0]
      simp [occ]
    · rw [hv, cntP_get _ _ _ hok, noughts_get, hp0]
      simp only [occ]
      rw [if_neg (by intro e; rw [e] at hzs; exact ht hzs)]
      rfl
  · have hn2 : 2 ≤ (coinsS zs).length := by omega
    obtain ⟨cs, c1, c2, c3, c4, c5, c6, c7⟩ := taken (coinsS_WS hl2) (coinsS_Cns zs) hn2 hL h2
    have hok : ∀ p ∈ (rnd (coinsS zs) L).take (2 * (coinsS zs).length - 2), p.ok (List.replicate zs.length (0 : Int)).length := fun p hp => by
      rw [List.length_replicate]
      exact ((rnd_inv hz hl2 L).2.1 p (List.mem_of_mem_take hp)).2.2
    have hv : ∀ s, (lensV zs L).getD s 0 = (tot (occ s) ((rnd (coinsS zs) L).take (2 * (coinsS zs).length - 2)) : Nat) := fun s => by
      unfold lensV
      rw [if_neg hn, cntL_get s _ _ hok, noughts_get]
      simp
    refine ⟨lam cs, ⟨lensV_len zs L, fun k hk => by rw [hv, c2 k hk], fun t ht => ?_, c7, fun k => by rw [← c1]; exact lam_le cs k, fun k l h => lam_mono cs h, fun _ => c6, fun h => by omega⟩, fun _ => ?_⟩
    · rw [hv, c3 t ?_]
      · rfl
      · intro p hp e
        obtain ⟨k, hk, rfl⟩ := List.getElem_of_mem hp
        obtain ⟨s, hs, hzs, he⟩ := coinsS_at zs k hk
        rw [he] at e
        have : s = t := e
        rw [this] at hzs
        exact ht hzs
    · rw [c4, lam_cost _ _ c5]

def sumF (f : Int → Int) (zs : List Int) : Int := (zs.map f).sum
theorem sumF_succ (f : Int → Int) (zs : List Int) (k : Nat) (h : k < zs.length) : sumF f (zs.take (k + 1)) = sumF f (zs.take k) + f (zs.getD k 0) := by
  unfold sumF
  rw [List.take_succ_eq_append_getElem h, List.map_append, List.sum_append]
  simp [List.getD_eq_getElem?_getD, List.getElem?_eq_getElem h]
theorem sumF_bnd (f : Int → Int) (m : Int) (hf : ∀ z, 0 ≤ f z ∧ f z ≤ m) (zs : List Int) : 0 ≤ sumF f zs ∧ sumF f zs ≤ m * zs.length := by
  unfold sumF
  induction zs with
  | nil => simp
  | cons z zs ih =>
    have := hf z
    simp only [List.map_cons, List.sum_cons, List.length_cons]
    rw [show m * ((zs.length + 1 : Nat) : Int) = m * zs.length + m from by rw [Int.natCast_add, Int.mul_add]; simp]
    omega
/-- Has a code. -/
def one (z : Int) : Int := if 0 < z then 1 else 0
theorem one_bnd (z : Int) : 0 ≤ one z ∧ one z ≤ 1 := by unfold one; split <;> omega
/-- What a code takes of 2^12. -/
def share (z : Int) : Int := if 0 < z then 2 ^ (12 - z).toNat else 0
theorem pow_bnd (n : Nat) (h : n ≤ 12) : (1 : Int) ≤ 2 ^ n ∧ (2 : Int) ^ n ≤ 4096 := by
  have h1 : 1 ≤ 2 ^ n := Nat.pow_pos (by omega)
  have h2 : 2 ^ n ≤ 2 ^ 12 := Nat.pow_le_pow_right (by omega) h
  have e : ((2 : Int) ^ n) = ((2 ^ n : Nat) : Int) := by simp
  rw [e]
  omega
theorem share_bnd (z : Int) : 0 ≤ share z ∧ share z ≤ 4096 := by
  unfold share
  split
  · have := pow_bnd (12 - z).toNat (by omega); omega
  · omega
theorem wrapPow (n : Nat) (h : n ≤ 12) : wrap64 (2 ^ n) = 2 ^ n := by
  have := pow_bnd n h
  generalize (2 : Int) ^ n = y at *
  exact IntWalk.wrap64_in _ (by omega)

/-- What LensOk tells. -/
def lensB (zs : List Int) : Bool := decide (1 ≤ zs.length ∧ zs.length ≤ 80 ∧ (∀ z ∈ zs, 0 ≤ z ∧ z ≤ 12) ∧ (sumF one zs = 1 ∧ sumF share zs = 2048 ∨ 1 < sumF one zs ∧ sumF share zs = 4096))
theorem lensB_bad {zs : List Int} {k : Nat} (hk : k < zs.length) (h : ¬ (0 ≤ zs.getD k 0 ∧ zs.getD k 0 ≤ 12)) : lensB zs = false := by
  simp only [lensB, decide_eq_false_iff_not]
  exact fun h' => h (h'.2.2.1 _ (getD_mem hk))
theorem lensB_len {zs : List Int} (h : ¬ (1 ≤ zs.length ∧ zs.length ≤ 80)) : lensB zs = false := by
  simp only [lensB, decide_eq_false_iff_not]
  exact fun h' => h ⟨h'.1, h'.2.1⟩
theorem lensB_all {zs : List Int} (h1 : 1 ≤ zs.length) (h2 : zs.length ≤ 80) (h : ∀ z ∈ zs.take zs.length, 0 ≤ z ∧ z ≤ 12) : lensB zs = decide (sumF one zs = 1 ∧ sumF share zs = 2048 ∨ 1 < sumF one zs ∧ sumF share zs = 4096) := by
  rw [List.take_length] at h
  simp only [lensB]
  apply decide_eq_decide.2
  exact ⟨fun h' => h'.2.2.2, fun h' => ⟨h1, h2, h, h'⟩⟩

theorem lensB_ok {zs : List Int} (h : lensB zs = true) : 1 ≤ zs.length ∧ zs.length ≤ 80 ∧ ∀ z ∈ zs, 0 ≤ z ∧ z ≤ 12 := by
  simp only [lensB, decide_eq_true_eq] at h
  exact ⟨h.1, h.2.1, h.2.2.1⟩
/-- The four sentinels of lengths hold something. -/
structure Four (w : World) : Prop where
  g1 : ∃ T x, w.cell? ⟨17, 0, none⟩ = some (.iface T x)
  g2 : ∃ T x, w.cell? ⟨18, 0, none⟩ = some (.iface T x)
  g3 : ∃ T x, w.cell? ⟨8, 0, none⟩ = some (.iface T x)
  g4 : ∃ T x, w.cell? ⟨19, 0, none⟩ = some (.iface T x)
theorem someCell {w w' : World} {g : Nat} (h : ∃ T x, w.cell? ⟨g, 0, none⟩ = some (.iface T x)) (hb : Below w.heap.size w w') : ∃ T x, w'.cell? ⟨g, 0, none⟩ = some (.iface T x) := by
  obtain ⟨T, x, h⟩ := h
  exact ⟨T, x, keep hb (World.block_lt_of_cell? _ _ h) h⟩
theorem Four.below {w w' : World} (h : Four w) (hb : Below w.heap.size w w') : Four w' := ⟨someCell h.g1 hb, someCell h.g2 hb, someCell h.g3 hb, someCell h.g4 hb⟩

/-- What checkLens answers. -/
def chk (zs : List Int) (w : World) (e : Ending) (w' : World) : Prop :=
  Below w.heap.size w w' ∧ (lensB zs = true → e = .returned .nilIface) ∧ (lensB zs = false → ∃ p : Addr, e = .returned (.iface 236 (.pointer (some p))))

set_option maxHeartbeats 2000000 in
theorem checkLens_any (a : Option Addr) (cap : Nat) (zs : List Int) (w : World) (hb : Ins w a zs) (hn : zs.length ≤ 281474976710656) (h4 : Four w) :
    Calls Tryz.prog 160 #[.slice a zs.length cap] w (chk zs w) := by
  obtain ⟨T1, v1, e1⟩ := h4.g1
  obtain ⟨T2, v2, e2⟩ := h4.g2
  obtain ⟨T3, v3, e3⟩ := h4.g3
  obtain ⟨T4, v4, e4⟩ := h4.g4
  clear h4
  by_cases h : 1 ≤ zs.length ∧ zs.length ≤ 80
  · obtain ⟨h1, h2⟩ := h
    generalize hlen : zs.length = n at *
    have HL : Hid (zs.length = n) := hlen
    clear hlen
    go_enter Tryz.func160, Tryz.ntmps160
    go_wp2
    go_loop [3, 4, 22] (fun x y i => ∃ k : Nat, k ≤ n ∧ i = .int .i64 k ∧ x = .int .i64 (sumF one (zs.take k)) ∧ y = .int .i64 (sumF share (zs.take k)) ∧ ∀ z ∈ zs.take k, 0 ≤ z ∧ z ≤ 12) (fun _ _ i => n - (intOf i).toNat)
    case atStart => exact ⟨0, Nat.zero_le _, rfl, by simp [sumF], by simp [sumF], by simp⟩
    case round =>
      obtain ⟨k, hk, rfl, rfl, rfl, htk⟩ := hrel
      have HT : Hid (∀ z ∈ zs.take k, 0 ≤ z ∧ z ≤ 12) := htk
      clear htk
      by_cases hlt : k < n
      · obtain ⟨b1, o1, rfl, hb1, hc1⟩ := hb.len_pos k (by rw [HL.out]; exact hlt)
        have hs1 := hc1 k (by rw [HL.out]; exact hlt)
        have g1 := getD_rngI hb.1 k
        have hF := sumF_bnd one 1 one_bnd (zs.take k)
        have hG := sumF_bnd share 4096 share_bnd (zs.take k)
        have hF2 : (zs.take k).length ≤ 80 := by rw [List.length_take, HL.out]; omega
        have HS : Hid (sumF one (zs.take (k + 1)) = sumF one (zs.take k) + one (zs.getD k 0)) := sumF_succ one zs k (by rw [HL.out]; exact hlt)
        have HS2 : Hid (sumF share (zs.take (k + 1)) = sumF share (zs.take k) + share (zs.getD k 0)) := sumF_succ share zs k (by rw [HL.out]; exact hlt)
        clear hc1 hb
        generalize hx : zs.getD k 0 = x at *
        have HX : Hid (zs.getD k 0 = x) := hx
        clear hx
        generalize hFF : sumF one (zs.take k) = F at *
        generalize hGG : sumF share (zs.take k) = G at *
        have hFb : 0 ≤ F ∧ F ≤ 80 := by omega
        have hGb : 0 ≤ G ∧ G ≤ 327680 := by omega
        clear hF hG hF2 hFF hGG
        by_cases h3 : 0 ≤ x
        · by_cases h4 : x ≤ 12
          · have HT' : Hid (∀ z ∈ zs.take (k + 1), 0 ≤ z ∧ z ≤ 12) := all_take_succ HT.out (by rw [HL.out]; exact hlt) (by rw [HX.out]; exact ⟨h3, h4⟩)
            by_cases h5 : 0 < x
            · have HP : Hid (one x = 1) := by simp [Hid, one, h5]
              have hp := pow_bnd (12 - x).toNat (by omega)
              have HWP : Hid (wrap64 (2 ^ (12 - x).toNat) = 2 ^ (12 - x).toNat) := wrapPow (12 - x).toNat (by omega)
              have HQ : Hid (share x = 2 ^ (12 - x).toNat) := by simp [Hid, share, h5]
              have HW : Hid (wrap64 (G + 2 ^ (12 - x).toNat) = G + 2 ^ (12 - x).toNat) := IntWalk.wrap64_in _ (by omega)
              clear hp
              go_wp2
              go_round
              case rel => exact ⟨k + 1, by omega, by go_num, by rw [HS.out, HP.out], by rw [HS2.out, HQ.out, HWP.out, HW.out], HT'.out⟩
              case measure => simp [intOf]; omega
            · have HP : Hid (one x = 0) := by simp [Hid, one, h5]
              have HQ : Hid (share x = 0) := by simp [Hid, share, h5]
              go_wp2
              go_round
              case rel => exact ⟨k + 1, by omega, by go_num, by rw [HS.out, HP.out]; simp, by rw [HS2.out, HQ.out]; simp, HT'.out⟩
              case measure => simp [intOf]; omega
          · have HN : Hid (lensB zs = false) := lensB_bad (by rw [HL.out]; exact hlt) (by rw [HX.out]; omega)
            go_wp2
            try go_region
            all_goals try go_wp2
            all_goals go_ret
            all_goals exact ⟨by repeat (first | exact Below.refl _ _ | refine Below.drew ?_ | refine Below.alloc ?_ (by simp) _), fun h => (by rw [HN.out] at h; cases h), fun _ => ⟨_, rfl⟩⟩
        · have HN : Hid (lensB zs = false) := lensB_bad (by rw [HL.out]; exact hlt) (by rw [HX.out]; omega)
          go_wp2
          try go_region
          all_goals try go_wp2
          all_goals go_ret
          all_goals exact ⟨by repeat (first | exact Below.refl _ _ | refine Below.drew ?_ | refine Below.alloc ?_ (by simp) _), fun h => (by rw [HN.out] at h; cases h), fun _ => ⟨_, rfl⟩⟩
      · have hkn : k = n := by omega
        subst hkn
        have e : zs.take k = zs := List.take_of_length_le (by rw [HL.out]; exact Nat.le_refl _)
        have HE : Hid (lensB zs = decide (sumF one zs = 1 ∧ sumF share zs = 2048 ∨ 1 < sumF one zs ∧ sumF share zs = 4096)) := lensB_all (by rw [HL.out]; exact h1) (by rw [HL.out]; exact h2) (by rw [HL.out]; exact HT.out)
        have hF := sumF_bnd one 1 one_bnd zs
        have hG := sumF_bnd share 4096 share_bnd zs
        rw [HL.out] at hF hG
        rw [e]
        clear e HT
        generalize sumF one zs = F at *
        generalize sumF share zs = G at *
        by_cases c0 : F = 0
        · subst c0
          have HN : Hid (lensB zs = false) := by rw [Hid, HE.out, decide_eq_false (by omega)]
          go_wp2
          try go_region
          all_goals try go_wp2
          all_goals go_ret
          all_goals exact ⟨by repeat (first | exact Below.refl _ _ | refine Below.drew ?_ | refine Below.alloc ?_ (by simp) _), fun h => (by rw [HN.out] at h; cases h), fun _ => ⟨_, rfl⟩⟩
        · by_cases c1 : F = 1
          · subst c1
            by_cases c2 : G = 2048
            · subst c2
              have HN : Hid (lensB zs = true) := by rw [Hid, HE.out, decide_eq_true (by omega)]
              go_wp2
              go_ret
              exact ⟨Below.refl _ _, fun _ => rfl, fun h => (by rw [HN.out] at h; cases h)⟩
            · have HN : Hid (lensB zs = false) := by rw [Hid, HE.out, decide_eq_false (by omega)]
              go_wp2
              try go_region
              all_goals try go_wp2
              all_goals go_ret
              all_goals exact ⟨by repeat (first | exact Below.refl _ _ | refine Below.drew ?_ | refine Below.alloc ?_ (by simp) _), fun h => (by rw [HN.out] at h; cases h), fun _ => ⟨_, rfl⟩⟩
          · by_cases c2 : G = 4096
            · subst c2
              have HN : Hid (lensB zs = true) := by rw [Hid, HE.out, decide_eq_true (by omega)]
              go_wp2
              go_ret
              exact ⟨Below.refl _ _, fun _ => rfl, fun h => (by rw [HN.out] at h; cases h)⟩
            · have HN : Hid (lensB zs = false) := by rw [Hid, HE.out, decide_eq_false (by omega)]
              have c3 : (G != 4096) = true := by simp [c2]
              go_wp2
              try go_region
              all_goals try go_wp2
              all_goals go_ret
              all_goals exact ⟨by repeat (first | exact Below.refl _ _ | refine Below.drew ?_ | refine Below.alloc ?_ (by simp) _), fun h => (by rw [HN.out] at h; cases h), fun _ => ⟨_, rfl⟩⟩
  · have HN : Hid (lensB zs = false) := lensB_len h
    by_cases c1 : 1 ≤ zs.length
    · have c2 : 80 < zs.length := by omega
      go_enter Tryz.func160, Tryz.ntmps160
      go_wp2
      try go_region
      all_goals try go_wp2
      all_goals go_ret
      all_goals exact ⟨by repeat (first | exact Below.refl _ _ | refine Below.drew ?_ | refine Below.alloc ?_ (by simp) _), fun h => (by rw [HN.out] at h; cases h), fun _ => ⟨_, rfl⟩⟩
    · go_enter Tryz.func160, Tryz.ntmps160
      go_wp2
      try go_region
      all_goals try go_wp2
      all_goals go_ret
      all_goals exact ⟨by repeat (first | exact Below.refl _ _ | refine Below.drew ?_ | refine Below.alloc ?_ (by simp) _), fun h => (by rw [HN.out] at h; cases h), fun _ => ⟨_, rfl⟩⟩
end Go.Proofs.YtfeokafkhnbdiaaGreatDoor
namespace Go.Proofs.YtfeokafkhnbdiaaGreatDoor
open Go.RowKit Go.Extern.Stop Go.Stop Go.Extern
set_option linter.unusedVariables false
/-- The handle of a type, and reflectlite's Value of a variable of type **lensError or *lensError. -/
abbrev hand (t : Nat) : Value := .pointer (some ⟨21, t, none⟩)
abbrev valE (a : Addr) (fl : Int) : Value := .agg #[hand 236, .pointer (some a), .int .u64 fl]
abbrev rtyp (t : Nat) : Value := .iface 226 (.agg #[hand t])

theorem asMK (h : Value) (w : World) : (Go.method 383 226 (.agg #[h]) "Kind").run Tryz.prog w = .ok (194, h) w := by kernel_rfl
theorem asK2 (w : World) : ((ReflectliteType.abiMethod fun t => (fun a : Nat => Value.int IntKind.u8 (a : Int)) <$> Rtype.kind t) #[hand 236]).run Tryz.prog w = .ok (.int .u8 22) w := by kernel_rfl
theorem asM1 (z : Sem Value) (f : TypeId → Addr → Nat → Nat → Sem Value) (v : Value) : ReflectliteValue.method z f #[v] = (do match ← ReflectliteValue.parts v with | none => z | some (t, a, fl) => f t a fl (fl % 32)) := rfl
theorem asP2 (a : Addr) (w : World) : (ReflectliteValue.parts (valE a 406)).run Tryz.prog w = .ok (some (236, a, 406)) w := by kernel_rfl
theorem asP3 (a : Addr) (w : World) : (ReflectliteValue.parts (valE a 150)).run Tryz.prog w = .ok (some (236, a, 150)) w := by kernel_rfl
theorem asME (h : Value) (w : World) : (Go.method 383 226 (.agg #[h]) "Elem").run Tryz.prog w = .ok (198, .agg #[h]) w := by kernel_rfl
theorem asMI (h : Value) (w : World) : (Go.method 383 226 (.agg #[h]) "Implements").run Tryz.prog w = .ok (199, .agg #[h]) w := by kernel_rfl
theorem asMA (h : Value) (w : World) : (Go.method 383 226 (.agg #[h]) "AssignableTo").run Tryz.prog w = .ok (196, .agg #[h]) w := by kernel_rfl
theorem asI1 (w : World) : (ReflectliteType.relation "Implements" ReflectliteType.implements_ #[.agg #[hand 236], rtyp 70]).run Tryz.prog w = .ok (.bool true) w := by kernel_rfl
theorem asO1 (v : Value) (w : World) : (ReflectliteType.typeOf #[.iface 236 v]).run Tryz.prog w = .ok (rtyp 236) w := by kernel_rfl
theorem asA1 (w : World) : (ReflectliteType.relation "AssignableTo" ReflectliteType.assignableTo #[.agg #[hand 236], rtyp 236]).run Tryz.prog w = .ok (.bool true) w := by kernel_rfl
theorem asV2 (e : Addr) (w : World) : (ReflectliteValue.unpack (.iface 236 (.pointer (some e)))).run Tryz.prog w = .ok (valE ⟨w.heap.size, 0, none⟩ 150) (w.alloc (.cells #[.pointer (some e)] 236)) := by kernel_rfl
theorem asMk (p : Addr) (w : World) : (ReflectliteValue.mk 236 p ReflectliteValue.flagAddr).run Tryz.prog w = .ok (valE p 406) w := by kernel_rfl
theorem asD1 (w : World) : (Rtype.directlyAssignable 236 236).run Tryz.prog w = .ok true w := by kernel_rfl
theorem asS1 (ta b e : Addr) (old : Value) (W : World) (hb : W.cell? b = some (.pointer (some e))) (ht : W.cell? ta = some old) (hf : W.frozen? ta = false) :
    (ReflectliteValue.set #[valE ta 406, valE b 150]).run Tryz.prog W = .ok (.tuple #[]) (W.setCell ta (.pointer (some e))) := by
  refine Eq.trans (b := (ReflectliteValue.parts (valE ta 406) >>= fun p => ReflectliteValue.parts (valE b 150) >>= fun q => _).run Tryz.prog W) rfl ?_
  simp only [Sem.run_bind, asP2, asP3, Result.andThen]
  simp [ReflectliteValue.flagAddr, loadVar, isAgg, underlying, Tryz.underlying236, hb, Result.andThen, asD1, storeVar, Value.cells, storeCells, Addr.add]
  rw [run_store Tryz.prog W ta _ _ (by rfl)]
  simp [ht, hf]

end Go.Proofs.YtfeokafkhnbdiaaGreatDoor
