/-
  The rounds, in lists: merged, paired, merged again.
-/
import Derived.Test.YtkjebacpmmfflaaDoorPcN
namespace Go.Proofs.YtkjebacpmmfflaaDoor
open Go.RowKit
set_option linter.unusedVariables false

/-- Two lists put into one, the lighter first, of alike ones the first list's first. -/
def mrg : List Pc → List Pc → List Pc
  | [], b => b
  | a :: ar, [] => a :: ar
  | a :: ar, b :: br => if a.wt ≤ b.wt then a :: mrg ar (b :: br) else b :: mrg (a :: ar) br
termination_by a b => a.length + b.length
/-- A coin put among coins, behind those that weigh ar much. -/
def insP (p : Pc) : List Pc → List Pc
  | [] => [p]
  | q :: l => if q.wt ≤ p.wt then q :: insP p l else p :: q :: l
/-- The coins of the first k counts, the lighter first. -/
def srt (zs : List Int) : Nat → List Pc
  | 0 => []
  | k + 1 => if 0 < zs.getD k 0 then insP (.coin k (zs.getD k 0).toNat) (srt zs k) else srt zs k
def rnd (S : List Pc) : Nat → List Pc
  | 0 => []
  | k + 1 => mrg S (pairL (rnd S k) ((rnd S k).length / 2))

theorem insP_perm (p : Pc) : ∀ l, (insP p l).Perm (l ++ [p])
  | [] => List.Perm.refl _
  | q :: l => by
    simp only [insP]
    split
    · exact List.Perm.cons q (insP_perm p l)
    · exact (List.perm_append_singleton p (q :: l)).symm
theorem mrg_perm : ∀ a b, (mrg a b).Perm (a ++ b)
  | [], b => by rw [mrg]; exact List.Perm.refl _
  | a :: ar, [] => by rw [mrg]; simp
  | a :: ar, b :: br => by
    rw [mrg]
    split
    · exact List.Perm.cons a (mrg_perm ar (b :: br))
    · exact (List.Perm.cons b (mrg_perm (a :: ar) br)).trans (List.perm_middle (a := b) (l₁ := a :: ar) (l₂ := br)).symm
termination_by a b => a.length + b.length
theorem srt_perm (zs : List Int) : ∀ k, (srt zs k).Perm (coinsL zs k)
  | 0 => List.Perm.refl _
  | k + 1 => by
    simp only [srt, coinsL]
    split
    · exact (insP_perm _ _).trans (List.Perm.append_right _ (srt_perm zs k))
    · exact srt_perm zs k
/-- Sorted by key, all keys apart. -/
def KS (l : List Pc) : Prop := l.Pairwise (fun p q => p.key < q.key)
theorem key_of_wt {p q : Pc} (hq : q.plc < 1024) (hp : p.plc < 1024) (h : p.wt < q.wt) : p.key < q.key := by
  unfold Pc.key
  omega
theorem insP_KS {p : Pc} (hp : p.plc < 1024) : ∀ {l : List Pc}, KS l → (∀ q ∈ l, q.plc < p.plc) → KS (insP p l)
  | [], _, _ => by simp [insP, KS]
  | q :: l, h, hl => by
    obtain ⟨h1, h2⟩ := List.pairwise_cons.1 h
    have hq := hl q (by simp)
    simp only [insP]
    split
    · rename_i hw
      refine List.pairwise_cons.2 ⟨fun r hr => ?_, insP_KS hp h2 (fun r hr => hl r (by simp [hr]))⟩
      have hm := (insP_perm p l).mem_iff.1 hr
      rcases List.mem_append.1 hm with hm | hm
      · exact h1 r hm
      · simp at hm
        subst hm
        unfold Pc.key
        omega
    · rename_i hw
      have hlt : p.key < q.key := key_of_wt (by omega) hp (by omega)
      refine List.pairwise_cons.2 ⟨fun r hr => ?_, h⟩
      rcases List.mem_cons.1 hr with rfl | hr
      · exact hlt
      · have := h1 r hr
        omega
theorem srt_plc (zs : List Int) : ∀ k, ∀ q ∈ srt zs k, q.plc < k
  | 0, q, h => by simp [srt] at h
  | k + 1, q, h => by
    simp only [srt] at h
    split at h
    · rcases List.mem_append.1 ((insP_perm _ _).mem_iff.1 h) with h | h
      · have := srt_plc zs k q h; omega
      · simp at h; subst h; simp [Pc.plc]
    · have := srt_plc zs k q h; omega
theorem srt_KS (zs : List Int) : ∀ k, k ≤ 80 → KS (srt zs k)
  | 0, _ => List.Pairwise.nil
  | k + 1, hk => by
    simp only [srt]
    split
    · exact insP_KS (by simp [Pc.plc]; omega) (srt_KS zs k (by omega)) (fun q hq => by have := srt_plc zs k q hq; simpa [Pc.plc] using this)
    · exact srt_KS zs k (by omega)
theorem mrg_KS : ∀ {a b : List Pc}, KS a → KS b → (∀ p ∈ a, p.plc < 80) → (∀ q ∈ b, 80 ≤ q.plc ∧ q.plc < 1024) → KS (mrg a b)
  | [], b, _, hb, _, _ => by rw [mrg]; exact hb
  | a :: ar, [], ha, _, _, _ => by rw [mrg]; exact ha
  | a :: ar, b :: br, ha, hb, h1, h2 => by
    obtain ⟨a1, a2⟩ := List.pairwise_cons.1 ha
    obtain ⟨b1, b2⟩ := List.pairwise_cons.1 hb
    have ha0 := h1 a (by simp)
    have hb0 := h2 b (by simp)
    rw [mrg]
    split
    · rename_i hw
      have hab : a.key < b.key := by unfold Pc.key; omega
      refine List.pairwise_cons.2 ⟨fun r hr => ?_, mrg_KS a2 hb (fun p hp => h1 p (by simp [hp])) h2⟩
      rcases List.mem_append.1 ((mrg_perm _ _).mem_iff.1 hr) with hr | hr
      · exact a1 r hr
      · rcases List.mem_cons.1 hr with rfl | hr
        · exact hab
        · have := b1 r hr; omega
    · rename_i hw
      have hab : b.key < a.key := by unfold Pc.key; omega
      refine List.pairwise_cons.2 ⟨fun r hr => ?_, mrg_KS ha b2 h1 (fun q hq => h2 q (by simp [hq]))⟩
      rcases List.mem_append.1 ((mrg_perm _ _).mem_iff.1 hr) with hr | hr
      · rcases List.mem_cons.1 hr with rfl | hr
        · exact hab
        · have := a1 r hr; omega
      · exact b1 r hr
termination_by a b => a.length + b.length
/-- Whatever list has the same ones, sorted, is it. -/
theorem KS_only : ∀ {l m : List Pc}, KS l → m.Perm l → m.Pairwise (fun p q => p.key ≤ q.key) → m = l
  | [], m, _, hp, _ => List.Perm.eq_nil hp
  | x :: l, [], _, hp, _ => absurd hp.length_eq (by simp)
  | x :: l, y :: m, h, hp, hm => by
    obtain ⟨h1, h2⟩ := List.pairwise_cons.1 h
    obtain ⟨m1, m2⟩ := List.pairwise_cons.1 hm
    have hx : x ∈ y :: m := hp.mem_iff.2 (by simp)
    have hy : y ∈ x :: l := hp.mem_iff.1 (by simp)
    have e : x = y := by
      rcases List.mem_cons.1 hy with hy | hy
      · exact hy.symm
      · have k1 := h1 y hy
        rcases List.mem_cons.1 hx with hx | hx
        · exact hx
        · have := m1 x hx; omega
    subst e
    rw [KS_only h2 (List.Perm.cons_inv hp) m2]
theorem pairL_get (l : List Pc) (n i : Nat) (hi : i < n) : (pairL l n).getD i dpc = .pack (l.getD (2 * i) dpc) (l.getD (2 * i + 1) dpc) i := by
  induction n with
  | zero => omega
  | succ n ih =>
    simp only [pairL]
    rw [List.getD_eq_getElem?_getD]
    by_cases h : i < n
    · rw [List.getElem?_append_left (by rw [pairL_len]; exact h), ← List.getD_eq_getElem?_getD]
      exact ih h
    · have hin : i = n := by omega
      subst hin
      rw [List.getElem?_append_right (by rw [pairL_len]; exact Nat.le_refl _), pairL_len]
      simp
theorem pairL_mem {l : List Pc} {n : Nat} {p : Pc} (h : p ∈ pairL l n) : ∃ i, i < n ∧ p = .pack (l.getD (2 * i) dpc) (l.getD (2 * i + 1) dpc) i := by
  obtain ⟨i, hi, rfl⟩ := List.getElem_of_mem h
  have hin : i < n := by rw [pairL_len] at hi; exact hi
  refine ⟨i, hin, ?_⟩
  rw [← pairL_get l n i hin, List.getD_eq_getElem?_getD, List.getElem?_eq_getElem hi]
  rfl
theorem pairL_KS {l : List Pc} (h : KS l) (hp : ∀ p ∈ l, p.plc < 1024) (hl : l.length ≤ 160) : KS (pairL l (l.length / 2)) := by
  have hw : ∀ i j, i < j → j < l.length → (l.getD i dpc).wt ≤ (l.getD j dpc).wt := fun i j hij hj => by
    have h1 := List.pairwise_iff_getElem.1 h i j (by omega) hj hij
    have e1 : l.getD i dpc = l[i] := by simp [List.getD_eq_getElem?_getD, show i < l.length by omega]
    have e2 : l.getD j dpc = l[j] := by simp [List.getD_eq_getElem?_getD, hj]
    have p1 := hp l[i] (List.getElem_mem _)
    have p2 := hp l[j] (List.getElem_mem _)
    rw [e1, e2]
    unfold Pc.key at h1
    omega
  refine List.pairwise_iff_getElem.2 fun i j hi hj hij => ?_
  rw [pairL_len] at hi hj
  have e1 := pairL_get l (l.length / 2) i hi
  have e2 := pairL_get l (l.length / 2) j hj
  rw [List.getD_eq_getElem?_getD, List.getElem?_eq_getElem (by rw [pairL_len]; exact hi)] at e1
  rw [List.getD_eq_getElem?_getD, List.getElem?_eq_getElem (by rw [pairL_len]; exact hj)] at e2
  simp only [Option.getD_some] at e1 e2
  rw [e1, e2]
  have w1 := hw (2 * i) (2 * j) (by omega) (by omega)
  have w2 := hw (2 * i + 1) (2 * j + 1) (by omega) (by omega)
  unfold Pc.key
  simp only [Pc.wt, Pc.plc]
  omega
end Go.Proofs.YtkjebacpmmfflaaDoor
