/-
  The rounds' lists: what is in them, how long they are; what Lens answers.
-/
import Derived.Test.YtkjebacpmmfflaaDoorPcA
import Derived.Test.YtkjebacpmmfflaaDoorPcQ
namespace Go.Proofs.YtkjebacpmmfflaaDoor
open Go.RowKit
set_option linter.unusedVariables false

theorem getD_memP2 {l : List Pc} {i : Nat} (h : i < l.length) : l.getD i dpc ∈ l := by
  rw [List.getD_eq_getElem?_getD, List.getElem?_eq_getElem h]
  exact List.getElem_mem _
theorem coinsL_mem (zs : List Int) (hz : ∀ z ∈ zs, 0 ≤ z ∧ z ≤ 1000000) : ∀ k, k ≤ zs.length → ∀ p ∈ coinsL zs k, p.wt ≤ 1000000 ∧ p.plc < k ∧ p.ok k ∧ ∃ s c, p = .coin s c
  | 0, _, p, h => by simp [coinsL] at h
  | k + 1, hk, p, h => by
    have ih := coinsL_mem zs hz k (by omega)
    have up : ∀ p ∈ coinsL zs k, p.wt ≤ 1000000 ∧ p.plc < k + 1 ∧ p.ok (k + 1) ∧ ∃ s c, p = .coin s c := fun p hp => by
      obtain ⟨h1, h2, h3, s, c, rfl⟩ := ih p hp
      exact ⟨h1, by omega, ⟨by have := h3.1; omega, h3.2⟩, s, c, rfl⟩
    simp only [coinsL] at h
    split at h
    · rename_i hp
      rcases List.mem_append.1 h with h | h
      · exact up p h
      · simp only [List.mem_singleton] at h
        subst h
        have := hz _ (getD_mem (show k < zs.length by omega))
        exact ⟨by simp only [Pc.wt]; omega, by simp [Pc.plc], ⟨Nat.lt_succ_self _, by omega⟩, _, _, rfl⟩
    · exact up p h
theorem ok_mono {n m : Nat} (h : n ≤ m) (p : Pc) : p.ok n → p.ok m := by
  induction p with
  | coin s c => exact fun h1 => ⟨by have := h1.1; omega, h1.2⟩
  | pack a b k iha ihb => exact fun h1 => ⟨iha h1.1, ihb h1.2⟩
/-- The sorted coins of all counts. -/
def coinsS (zs : List Int) : List Pc := srt zs zs.length
theorem coinsS_len (zs : List Int) : (coinsS zs).length = (coinsL zs zs.length).length := (srt_perm zs zs.length).length_eq
theorem coinsS_mem {zs : List Int} (hz : ∀ z ∈ zs, 0 ≤ z ∧ z ≤ 1000000) : ∀ p ∈ coinsS zs, p.wt ≤ 1000000 ∧ p.plc < zs.length ∧ p.ok zs.length ∧ ∃ s c, p = .coin s c := fun p hp => coinsL_mem zs hz zs.length (Nat.le_refl _) p ((srt_perm zs zs.length).mem_iff.1 hp)
/-- What holds of each round's list. -/
theorem rnd_inv {zs : List Int} (hz : ∀ z ∈ zs, 0 ≤ z ∧ z ≤ 1000000) (hn : zs.length ≤ 80) : ∀ k, KS (rnd (coinsS zs) k) ∧ (∀ p ∈ rnd (coinsS zs) k, p.wt ≤ 1000000 * 2 ^ k ∧ p.plc < 240 ∧ p.ok zs.length) ∧ (rnd (coinsS zs) k).length ≤ 2 * (coinsS zs).length
  | 0 => ⟨List.Pairwise.nil, by simp [rnd], by simp [rnd]⟩
  | k + 1 => by
    obtain ⟨h1, h2, h3⟩ := rnd_inv hz hn k
    have hm : (coinsS zs).length ≤ 80 := by rw [coinsS_len]; have := coinsL_len zs zs.length; omega
    have hpk := pairL_KS h1 (fun p hp => by have := (h2 p hp).2.1; omega) (by omega)
    have hpm : ∀ p ∈ pairL (rnd (coinsS zs) k) ((rnd (coinsS zs) k).length / 2), p.wt ≤ 1000000 * 2 ^ (k + 1) ∧ 80 ≤ p.plc ∧ p.plc < 240 ∧ p.ok zs.length := fun p hp => by
      obtain ⟨i, hi, rfl⟩ := pairL_mem hp
      obtain ⟨a1, a2, a3⟩ := h2 _ (getD_memP2 (show 2 * i < (rnd (coinsS zs) k).length by omega))
      obtain ⟨b1, b2, b3⟩ := h2 _ (getD_memP2 (show 2 * i + 1 < (rnd (coinsS zs) k).length by omega))
      refine ⟨?_, by simp only [Pc.plc]; omega, by simp only [Pc.plc]; omega, a3, b3⟩
      simp only [Pc.wt]
      rw [Nat.pow_succ]
      omega
    have h2p : 1 ≤ 2 ^ (k + 1) := Nat.one_le_two_pow
    refine ⟨mrg_KS (srt_KS zs zs.length hn) hpk (fun p hp => by have := (coinsS_mem hz p hp).2.1; omega) (fun p hp => by have := hpm p hp; omega), ?_, ?_⟩
    · intro p hp
      rcases List.mem_append.1 ((mrg_perm _ _).mem_iff.1 hp) with hp | hp
      · obtain ⟨c1, c2, c3, _⟩ := coinsS_mem hz p hp
        refine ⟨Nat.le_trans c1 ?_, by omega, c3⟩
        exact Nat.le_mul_of_pos_right _ (by omega)
      · obtain ⟨c1, c2, c3, c4⟩ := hpm p hp
        exact ⟨c1, c3, c4⟩
    · show (mrg _ _).length ≤ _
      rw [(mrg_perm _ _).length_eq, List.length_append, pairL_len]
      omega
theorem rnd_long (S : List Pc) (L : Nat) (h : S.length ≤ 2 ^ L) : ∀ k, k ≤ L → 2 * S.length ≤ (rnd S (k + 1)).length + 2 ^ (L - k)
  | 0, _ => by
    show _ ≤ (mrg _ _).length + _
    rw [(mrg_perm _ _).length_eq, List.length_append]
    simp only [Nat.sub_zero]
    omega
  | k + 1, hk => by
    have ih := rnd_long S L h k (by omega)
    show _ ≤ (mrg _ _).length + _
    rw [(mrg_perm _ _).length_eq, List.length_append, pairL_len]
    have e : 2 ^ (L - k) = 2 * 2 ^ (L - (k + 1)) := by rw [show L - k = (L - (k + 1)) + 1 by omega, Nat.pow_succ, Nat.mul_comm]
    omega
theorem rnd_enough (S : List Pc) (L : Nat) (hL : 1 ≤ L) (h : S.length ≤ 2 ^ L) : 2 * S.length - 2 ≤ (rnd S L).length := by
  have := rnd_long S L h (L - 1) (by omega)
  rw [show L - 1 + 1 = L by omega, show L - (L - 1) = 1 by omega] at this
  omega
/-- What roundList makes of coins and packs is the next round's list. -/
theorem rnd_round {zs : List Int} (hz : ∀ z ∈ zs, 0 ≤ z ∧ z ≤ 1000000) (hn : zs.length ≤ 80) (k : Nat) {m : List Pc} (hp : m.Perm (coinsL zs zs.length ++ pairL (rnd (coinsS zs) k) ((rnd (coinsS zs) k).length / 2))) (hs : m.Pairwise (fun p q => p.key ≤ q.key)) : m = rnd (coinsS zs) (k + 1) :=
  KS_only (rnd_inv hz hn (k + 1)).1 (hp.trans ((List.Perm.append_right _ (srt_perm zs zs.length).symm).trans (mrg_perm _ _).symm)) hs

def cntL : List Pc → List Int → List Int
  | [], zs => zs
  | p :: l, zs => cntL l (cntP p zs)
theorem cntL_snoc (l : List Pc) (p : Pc) : ∀ zs, cntL (l ++ [p]) zs = cntP p (cntL l zs) := by
  induction l with
  | nil => intro zs; rfl
  | cons q l ih => intro zs; exact ih _
theorem cntL_len (l : List Pc) : ∀ zs, (cntL l zs).length = zs.length := by
  induction l with
  | nil => intro zs; rfl
  | cons q l ih => intro zs; rw [cntL, ih, cntP_len]
/-- What Lens answers. -/
def lensOkB (zs : List Int) (x : Int) : Prop := cntB zs = true ∧ 1 ≤ x ∧ x ≤ 12 ∧ 1 ≤ (coinsS zs).length ∧ (coinsS zs).length ≤ 2 ^ x.toNat
def lensV (zs : List Int) (L : Nat) : List Int := if (coinsS zs).length = 1 then cntP ((coinsS zs).getD 0 dpc) (List.replicate zs.length 0) else cntL ((rnd (coinsS zs) L).take (2 * (coinsS zs).length - 2)) (List.replicate zs.length 0)
theorem lensV_len (zs : List Int) (L : Nat) : (lensV zs L).length = zs.length := by
  unfold lensV
  split
  · rw [cntP_len]; simp
  · rw [cntL_len]; simp
end Go.Proofs.YtkjebacpmmfflaaDoor
