/-
  Norm of the program: the symbol that gets one more; all shares.
-/
import Derived.Test.YtmhpgkfaihcmeaaDoorIList
import Derived.Test.YtmhpgkfaihcmeaaDoorIBump
namespace Go.Proofs.YtmhpgkfaihcmeaaDoor
open Go.RowKit
set_option linter.unusedVariables false

def sumF (f : Int → Int) (zs : List Int) : Int := (zs.map f).sum
theorem sumF_succ (f : Int → Int) (zs : List Int) (k : Nat) (h : k < zs.length) : sumF f (zs.take (k + 1)) = sumF f (zs.take k) + f (zs.getD k 0) := by
  unfold sumF
  rw [List.take_succ_eq_append_getElem h, List.map_append, List.sum_append]
  simp [List.getD_eq_getElem?_getD, List.getElem?_eq_getElem h]
theorem sumF_bnd (f : Int → Int) (m : Int) (hf : ∀ z, 0 ≤ f z ∧ f z ≤ m) (zs : List Int) : 0 ≤ sumF f zs ∧ sumF f zs ≤ m * zs.length := by
  unfold sumF
  induction zs with
  | nil => simp
  | cons z zs ih =>
    have := hf z
    simp only [List.map_cons, List.sum_cons, List.length_cons]
    rw [show m * ((zs.length + 1 : Nat) : Int) = m * zs.length + m from by rw [Int.natCast_add, Int.mul_add]; simp]
    omega
/-- Has a code. -/
def one (z : Int) : Int := if 0 < z then 1 else 0
theorem one_bnd (z : Int) : 0 ≤ one z ∧ one z ≤ 1 := by unfold one; split <;> omega
end Go.Proofs.YtmhpgkfaihcmeaaDoor
namespace Go.Proofs.YtmhpgkfaihcmeaaDoor
open Go.RowKit
set_option linter.unusedVariables false

/-- Whether symbol i, with count and share, goes ahead of the best one. -/
def ahead (cs ns : List Int) (best : Int) (i : Nat) : Prop := 0 < cs.getD i 0 ∧ (best < 0 ∨ cs.getD best.toNat 0 * ns.getD i 0 < cs.getD i 0 * ns.getD best.toNat 0)
instance (cs ns : List Int) (best : Int) (i : Nat) : Decidable (ahead cs ns best i) := by unfold ahead; infer_instance
/-- The best of the first k symbols, or -1. -/
def pick (cs ns : List Int) : Nat → Int
  | 0 => -1
  | k + 1 => if ahead cs ns (pick cs ns k) k then k else pick cs ns k
def give (cs ns : List Int) : List Int := bump ns (pick cs ns cs.length)
/-- The shares when j have been given behind the first ones. -/
def shares (cs : List Int) : Nat → List Int
  | 0 => cs.map one
  | j + 1 => give cs (shares cs j)

theorem pick_yes {cs ns : List Int} {k : Nat} (h : ahead cs ns (pick cs ns k) k) : pick cs ns (k + 1) = k := by simp [pick, h]
theorem pick_no {cs ns : List Int} {k : Nat} (h : ¬ ahead cs ns (pick cs ns k) k) : pick cs ns (k + 1) = pick cs ns k := by simp [pick, h]
theorem pick_rng (cs ns : List Int) (k : Nat) : -1 ≤ pick cs ns k ∧ pick cs ns k < k := by
  induction k with
  | zero => simp [pick]
  | succ k ih => simp only [pick]; split <;> omega
theorem pick_pos (cs ns : List Int) (k : Nat) (h : 0 ≤ pick cs ns k) : 0 < cs.getD (pick cs ns k).toNat 0 := by
  induction k with
  | zero => simp [pick] at h
  | succ k ih =>
    by_cases c : ahead cs ns (pick cs ns k) k
    · rw [pick_yes c]; simpa using c.1
    · rw [pick_no c] at h ⊢; exact ih h
theorem pick_some (cs ns : List Int) (k i : Nat) (hi : i < k) (h : 0 < cs.getD i 0) : 0 ≤ pick cs ns k := by
  induction k with
  | zero => omega
  | succ k ih =>
    by_cases c : ahead cs ns (pick cs ns k) k
    · rw [pick_yes c]; omega
    · rw [pick_no c]
      by_cases hk : i < k
      · exact ih hk
      · have : i = k := by omega
        subst this
        have hr := pick_rng cs ns i
        by_cases hp : pick cs ns i < 0
        · exact absurd ⟨h, .inl hp⟩ c
        · omega
/-- Some symbol is there. -/
def some1 (cs : List Int) : Prop := ∃ i, i < cs.length ∧ 0 < cs.getD i 0
theorem some1_of {cs : List Int} (h : 1 ≤ sumF one cs) : some1 cs := by
  induction cs with
  | nil => simp [sumF] at h
  | cons c cs ih =>
    by_cases hc : 0 < c
    · exact ⟨0, by simp, by simpa using hc⟩
    · have e : sumF one (c :: cs) = sumF one cs := by simp [sumF, one, hc]
      rw [e] at h
      obtain ⟨i, hi, hp⟩ := ih h
      exact ⟨i + 1, by simp; omega, by simpa using hp⟩

/-- What stays true of shares as they are given. -/
def Fair (cs ns : List Int) (j : Nat) : Prop := ns.length = cs.length ∧ ∀ i, i < cs.length → (0 < cs.getD i 0 → 1 ≤ ns.getD i 0 ∧ ns.getD i 0 ≤ j + 1) ∧ (¬ 0 < cs.getD i 0 → ns.getD i 0 = 0)
theorem Fair.bnd {cs ns : List Int} {j : Nat} (h : Fair cs ns j) (i : Nat) : 0 ≤ ns.getD i 0 ∧ ns.getD i 0 ≤ j + 1 := by
  by_cases hi : i < cs.length
  · have := h.2 i hi
    by_cases hc : 0 < cs.getD i 0
    · have := this.1 hc; omega
    · have := this.2 hc; omega
  · rw [List.getD_eq_getElem?_getD, List.getElem?_eq_none (by rw [h.1]; omega)]; simp; omega
theorem fair_zero (cs : List Int) : Fair cs (cs.map one) 0 := by
  refine ⟨by simp, fun i hi => ?_⟩
  have e : (cs.map one).getD i 0 = one (cs.getD i 0) := by simp [List.getD_eq_getElem?_getD, List.getElem?_eq_getElem hi]
  rw [e]
  constructor
  · intro h; simp only [one]; rw [if_pos h]; omega
  · intro h; simp only [one]; rw [if_neg h]
theorem pick_in {cs ns : List Int} (hs : some1 cs) : 0 ≤ pick cs ns cs.length ∧ (pick cs ns cs.length).toNat < cs.length ∧ 0 < cs.getD (pick cs ns cs.length).toNat 0 := by
  obtain ⟨i, hi, hp⟩ := hs
  have h1 := pick_some cs ns cs.length i hi hp
  have h2 := pick_rng cs ns cs.length
  exact ⟨h1, by omega, pick_pos cs ns _ h1⟩
theorem getD_set_eq {ns : List Int} {i : Nat} {v : Int} (h : i < ns.length) : (ns.set i v).getD i 0 = v := by simp [List.getD_eq_getElem?_getD, h]
theorem getD_set_ne {ns : List Int} {i k : Nat} {v : Int} (h : i ≠ k) : (ns.set k v).getD i 0 = ns.getD i 0 := by
  simp only [List.getD_eq_getElem?_getD]
  rw [List.getElem?_set_ne (by omega)]
theorem fair_succ {cs ns : List Int} {j : Nat} (hs : some1 cs) (h : Fair cs ns j) : Fair cs (give cs ns) (j + 1) := by
  obtain ⟨p1, p2, p3⟩ := pick_in (ns := ns) hs
  unfold give bump
  generalize (pick cs ns cs.length).toNat = p at *
  refine ⟨by simpa using h.1, fun i hi => ?_⟩
  have hi' := h.2 i hi
  by_cases hip : i = p
  · subst hip
    rw [getD_set_eq (by rw [h.1]; exact hi)]
    have := hi'.1 p3
    exact ⟨fun _ => by omega, fun hh => absurd p3 hh⟩
  · rw [getD_set_ne hip]
    exact ⟨fun hh => by have := hi'.1 hh; omega, hi'.2⟩
theorem fair_all {cs : List Int} (hs : some1 cs) (j : Nat) : Fair cs (shares cs j) j := by
  induction j with
  | zero => exact fair_zero cs
  | succ j ih => exact fair_succ hs ih
theorem Fair.rng {cs ns : List Int} {j : Nat} (h : Fair cs ns j) : ∀ z ∈ ns, 0 ≤ z ∧ z ≤ (j : Int) + 1 := by
  intro z hz
  obtain ⟨i, hi, rfl⟩ := List.getElem_of_mem hz
  have := h.bnd i
  simpa [List.getD_eq_getElem?_getD, List.getElem?_eq_getElem hi] using this
theorem mulb {x y : Int} (hx : 0 ≤ x ∧ x ≤ 1000000) (hy : 0 ≤ y ∧ y ≤ 65) : 0 ≤ x * y ∧ x * y ≤ 65000000 := by
  refine ⟨Int.mul_nonneg hx.1 hy.1, ?_⟩
  have h1 : x * y ≤ 1000000 * y := Int.mul_le_mul_of_nonneg_right hx.2 hy.1
  omega
theorem one_part_set (cs : List Int) (k : Nat) (h : k < cs.length) (hp : 0 < cs.getD k 0) : (part (cs.map one) k).set k 1 = part (cs.map one) (k + 1) := by
  rw [← part_set (cs.map one) k (by simpa using h)]
  congr 1
  have e : (cs.map one).getD k 0 = one (cs.getD k 0) := by simp [List.getD_eq_getElem?_getD, List.getElem?_eq_getElem h]
  rw [e]
  simp only [one]
  rw [if_pos hp]
theorem one_part_skip (cs : List Int) (k : Nat) (h : k < cs.length) (hp : ¬ 0 < cs.getD k 0) : part (cs.map one) k = part (cs.map one) (k + 1) := by
  rw [← part_set (cs.map one) k (by simpa using h)]
  have e : (cs.map one).getD k 0 = one (cs.getD k 0) := by simp [List.getD_eq_getElem?_getD, List.getElem?_eq_getElem h]
  rw [e]
  have e0 : one (cs.getD k 0) = 0 := by simp only [one]; rw [if_neg hp]
  rw [e0]
  apply List.ext_getElem?
  intro i
  by_cases hik : i = k
  · subst hik
    rw [List.getElem?_set_self (by rw [part_len _ _ (by simp; omega)]; simpa using h), part_get _ _ _ (by simp; omega)]
    simp [h]
  · rw [List.getElem?_set_ne (by omega)]
end Go.Proofs.YtmhpgkfaihcmeaaDoor
namespace Go.Proofs.YtmhpgkfaihcmeaaDoor
open Go.RowKit
set_option linter.unusedVariables false

set_option maxHeartbeats 1600000 in
theorem needy_any (a : Option Addr) (cap : Nat) (cs : List Int) (b : Option Addr) (cb : Nat) (ns : List Int) (j : Nat) (w : World) (ha : Ins w a cs) (hb : Ins w b ns) (hn : cs.length ≤ 80) (hc : ∀ i, i < cs.length → 0 ≤ cs.getD i 0 ∧ cs.getD i 0 ≤ 1000000) (hj : j ≤ 64) (hf : Fair cs ns j) :
    Calls Tryd.prog 29 #[.slice a cs.length cap, .slice b cs.length cb] w fun e w' => e = .returned (.int .i64 (pick cs ns cs.length)) ∧ ∃ m, w' = w.drewN m := by
  have HF : Hid (Fair cs ns j) := hf
  have HC : Hid (∀ i, i < cs.length → 0 ≤ cs.getD i 0 ∧ cs.getD i 0 ≤ 1000000) := hc
  have HQ : Hid (ns.length = cs.length) := hf.1
  clear hf hc
  generalize hlen : cs.length = n at *
  have HL : Hid (cs.length = n) := hlen
  clear hlen
  go_enter Tryd.func29, Tryd.ntmps29
  go_wp2
  go_loopw [5, 10] (fun x i wr => ∃ k m : Nat, k ≤ n ∧ i = .int .i64 k ∧ x = .int .i64 (pick cs ns k) ∧ wr = w.drewN m) (fun _ i _ => n - (intOf i).toNat)
  case atStart => exact ⟨0, 0, Nat.zero_le _, rfl, rfl, rfl⟩
  case round =>
    obtain ⟨k, m, hk, rfl, rfl, rfl⟩ := hrel
    by_cases hlt : k < n
    · obtain ⟨b1, o1, rfl, hb1, hc1⟩ := ha.len_pos k (by rw [HL.out]; exact hlt)
      obtain ⟨b2, o2, rfl, hb2, hc2⟩ := hb.len_pos k (by rw [HQ.out]; exact hlt)
      have hs1 := hc1 k (by rw [HL.out]; exact hlt)
      have hs2 := hc2 k (by rw [HQ.out]; exact hlt)
      have hx := HC.out k hlt
      have hy := HF.out.bnd k
      have hfk := HF.out.2 k (by rw [HL.out]; exact hlt)
      have hp := pick_rng cs ns k
      by_cases hsh : ns.getD k 0 = 0
      · have hno : ¬ ahead cs ns (pick cs ns k) k := fun h => by have := hfk.1 h.1; omega
        have HP : Hid (pick cs ns (k + 1) = pick cs ns k) := pick_no hno
        clear hno hfk hc1 hc2 hx
        rw [hsh] at hs2
        clear hsh hy
        generalize pick cs ns k = p at *
        go_wp2
        go_roundw
        case rel => exact ⟨k + 1, _, by omega, by go_num, by rw [HP.out], rfl⟩
        case measure => simp [intOf]; omega
      · have hpos : 0 < cs.getD k 0 := by
          by_cases h : 0 < cs.getD k 0
          · exact h
          · exact absurd (hfk.2 h) hsh
        by_cases hpn : pick cs ns k < 0
        · have HP : Hid (pick cs ns (k + 1) = k) := pick_yes ⟨hpos, .inl hpn⟩
          clear hfk hc1 hc2
          generalize pick cs ns k = p at *
          generalize cs.getD k 0 = x at *
          generalize ns.getD k 0 = y at *
          go_wp2
          go_quiet (fail)
          go_wp2
          go_roundw
          case rel => exact ⟨k + 1, _, by omega, by go_num, by rw [HP.out], rfl⟩
          case measure => simp [intOf]; omega
        · have HPY : Hid _ := @pick_yes cs ns k
          have HPN : Hid _ := @pick_no cs ns k
          have HPP : Hid (ahead cs ns (pick cs ns k) k ↔ cs.getD (pick cs ns k).toNat 0 * ns.getD k 0 < cs.getD k 0 * ns.getD (pick cs ns k).toNat 0) := by
            unfold Hid ahead
            constructor
            · rintro ⟨_, h | h⟩
              · exact absurd h hpn
              · exact h
            · exact fun h => ⟨hpos, .inr h⟩
          clear hfk
          generalize pick cs ns k = p at *
          obtain ⟨q, rfl⟩ : ∃ q : Nat, p = q := ⟨p.toNat, by omega⟩
          simp only [Int.toNat_natCast] at HPP
          have hs3 := hc1 q (by rw [HL.out]; omega)
          have hs4 := hc2 q (by rw [HQ.out]; omega)
          have hu := HC.out q (by omega)
          have hqn : q < n := by omega
          have hv := HF.out.bnd q
          clear hc1 hc2 hp hpn
          generalize cs.getD k 0 = x at *
          generalize ns.getD k 0 = y at *
          generalize cs.getD q 0 = u at *
          generalize ns.getD q 0 = v at *
          have m1 := mulb hx (show 0 ≤ v ∧ v ≤ 65 by omega)
          have m2 := mulb hu (show 0 ≤ y ∧ y ≤ 65 by omega)
          have hw1 : IntKind.i64.wrap (x * v) = x * v := IntWalk.i64_in _ (by omega)
          have hw2 : IntKind.i64.wrap (u * y) = u * y := IntWalk.i64_in _ (by omega)
          by_cases hcmp : u * y < x * v
          · have HP : Hid (pick cs ns (k + 1) = k) := HPY.out (HPP.out.2 hcmp)
            clear HPY HPN HPP
            go_wp2
            go_quiet (fail)
            go_wp2
            go_roundw
            case rel => exact ⟨k + 1, _, by omega, by go_num, by rw [HP.out], rfl⟩
            case measure => simp [intOf]; omega
          · have HP : Hid (pick cs ns (k + 1) = q) := HPN.out (fun h => hcmp (HPP.out.1 h))
            clear HPY HPN HPP
            go_wp2
            go_quiet (fail)
            go_wp2
            go_roundw
            case rel => exact ⟨k + 1, _, by omega, by go_num, by rw [HP.out], rfl⟩
            case measure => simp [intOf]; omega
    · have hkn : k = n := by omega
      subst hkn
      go_wp2
      go_ret
      exact ⟨rfl, _, rfl⟩
end Go.Proofs.YtmhpgkfaihcmeaaDoor
