/-
  A row of sequences of the call's own, and its marks.
-/
import Derived.Test.YtbkmdgceobilkaaSqM
import Derived.Test.YtbkmdgceobilkaaSqA
namespace Go.Proofs.Ytbkmdgceobilkaa
open Go.RowKit
set_option linter.unusedVariables false
set_option linter.unusedSimpArgs false

/-- Sequences whose row and letters lie in blocks from B on, ahead of U. -/
structure RowS (W : World) (B U : Nat) (a : Option Addr) (c : Nat) (ss : List Sq) : Prop where
  own : OVq W B (.slice a ss.length c) ss
  blk : ∀ k, (Value.slice a ss.length c).ownBlock = some k → k < U
  mine : ∀ s ∈ ss, Mine W B U s.a s.c s.ls
  apart : (ss.map Sq.a).Pairwise (fun x y => ∀ k, rowOf x k → ¬ rowOf y k)
  rng : ∀ s ∈ ss, rI s.n ∧ rI s.d ∧ s.ls.length ≤ maxLen
section
variable {W W' : World} {B U : Nat} {a : Option Addr} {c : Nat} {ss : List Sq}
theorem RowS.stay {S : Nat → Prop} (h : RowS W B U a c ss) (ho : Only S W W') (hs : ∀ k, B ≤ k → k < U → ¬ S k) : RowS W' B U a c ss :=
  ⟨h.own.stay ho (fun k hk => hs k (h.own.blk hk).1 (h.blk k hk)), h.blk, fun s hm => (h.mine s hm).only ho hs, h.apart, h.rng⟩
theorem RowS.below (h : RowS W B U a c ss) (hb : Below W.heap.size W W') : RowS W' B U a c ss := h.stay (Only.ofBelow (S := fun _ => False) hb (Nat.le_refl _)) (by simp)
theorem RowS.mono {B' U' : Nat} (h : RowS W B U a c ss) (h1 : B' ≤ B) (h2 : U ≤ U') : RowS W B' U' a c ss :=
  ⟨h.own.weak h1, fun k hk => Nat.lt_of_lt_of_le (h.blk k hk) h2, fun s hm => (h.mine s hm).mono h1 h2, h.apart, h.rng⟩
theorem RowS.sqs (h : RowS W B U a c ss) : Sqs W a ss := h.own.sqs (fun s hs => ⟨h.rng s hs, (h.mine s hs).byt⟩)
theorem RowS.ows {g : Nat} (h : RowS W B W.heap.size (some ⟨g, 0, none⟩) c ss) : OwS W B g c ss := by
  refine ⟨h.own.own, h.rng, h.mine, fun i j hi hj hij k hk hk2 => ?_⟩
  have hp := List.pairwise_iff_getElem.1 h.apart
  have gi : ∀ i, i < ss.length → (ss.map Sq.a)[i]? = some (ss.getD i dq).a := fun i hi => by
    rw [List.getElem?_map, List.getD_eq_getElem?_getD, List.getElem?_eq_getElem hi]
    rfl
  have ge : ∀ i (hi : i < ss.length), (ss.map Sq.a)[i]'(by simpa using hi) = (ss.getD i dq).a := fun i hi => by
    have := gi i hi
    rw [List.getElem?_eq_getElem (by simpa using hi)] at this
    simpa using this
  rcases Nat.lt_or_gt_of_ne hij with h1 | h1
  · have := hp i j (by simpa using hi) (by simpa using hj) h1 k
    rw [ge i hi, ge j hj] at this
    exact this hk hk2
  · have := hp j i (by simpa using hj) (by simpa using hi) h1 k
    rw [ge i hi, ge j hj] at this
    exact this hk2 hk
theorem OwS.rowS {g : Nat} (h : OwS W B g c ss) (hap : (ss.map Sq.a).Pairwise (fun x y => ∀ k, rowOf x k → ¬ rowOf y k)) : RowS W B W.heap.size (some ⟨g, 0, none⟩) c ss :=
  ⟨⟨h.row⟩, fun k hk => (h.row.lt k hk).2, h.mine, hap, h.rng⟩
end
theorem mkS_a (k : Int) (ss : List Sq) : (mkS k ss).map Sq.a = ss.map Sq.a := by
  induction ss generalizing k with
  | nil => rfl
  | cons s t ih => simp only [mkS, List.map_cons]; rw [ih]
theorem lets_le (ss : List Sq) (h : ∀ s ∈ ss, s.ls.length ≤ 300) : lets ss ≤ 300 * ss.length := by
  induction ss with
  | nil => simp [lets]
  | cons s t ih =>
    have h1 := h s (by simp)
    have h2 := ih (fun x hx => h x (List.mem_cons_of_mem _ hx))
    simp only [lets, List.length_cons]
    omega
set_option maxHeartbeats 800000 in
theorem markSeqS_nil (c : Nat) (k : Int) (w : World) : Calls Try.prog 13 #[.slice none 0 c, .int .i64 k] w fun e w' => e = .returned (.int .i64 k) ∧ w' = w := by
  go_enter Try.func13, Try.ntmps13
  go_wp2
  go_loopw [1, 5] (fun kv iv wr => kv = .int .i64 k ∧ iv = .int .i64 0 ∧ wr = w) (fun _ _ _ => 0)
  case atStart => exact ⟨rfl, rfl, rfl⟩
  case round =>
    obtain ⟨rfl, rfl, rfl⟩ := hrel
    go_wp2
    go_ret
    exact ⟨rfl, rfl⟩
theorem ownBlock_none {a : Option Addr} {n c : Nat} (h : a = none) : (Value.slice a n c).ownBlock = none := by subst h; rfl
/-- Sequences of a row are marked. -/
theorem RowS.mark {w : World} {B : Nat} {a : Option Addr} {c : Nat} {ss : List Sq} (h : RowS w B w.heap.size a c ss) (hn : ss.length + lets ss ≤ 1048576) :
    Calls Try.prog 13 #[.slice a ss.length c, .int .i64 1] w fun e w' => e = .returned (.int .i64 (1 + lets ss + 2 * ss.length)) ∧ RowS w' B w'.heap.size a c (mkS 1 ss) ∧ Only (fun b => B ≤ b ∧ b < w.heap.size) w w' := by
  rcases h.own.own.2 with ⟨e, h0⟩ | ⟨g, cap, cur, e, hg, hh, hr⟩
  · have hs0 : ss = [] := List.eq_nil_of_length_eq_zero h0
    subst hs0
    obtain ⟨rfl, -, rfl⟩ : a = none ∧ ([] : List Sq).length = 0 ∧ c = 0 := by simpa using e
    refine (markSeqS_nil 0 1 w).mono ?_
    rintro e w' ⟨rfl, rfl⟩
    exact ⟨by simp [lets], h, Only.refl _ _⟩
  · obtain ⟨rfl, -, rfl⟩ : a = some ⟨g, 0, none⟩ ∧ ss.length = ss.length ∧ c = cap := by simpa using e
    have ho := h.ows
    refine (markSeqS_own B g c ss 1 w ho hn (by omega) (by omega)).mono ?_
    rintro e w' ⟨rfl, ho', hon⟩
    refine ⟨rfl, ho'.rowS (by rw [mkS_a]; exact h.apart), hon.mono (fun k hk hs => ?_)⟩
    rcases hs with rfl | ⟨s, hs, hr⟩
    · exact ⟨ho.lt.1, ho.lt.2⟩
    · exact (ho.mine s hs).rowB hr
end Go.Proofs.Ytbkmdgceobilkaa
