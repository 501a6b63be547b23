/-
  The model and the program get texts out of codes alike.
-/
import Derived.Test.YtpmagpjiacpheaaDoorHGet9
namespace Go.Proofs.YtpmagpjiacpheaaDoor
open Go.RowKit
set_option linter.unusedVariables false

/-- The sentinels that a reader of codes may hand out. -/
structure SentH (w : World) : Prop where
  s0 : Sent w 7
  s1 : Sent w 9
  s2 : Sent w 5
  hG : 7 < w.heap.size ∧ 9 < w.heap.size ∧ 5 < w.heap.size
theorem SentH.below {w w' : World} (h : SentH w) (hb : Below w.heap.size w w') : SentH w' :=
  ⟨h.s0.below hb h.hG.1, h.s1.below hb h.hG.2.1, h.s2.below hb h.hG.2.2, by have := hb.size; have := h.hG; omega⟩

theorem huffGet_both (N p s : Int) (ls zs : List Int) (hl1 : ls.length ≤ 1048576) (hl : zs.length ≤ 1048576) (hr : ∀ z ∈ zs, 0 ≤ z ∧ z ≤ 255) : ∃ (ys : List Int) (M : Int) (ok : Bool), ys.length ≤ 1048576 ∧
    (∀ (a : Option Addr) (ca : Nat) (x : Option Addr) (cx : Nat) (w : World), Ins w a ls → Byt w x zs → Calls Tryd.prog 26 #[.slice a ls.length ca, .agg #[.slice x zs.length cx, .int .i64 N], .int .i64 p, .int .i64 s] w fun e w' =>
      ∃ a' cp, e = .returned (.tuple #[.slice a' ys.length cp, .int .i64 M, .bool ok]) ∧ MinI w' w.heap.size w'.heap.size a' cp ys ∧ Below w.heap.size w w') ∧
    (∀ (a : Option Addr) (ca : Nat) (x : Option Addr) (cx : Nat) (w : World), Ins w a ls → Byt w x zs → Four w → ErrT w → SentH w → Calls Tryd.prog 28 #[.slice a ls.length ca, .agg #[.slice x zs.length cx, .int .i64 N], .int .i64 p, .int .i64 s] w fun e w' =>
      ∃ a' cp, e = .returned (.tuple #[.slice a' ys.length cp, .int .i64 M, .bool ok]) ∧ MinI w' w.heap.size w'.heap.size a' cp ys ∧ Below w.heap.size w w') := by
  by_cases h : hgArgs ls N p s zs
  · obtain ⟨hlb, hO, h1, h2, h3, h4⟩ := h
    obtain ⟨n, rfl, hn1, he, hv⟩ := okB_enc hO hr
    obtain ⟨p, rfl⟩ := Int.eq_ofNat_of_zero_le h1
    obtain ⟨s, rfl⟩ := Int.eq_ofNat_of_zero_le h3
    by_cases hg : ∃ q E, q.length = s ∧ Reads ls (crun ls (sbL ls 12)).2.2 n (val zs) p q E
    · obtain ⟨q, E, hq, hrd⟩ := hg
      refine ⟨q, (E : Nat), true, by omega, ?_, ?_⟩
      · intro a ca x cx w ha hx
        refine (specHuffGet_ok a ca ls x cx zs n p s w ha hx hlb hO he (by omega) (by omega) (by omega)).mono ?_
        rintro e w' ⟨hbb, ⟨q', E', u, g1, g2, g3, rfl⟩ | ⟨q', E', g1, g2, g3, rfl⟩⟩
        · obtain ⟨rfl, rfl⟩ := hrd.unique g2 (by omega)
          obtain ⟨au, cu, rfl, hm⟩ := g3.mine
          exact ⟨au, cu, rfl, hm, hbb⟩
        · exact absurd (hrd.stuck g2 (by omega) g3) (by simp)
      · intro a ca x cx w ha hx h4 hE hS
        refine (implHuffGet_ok a ca ls x cx zs n p s w ha hx hlb hO he (by omega) (by omega) (by omega) h4 hE hS.s0 hS.s1 hS.s2 hS.hG).mono ?_
        rintro e w' ⟨hbb, ⟨q', E', g, g1, g2, g3, rfl⟩ | ⟨q', E', g1, g2, g3, rfl⟩⟩
        · obtain ⟨rfl, rfl⟩ := hrd.unique g2 (by omega)
          exact ⟨_, s, by rw [hq], g3.mine, hbb⟩
        · exact absurd (hrd.stuck g2 (by omega) g3) (by simp)
    · refine ⟨[], -1, false, by simp, ?_, ?_⟩
      · intro a ca x cx w ha hx
        refine (specHuffGet_ok a ca ls x cx zs n p s w ha hx hlb hO he (by omega) (by omega) (by omega)).mono ?_
        rintro e w' ⟨hbb, ⟨q', E', u, g1, g2, g3, rfl⟩ | ⟨q', E', g1, g2, g3, rfl⟩⟩
        · exact absurd ⟨q', E', g1, g2⟩ hg
        · exact ⟨none, 0, rfl, .inl ⟨rfl, rfl, rfl⟩, hbb⟩
      · intro a ca x cx w ha hx h4 hE hS
        refine (implHuffGet_ok a ca ls x cx zs n p s w ha hx hlb hO he (by omega) (by omega) (by omega) h4 hE hS.s0 hS.s1 hS.s2 hS.hG).mono ?_
        rintro e w' ⟨hbb, ⟨q', E', g, g1, g2, g3, rfl⟩ | ⟨q', E', g1, g2, g3, rfl⟩⟩
        · exact absurd ⟨q', E', g1, g2⟩ hg
        · exact ⟨none, 0, rfl, .inl ⟨rfl, rfl, rfl⟩, hbb⟩
  · refine ⟨[], -1, false, by simp, ?_, ?_⟩
    · intro a ca x cx w ha hx
      refine (specHuffGet_no a ca ls x cx zs N p s w ha hx (by omega) (by omega) h).mono ?_
      rintro e w' ⟨rfl, hbb⟩
      exact ⟨none, 0, rfl, .inl ⟨rfl, rfl, rfl⟩, hbb⟩
    · intro a ca x cx w ha hx h4 hE hS
      refine (implHuffGet_no a ca ls x cx zs N p s w ha hx (by omega) (by omega) h4 hE h).mono ?_
      rintro e w' ⟨rfl, hbb⟩
      exact ⟨none, 0, rfl, .inl ⟨rfl, rfl, rfl⟩, hbb⟩
end Go.Proofs.YtpmagpjiacpheaaDoor
