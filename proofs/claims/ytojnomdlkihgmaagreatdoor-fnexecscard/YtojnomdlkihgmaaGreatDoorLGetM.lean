/-
  Lengths read from bits, as numbers: what the model reads and writes again is what the program reads.
-/
import Derived.Test.YtojnomdlkihgmaaGreatDoorSy3
import Derived.BigQuiet
import Derived.Test.YtojnomdlkihgmaaGreatDoorLPutM
namespace Go.Proofs.YtojnomdlkihgmaaGreatDoor
open Go.RowKit
set_option linter.unusedVariables false

set_option maxHeartbeats 800000 in
theorem RD.left {w : World} {B R : Nat} {a : Option Addr} {L cap n p : Nat} (h : RD w B R a L cap n p) (hn : n ≤ 4104) (hp : p ≤ 4104) :
    Calls Tryz.prog 76 #[.pointer (some ⟨R, 0, none⟩)] w fun e w' => e = .returned (.int .i64 ((n : Int) - p)) ∧ ∃ m, w' = w.drewN m := by
  have c0 := cellRR (j := 0) h.1 rfl
  have c1 := cellRR (j := 1) h.1 rfl
  have c2 := cellRR (j := 2) h.1 rfl
  clear h
  go_enter Tryz.func76, Tryz.ntmps76
  go_wp2
  go_quiet (fail)
  go_wp2
  go_ret
  exact ⟨rfl, _, rfl⟩
/-- k bits from p on. -/
def bt (V p k : Nat) : Nat := V / 2 ^ p % 2 ^ k
theorem bt_lt (V p k : Nat) : bt V p k < 2 ^ k := Nat.mod_lt _ (Nat.two_pow_pos k)
theorem bt_split (V p a b : Nat) : bt V p (a + b) = bt V p a + 2 ^ a * bt V (p + a) b := by
  unfold bt
  rw [Nat.pow_add, Nat.mod_mul, Nat.div_div_eq_div_mul, ← Nat.pow_add]
theorem bt_zero (V p : Nat) : bt V p 0 = 0 := by unfold bt; simp [Nat.mod_one]
theorem lp_shift (zs : List Int) (f i n V : Nat) : lp zs f i n V = (n + (lp zs f i 0 0).1, V + (lp zs f i 0 0).2 * 2 ^ n) := by
  induction f generalizing i n V with
  | zero => simp [lp]
  | succ f ih =>
    simp only [lp]
    by_cases h : i < zs.length
    · rw [if_pos h, if_pos h]
      by_cases hz : zs.getD i 0 = 0
      · rw [if_pos hz, if_pos hz, ih (i + 1 + run zs i) (n + 7), ih (i + 1 + run zs i) (0 + 7)]
        generalize lp zs f (i + 1 + run zs i) 0 0 = u
        generalize run zs i = r
        simp only [Prod.mk.injEq]
        refine ⟨by omega, ?_⟩
        rw [Nat.pow_add, Nat.pow_add]
        generalize 2 ^ n = P
        grind
      · rw [if_neg hz, if_neg hz, ih (i + 1) (n + 4), ih (i + 1) (0 + 4)]
        generalize lp zs f (i + 1) 0 0 = u
        generalize (zs.getD i 0).toNat = r
        simp only [Prod.mk.injEq]
        refine ⟨by omega, ?_⟩
        rw [Nat.pow_add]
        generalize 2 ^ n = P
        grind
    · rw [if_neg h, if_neg h]
      simp
/-- What the model reads. -/
def gq (n V s : Nat) : Nat → Nat → List Int → Option (List Int × Nat)
  | 0, p, out => some (out, p)
  | f + 1, p, out => if out.length < s then (if p + 4 ≤ n then (if bt V p 4 = 0 then (if p + 7 ≤ n then gq n V s f (p + 7) (out ++ [0] ++ List.replicate (bt V (p + 4) 3) 0) else none) else gq n V s f (p + 4) (out ++ [((bt V p 4 : Nat) : Int)])) else none) else some (out, p)
/-- What the program reads: e: the noughts ahead are over. -/
def gi (n V s : Nat) : Nat → Nat → List Int → Bool → Option (List Int × Nat)
  | 0, p, out, e => some (out, p)
  | f + 1, p, out, e => if out.length < s then (if p + 4 ≤ n then (if bt V p 4 = 0 then (if p + 7 ≤ n then (if e = true ∨ s < out.length + 1 + bt V (p + 4) 3 then none else gi n V s f (p + 7) (out ++ [0] ++ List.replicate (bt V (p + 4) 3) 0) (decide (bt V (p + 4) 3 < 7))) else none) else gi n V s f (p + 4) (out ++ [((bt V p 4 : Nat) : Int)]) false) else none) else some (out, p)
theorem gq_end {n V s f q : Nat} {out : List Int} (h : ¬ out.length < s) : gq n V s f q out = some (out, q) := by
  cases f with
  | zero => rfl
  | succ f => simp only [gq]; rw [if_neg h]
theorem gq_4 {n V s f q : Nat} {out : List Int} (h : out.length < s) (h4 : ¬ q + 4 ≤ n) : gq n V s (f + 1) q out = none := by simp only [gq]; rw [if_pos h, if_neg h4]
theorem gq_pos {n V s f q : Nat} {out : List Int} (h : out.length < s) (h4 : q + 4 ≤ n) (hx : ¬ bt V q 4 = 0) : gq n V s (f + 1) q out = gq n V s f (q + 4) (out ++ [((bt V q 4 : Nat) : Int)]) := by simp only [gq]; rw [if_pos h, if_pos h4, if_neg hx]
theorem gq_7 {n V s f q : Nat} {out : List Int} (h : out.length < s) (h4 : q + 4 ≤ n) (hx : bt V q 4 = 0) (h7 : ¬ q + 7 ≤ n) : gq n V s (f + 1) q out = none := by simp only [gq]; rw [if_pos h, if_pos h4, if_pos hx, if_neg h7]
theorem gq_zero {n V s f q : Nat} {out : List Int} (h : out.length < s) (hx : bt V q 4 = 0) (h7 : q + 7 ≤ n) : gq n V s (f + 1) q out = gq n V s f (q + 7) (out ++ [0] ++ List.replicate (bt V (q + 4) 3) 0) := by simp only [gq]; rw [if_pos h, if_pos (by omega), if_pos hx, if_pos h7]
theorem gi_end {n V s f q : Nat} {out : List Int} {e : Bool} (h : ¬ out.length < s) : gi n V s f q out e = some (out, q) := by
  cases f with
  | zero => rfl
  | succ f => simp only [gi]; rw [if_neg h]
theorem gi_4 {n V s f q : Nat} {out : List Int} {e : Bool} (h : out.length < s) (h4 : ¬ q + 4 ≤ n) : gi n V s (f + 1) q out e = none := by simp only [gi]; rw [if_pos h, if_neg h4]
theorem gi_pos {n V s f q : Nat} {out : List Int} {e : Bool} (h : out.length < s) (h4 : q + 4 ≤ n) (hx : ¬ bt V q 4 = 0) : gi n V s (f + 1) q out e = gi n V s f (q + 4) (out ++ [((bt V q 4 : Nat) : Int)]) false := by simp only [gi]; rw [if_pos h, if_pos h4, if_neg hx]
theorem gi_7 {n V s f q : Nat} {out : List Int} {e : Bool} (h : out.length < s) (h4 : q + 4 ≤ n) (hx : bt V q 4 = 0) (h7 : ¬ q + 7 ≤ n) : gi n V s (f + 1) q out e = none := by simp only [gi]; rw [if_pos h, if_pos h4, if_pos hx, if_neg h7]
theorem gi_bad {n V s f q : Nat} {out : List Int} {e : Bool} (h : out.length < s) (hx : bt V q 4 = 0) (h7 : q + 7 ≤ n) (hb : e = true ∨ s < out.length + 1 + bt V (q + 4) 3) : gi n V s (f + 1) q out e = none := by simp only [gi]; rw [if_pos h, if_pos (by omega), if_pos hx, if_pos h7, if_pos hb]
theorem gi_zero {n V s f q : Nat} {out : List Int} {e : Bool} (h : out.length < s) (hx : bt V q 4 = 0) (h7 : q + 7 ≤ n) (hb : ¬ (e = true ∨ s < out.length + 1 + bt V (q + 4) 3)) : gi n V s (f + 1) q out e = gi n V s f (q + 7) (out ++ [0] ++ List.replicate (bt V (q + 4) 3) 0) (decide (bt V (q + 4) 3 < 7)) := by simp only [gi]; rw [if_pos h, if_pos (by omega), if_pos hx, if_pos h7, if_neg hb]
/-- How many elements a slice value has. -/
def lenS : Value → Nat
  | .slice _ n _ => n
  | _ => 0
theorem nou_rep (k : Nat) (t : List Int) : nou (List.replicate k 0 ++ t) = k + nou t := by
  induction k with
  | zero => simp
  | succ k ih => rw [List.replicate_succ, List.cons_append]; simp only [nou, if_true]; rw [ih]; omega
theorem run_app (out rest : List Int) (k : Nat) : run (out ++ [0] ++ List.replicate k 0 ++ rest) out.length = min (k + nou rest) 7 := by
  unfold run
  have e : (out ++ [0] ++ List.replicate k 0 ++ rest).drop (out.length + 1) = List.replicate k 0 ++ rest := by
    have h : out.length + 1 = (out ++ [(0 : Int)]).length := by simp
    rw [List.append_assoc, h, List.drop_left]
  rw [e, nou_rep]
theorem nou_head {t : List Int} (h : 0 < t.length → t.getD 0 0 ≠ 0) : nou t = 0 := by
  cases t with
  | nil => rfl
  | cons z t => simp only [nou]; rw [if_neg (by simpa using h (by simp))]
theorem getD_app0 (out rest : List Int) : (out ++ rest).getD out.length 0 = rest.getD 0 0 := by
  rw [List.getD_eq_getElem?_getD, List.getElem?_append_right (Nat.le_refl _), Nat.sub_self, List.getD_eq_getElem?_getD]

theorem gi_yes (n V s : Nat) (f : Nat) : ∀ (p : Nat) (out : List Int) (e : Bool) (res : List Int) (q : Nat), s ≤ f + out.length → out.length ≤ s → gi n V s f p out e = some (res, q) →
    (∃ rest, res = out ++ rest) ∧ res.length = s ∧ p ≤ q ∧ (e = true → out.length < s → res.getD out.length 0 ≠ 0) ∧ (∀ f' N U, s ≤ f' + out.length → lp res f' out.length N U = (N + (q - p), U + bt V p (q - p) * 2 ^ N)) ∧ gq n V s f p out = some (res, q) := by
  induction f with
  | zero =>
    intro p out e res q hf ho h
    simp only [gi, Option.some.injEq, Prod.mk.injEq] at h
    obtain ⟨rfl, rfl⟩ := h
    refine ⟨⟨[], by simp⟩, by omega, Nat.le_refl _, fun _ h => absurd h (by omega), fun f' N U _ => ?_, rfl⟩
    rw [lp_end _ _ _ _ _ (by omega), Nat.sub_self, bt_zero]
    simp
  | succ f ih =>
    intro p out e res q hf ho h
    simp only [gi] at h
    by_cases h1 : out.length < s
    · rw [if_pos h1] at h
      by_cases h2 : p + 4 ≤ n
      · rw [if_pos h2] at h
        by_cases h3 : bt V p 4 = 0
        · rw [if_pos h3] at h
          by_cases h4 : p + 7 ≤ n
          · rw [if_pos h4] at h
            have hk := bt_lt V (p + 4) 3
            generalize hke : bt V (p + 4) 3 = k at *
            by_cases h5 : e = true ∨ s < out.length + 1 + k
            · rw [if_pos h5] at h
              cases h
            · rw [if_neg h5] at h
              have hl : (out ++ [0] ++ List.replicate k 0).length = out.length + 1 + k := by simp; omega
              obtain ⟨⟨rest, hr⟩, r1, r2, r3, r4, r5⟩ := ih (p + 7) (out ++ [0] ++ List.replicate k 0) (decide (k < 7)) res q (by omega) (by omega) h
              have hrun : run res out.length = k := by
                rw [hr, run_app]
                by_cases h7 : k < 7
                · rw [nou_head (t := rest) (fun hp => ?_)]
                  · omega
                  · have h8 := r3 (by simpa using h7) (by rw [hr, List.length_append] at r1; omega)
                    rw [hr, getD_app0] at h8
                    exact h8
                · omega
              have hz : res.getD out.length 0 = 0 := by
                rw [hr, List.append_assoc, List.append_assoc, getD_app0]
                rfl
              refine ⟨⟨[0] ++ List.replicate k 0 ++ rest, by rw [hr]; simp⟩, r1, by omega, fun he => absurd (Or.inl he) h5, fun f' N U hf' => ?_, ?_⟩
              · obtain ⟨g, rfl⟩ : ∃ g, f' = g + 1 := ⟨f' - 1, by omega⟩
                rw [lp_zero _ _ _ _ _ (by omega) hz, hrun]
                rw [hl] at r4
                rw [r4 g (N + 7) _ (by omega), show q - p = 4 + (3 + (q - (p + 7))) by omega, bt_split, h3, bt_split, hke, show p + 4 + 3 = p + 7 from rfl]
                generalize bt V (p + 7) (q - (p + 7)) = u
                simp only [Prod.mk.injEq]
                refine ⟨by omega, ?_⟩
                rw [Nat.pow_add, Nat.pow_add]
                generalize 2 ^ N = P
                grind
              · simp only [gq]
                rw [if_pos h1, if_pos h2, if_pos h3, if_pos h4, hke]
                exact r5
          · rw [if_neg h4] at h
            cases h
        · rw [if_neg h3] at h
          have hl : (out ++ [((bt V p 4 : Nat) : Int)]).length = out.length + 1 := by simp
          obtain ⟨⟨rest, hr⟩, r1, r2, r3, r4, r5⟩ := ih (p + 4) (out ++ [((bt V p 4 : Nat) : Int)]) false res q (by omega) (by omega) h
          have hz : res.getD out.length 0 = ((bt V p 4 : Nat) : Int) := by
            rw [hr, List.append_assoc, getD_app0]
            rfl
          refine ⟨⟨((bt V p 4 : Nat) : Int) :: rest, by rw [hr]; simp⟩, r1, by omega, fun _ _ => by rw [hz]; omega, fun f' N U hf' => ?_, ?_⟩
          · obtain ⟨g, rfl⟩ : ∃ g, f' = g + 1 := ⟨f' - 1, by omega⟩
            rw [lp_pos _ _ _ _ _ (by omega) (by rw [hz]; omega), hz]
            rw [hl] at r4
            rw [r4 g (N + 4) _ (by omega), show q - p = 4 + (q - (p + 4)) by omega, bt_split, Int.toNat_natCast]
            generalize bt V (p + 4) (q - (p + 4)) = u
            generalize bt V p 4 = v
            simp only [Prod.mk.injEq]
            refine ⟨by omega, ?_⟩
            rw [Nat.pow_add]
            generalize 2 ^ N = P
            grind
          · simp only [gq]
            rw [if_pos h1, if_pos h2, if_neg h3]
            exact r5
      · rw [if_neg h2] at h
        cases h
    · rw [if_neg h1] at h
      simp only [Option.some.injEq, Prod.mk.injEq] at h
      obtain ⟨rfl, rfl⟩ := h
      refine ⟨⟨[], by simp⟩, by omega, Nat.le_refl _, fun _ h => absurd h (by omega), fun f' N U _ => ?_, ?_⟩
      · rw [lp_end _ _ _ _ _ (by omega), Nat.sub_self, bt_zero]
        simp
      · simp only [gq]
        rw [if_neg h1]

theorem gq_ext (n V s : Nat) (f : Nat) : ∀ (p : Nat) (out res : List Int) (q : Nat), gq n V s f p out = some (res, q) → (∃ rest, res = out ++ rest) ∧ p ≤ q ∧ (p ≤ n → q ≤ n) := by
  induction f with
  | zero =>
    intro p out res q h
    simp only [gq, Option.some.injEq, Prod.mk.injEq] at h
    obtain ⟨rfl, rfl⟩ := h
    exact ⟨⟨[], by simp⟩, Nat.le_refl _, id⟩
  | succ f ih =>
    intro p out res q h
    simp only [gq] at h
    split at h
    · split at h
      · split at h
        · split at h
          · obtain ⟨⟨rest, hr⟩, h2, h3⟩ := ih _ _ _ _ h
            exact ⟨⟨[0] ++ List.replicate (bt V (p + 4) 3) 0 ++ rest, by rw [hr]; simp⟩, by omega, fun _ => h3 (by omega)⟩
          · cases h
        · obtain ⟨⟨rest, hr⟩, h2, h3⟩ := ih _ _ _ _ h
          exact ⟨⟨((bt V p 4 : Nat) : Int) :: rest, by rw [hr]; simp⟩, by omega, fun _ => h3 (by omega)⟩
      · cases h
    · simp only [Option.some.injEq, Prod.mk.injEq] at h
      obtain ⟨rfl, rfl⟩ := h
      exact ⟨⟨[], by simp⟩, Nat.le_refl _, id⟩

theorem gq_yes (n V s : Nat) (f : Nat) : ∀ (p : Nat) (out : List Int) (e : Bool) (res : List Int) (q f' : Nat), s ≤ f + out.length → s ≤ f' + out.length → gq n V s f p out = some (res, q) → res.length = s → lp res f' out.length 0 0 = (q - p, bt V p (q - p)) →
    (e = true → out.length < s → res.getD out.length 0 ≠ 0) → gi n V s f p out e = some (res, q) := by
  induction f with
  | zero =>
    intro p out e res q f' hf hf' h hl hlp he
    simpa [gq, gi] using h
  | succ f ih =>
    intro p out e res q f' hf hf' h hl hlp he
    simp only [gq] at h
    simp only [gi]
    by_cases h1 : out.length < s
    · rw [if_pos h1] at h ⊢
      obtain ⟨g, rfl⟩ : ∃ g, f' = g + 1 := ⟨f' - 1, by omega⟩
      by_cases h2 : p + 4 ≤ n
      · rw [if_pos h2] at h ⊢
        by_cases h3 : bt V p 4 = 0
        · rw [if_pos h3] at h ⊢
          by_cases h4 : p + 7 ≤ n
          · rw [if_pos h4] at h ⊢
            have hk := bt_lt V (p + 4) 3
            generalize hke : bt V (p + 4) 3 = k at *
            have hl2 : (out ++ [0] ++ List.replicate k 0).length = out.length + 1 + k := by simp; omega
            obtain ⟨⟨rest, hr⟩, hq, -⟩ := gq_ext n V s f _ _ _ _ h
            have hz : res.getD out.length 0 = 0 := by
              rw [hr, List.append_assoc, List.append_assoc, getD_app0]
              rfl
            rw [lp_zero _ _ _ _ _ (by omega) hz, lp_shift, show q - p = 4 + (3 + (q - (p + 7))) by omega, bt_split, h3, bt_split, hke, show p + 4 + 3 = p + 7 from rfl] at hlp
            have hrl := run_le res out.length (by omega)
            have hk2 : run res out.length = k ∧ lp res g (out.length + 1 + run res out.length) 0 0 = (q - (p + 7), bt V (p + 7) (q - (p + 7))) := by
              generalize run res out.length = r at *
              generalize bt V (p + 7) (q - (p + 7)) = u at *
              generalize lp res g (out.length + 1 + r) 0 0 = x at *
              simp only [Prod.mk.injEq] at hlp
              obtain ⟨e1, e2⟩ := hlp
              obtain ⟨x1, x2⟩ := x
              simp only at e1 e2
              exact ⟨by omega, by simp only [Prod.mk.injEq]; omega⟩
            obtain ⟨hrk, hlp2⟩ := hk2
            rw [hrk] at hlp2 hrl
            rw [if_neg (by
              rintro (h9 | h9)
              · exact he h9 h1 hz
              · omega)]
            refine ih (p + 7) _ _ res q g (by omega) (by omega) h hl (by rw [hl2]; exact hlp2) ?_
            intro h7 h8
            rw [hl2] at h8 ⊢
            have h9 := run_out res out.length (by omega) (by rw [hrk]; simpa using h7) (by rw [hrk]; omega)
            rw [hrk, show out.length + k + 1 = out.length + 1 + k by omega] at h9
            exact h9
          · rw [if_neg h4] at h
            cases h
        · rw [if_neg h3] at h ⊢
          have hl2 : (out ++ [((bt V p 4 : Nat) : Int)]).length = out.length + 1 := by simp
          obtain ⟨⟨rest, hr⟩, hq, -⟩ := gq_ext n V s f _ _ _ _ h
          have hz : res.getD out.length 0 = ((bt V p 4 : Nat) : Int) := by
            rw [hr, List.append_assoc, getD_app0]
            rfl
          have hv := bt_lt V p 4
          rw [lp_pos _ _ _ _ _ (by omega) (by rw [hz]; omega), hz, lp_shift, show q - p = 4 + (q - (p + 4)) by omega, bt_split, Int.toNat_natCast] at hlp
          have hlp2 : lp res g (out.length + 1) 0 0 = (q - (p + 4), bt V (p + 4) (q - (p + 4))) := by
            generalize bt V (p + 4) (q - (p + 4)) = u at *
            generalize bt V p 4 = v at *
            generalize lp res g (out.length + 1) 0 0 = x at *
            simp only [Prod.mk.injEq] at hlp
            obtain ⟨e1, e2⟩ := hlp
            obtain ⟨x1, x2⟩ := x
            simp only at e1 e2
            simp only [Prod.mk.injEq]
            omega
          exact ih (p + 4) _ false res q g (by omega) (by omega) h hl (by rw [hl2]; exact hlp2) (by simp)
      · rw [if_neg h2] at h
        cases h
    · rw [if_neg h1] at h ⊢
      exact h
/-- The program reads just what the model reads, fills, and writes as it was. -/
theorem gi_iff (n V s p : Nat) (res : List Int) (q : Nat) : gi n V s s p [] false = some (res, q) ↔ gq n V s s p [] = some (res, q) ∧ res.length = s ∧ lpF res = (q - p, bt V p (q - p)) := by
  constructor
  · intro h
    obtain ⟨-, r1, r2, -, r4, r5⟩ := gi_yes n V s s p [] false res q (by simp) (by simp) h
    refine ⟨r5, r1, ?_⟩
    have := r4 s 0 0 (by simp)
    unfold lpF
    rw [r1]
    simpa using this
  · rintro ⟨h1, h2, h3⟩
    refine gq_yes n V s s p [] false res q s (by simp) (by simp) h1 h2 ?_ (by simp)
    unfold lpF at h3
    rw [h2] at h3
    exact h3
end Go.Proofs.YtojnomdlkihgmaaGreatDoor
