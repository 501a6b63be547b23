/-
  Noughts appended to a row of numbers that is not empty.
-/
import Derived.Test.YtkolfmjlkfkleaaDoorLPutM
import Derived.Test.YtkolfmjlkfkleaaDoorIApp
namespace Go.Proofs.YtkolfmjlkfkleaaDoor
open Go.RowKit
set_option linter.unusedVariables false

/-- k bits from p on. -/
def bt (V p k : Nat) : Nat := V / 2 ^ p % 2 ^ k
theorem bt_lt (V p k : Nat) : bt V p k < 2 ^ k := Nat.mod_lt _ (Nat.two_pow_pos k)
theorem bt_split (V p a b : Nat) : bt V p (a + b) = bt V p a + 2 ^ a * bt V (p + a) b := by
  unfold bt
  rw [Nat.pow_add, Nat.mod_mul, Nat.div_div_eq_div_mul, ← Nat.pow_add]
theorem bt_zero (V p : Nat) : bt V p 0 = 0 := by unfold bt; simp [Nat.mod_one]
theorem lp_shift (zs : List Int) (f i n V : Nat) : lp zs f i n V = (n + (lp zs f i 0 0).1, V + (lp zs f i 0 0).2 * 2 ^ n) := by
  induction f generalizing i n V with
  | zero => simp [lp]
  | succ f ih =>
    simp only [lp]
    by_cases h : i < zs.length
    · rw [if_pos h, if_pos h]
      by_cases hz : zs.getD i 0 = 0
      · rw [if_pos hz, if_pos hz, ih (i + 1 + run zs i) (n + 7), ih (i + 1 + run zs i) (0 + 7)]
        generalize lp zs f (i + 1 + run zs i) 0 0 = u
        generalize run zs i = r
        simp only [Prod.mk.injEq]
        refine ⟨by omega, ?_⟩
        rw [Nat.pow_add, Nat.pow_add]
        generalize 2 ^ n = P
        grind
      · rw [if_neg hz, if_neg hz, ih (i + 1) (n + 4), ih (i + 1) (0 + 4)]
        generalize lp zs f (i + 1) 0 0 = u
        generalize (zs.getD i 0).toNat = r
        simp only [Prod.mk.injEq]
        refine ⟨by omega, ?_⟩
        rw [Nat.pow_add]
        generalize 2 ^ n = P
        grind
    · rw [if_neg h, if_neg h]
      simp
/-- What the model reads. -/
def gq (n V s : Nat) : Nat → Nat → List Int → Option (List Int × Nat)
  | 0, p, out => some (out, p)
  | f + 1, p, out => if out.length < s then (if p + 4 ≤ n then (if bt V p 4 = 0 then (if p + 7 ≤ n then gq n V s f (p + 7) (out ++ [0] ++ List.replicate (bt V (p + 4) 3) 0) else none) else gq n V s f (p + 4) (out ++ [((bt V p 4 : Nat) : Int)])) else none) else some (out, p)
/-- What the program reads: e: the noughts ahead are over. -/
def gi (n V s : Nat) : Nat → Nat → List Int → Bool → Option (List Int × Nat)
  | 0, p, out, e => some (out, p)
  | f + 1, p, out, e => if out.length < s then (if p + 4 ≤ n then (if bt V p 4 = 0 then (if p + 7 ≤ n then (if e = true ∨ s < out.length + 1 + bt V (p + 4) 3 then none else gi n V s f (p + 7) (out ++ [0] ++ List.replicate (bt V (p + 4) 3) 0) (decide (bt V (p + 4) 3 < 7))) else none) else gi n V s f (p + 4) (out ++ [((bt V p 4 : Nat) : Int)]) false) else none) else some (out, p)
theorem gq_end {n V s f q : Nat} {out : List Int} (h : ¬ out.length < s) : gq n V s f q out = some (out, q) := by
  cases f with
  | zero => rfl
  | succ f => simp only [gq]; rw [if_neg h]
theorem gq_4 {n V s f q : Nat} {out : List Int} (h : out.length < s) (h4 : ¬ q + 4 ≤ n) : gq n V s (f + 1) q out = none := by simp only [gq]; rw [if_pos h, if_neg h4]
theorem gq_pos {n V s f q : Nat} {out : List Int} (h : out.length < s) (h4 : q + 4 ≤ n) (hx : ¬ bt V q 4 = 0) : gq n V s (f + 1) q out = gq n V s f (q + 4) (out ++ [((bt V q 4 : Nat) : Int)]) := by simp only [gq]; rw [if_pos h, if_pos h4, if_neg hx]
theorem gq_7 {n V s f q : Nat} {out : List Int} (h : out.length < s) (h4 : q + 4 ≤ n) (hx : bt V q 4 = 0) (h7 : ¬ q + 7 ≤ n) : gq n V s (f + 1) q out = none := by simp only [gq]; rw [if_pos h, if_pos h4, if_pos hx, if_neg h7]
theorem gq_zero {n V s f q : Nat} {out : List Int} (h : out.length < s) (hx : bt V q 4 = 0) (h7 : q + 7 ≤ n) : gq n V s (f + 1) q out = gq n V s f (q + 7) (out ++ [0] ++ List.replicate (bt V (q + 4) 3) 0) := by simp only [gq]; rw [if_pos h, if_pos (by omega), if_pos hx, if_pos h7]
theorem gi_end {n V s f q : Nat} {out : List Int} {e : Bool} (h : ¬ out.length < s) : gi n V s f q out e = some (out, q) := by
  cases f with
  | zero => rfl
  | succ f => simp only [gi]; rw [if_neg h]
theorem gi_4 {n V s f q : Nat} {out : List Int} {e : Bool} (h : out.length < s) (h4 : ¬ q + 4 ≤ n) : gi n V s (f + 1) q out e = none := by simp only [gi]; rw [if_pos h, if_neg h4]
theorem gi_pos {n V s f q : Nat} {out : List Int} {e : Bool} (h : out.length < s) (h4 : q + 4 ≤ n) (hx : ¬ bt V q 4 = 0) : gi n V s (f + 1) q out e = gi n V s f (q + 4) (out ++ [((bt V q 4 : Nat) : Int)]) false := by simp only [gi]; rw [if_pos h, if_pos h4, if_neg hx]
theorem gi_7 {n V s f q : Nat} {out : List Int} {e : Bool} (h : out.length < s) (h4 : q + 4 ≤ n) (hx : bt V q 4 = 0) (h7 : ¬ q + 7 ≤ n) : gi n V s (f + 1) q out e = none := by simp only [gi]; rw [if_pos h, if_pos h4, if_pos hx, if_neg h7]
theorem gi_bad {n V s f q : Nat} {out : List Int} {e : Bool} (h : out.length < s) (hx : bt V q 4 = 0) (h7 : q + 7 ≤ n) (hb : e = true ∨ s < out.length + 1 + bt V (q + 4) 3) : gi n V s (f + 1) q out e = none := by simp only [gi]; rw [if_pos h, if_pos (by omega), if_pos hx, if_pos h7, if_pos hb]
theorem gi_zero {n V s f q : Nat} {out : List Int} {e : Bool} (h : out.length < s) (hx : bt V q 4 = 0) (h7 : q + 7 ≤ n) (hb : ¬ (e = true ∨ s < out.length + 1 + bt V (q + 4) 3)) : gi n V s (f + 1) q out e = gi n V s f (q + 7) (out ++ [0] ++ List.replicate (bt V (q + 4) 3) 0) (decide (bt V (q + 4) 3 < 7)) := by simp only [gi]; rw [if_pos h, if_pos (by omega), if_pos hx, if_pos h7, if_neg hb]
/-- How many elements a slice value has. -/
def lenS : Value → Nat
  | .slice _ n _ => n
  | _ => 0
theorem nou_rep (k : Nat) (t : List Int) : nou (List.replicate k 0 ++ t) = k + nou t := by
  induction k with
  | zero => simp
  | succ k ih => rw [List.replicate_succ, List.cons_append]; simp only [nou, if_true]; rw [ih]; omega
theorem run_app (out rest : List Int) (k : Nat) : run (out ++ [0] ++ List.replicate k 0 ++ rest) out.length = min (k + nou rest) 7 := by
  unfold run
  have e : (out ++ [0] ++ List.replicate k 0 ++ rest).drop (out.length + 1) = List.replicate k 0 ++ rest := by
    have h : out.length + 1 = (out ++ [(0 : Int)]).length := by simp
    rw [List.append_assoc, h, List.drop_left]
  rw [e, nou_rep]
theorem nou_head {t : List Int} (h : 0 < t.length → t.getD 0 0 ≠ 0) : nou t = 0 := by
  cases t with
  | nil => rfl
  | cons z t => simp only [nou]; rw [if_neg (by simpa using h (by simp))]
theorem getD_app0 (out rest : List Int) : (out ++ rest).getD out.length 0 = rest.getD 0 0 := by
  rw [List.getD_eq_getElem?_getD, List.getElem?_append_right (Nat.le_refl _), Nat.sub_self, List.getD_eq_getElem?_getD]

theorem gi_yes (n V s : Nat) (f : Nat) : ∀ (p : Nat) (out : List Int) (e : Bool) (res : List Int) (q : Nat), s ≤ f + out.length → out.length ≤ s → gi n V s f p out e = some (res, q) →
    (∃ rest, res = out ++ rest) ∧ res.length = s ∧ p ≤ q ∧ (e = true → out.length < s → res.getD out.length 0 ≠ 0) ∧ (∀ f' N U, s ≤ f' + out.length → lp res f' out.length N U = (N + (q - p), U + bt V p (q - p) * 2 ^ N)) ∧ gq n V s f p out = some (res, q) := by
  induction f with
  | zero =>
    intro p out e res q hf ho h
    simp only [gi, Option.some.injEq, Prod.mk.injEq] at h
    obtain ⟨rfl, rfl⟩ := h
    refine ⟨⟨[], by simp⟩, by omega, Nat.le_refl _, fun _ h => absurd h (by omega), fun f' N U _ => ?_, rfl⟩
    rw [lp_end _ _ _ _ _ (by omega), Nat.sub_self, bt_zero]
    simp
  | succ f ih =>
    intro p out e res q hf ho h
    simp only [gi] at h
    by_cases h1 : out.length < s
    · rw [if_pos h1] at h
      by_cases h2 : p + 4 ≤ n
      · rw [if_pos h2] at h
        by_cases h3 : bt V p 4 = 0
        · rw [if_pos h3] at h
          by_cases h4 : p + 7 ≤ n
          · rw [if_pos h4] at h
            have hk := bt_lt V (p + 4) 3
            generalize hke : bt V (p + 4) 3 = k at *
            by_cases h5 : e = true ∨ s < out.length + 1 + k
            · rw [if_pos h5] at h
              cases h
            · rw [if_neg h5] at h
              have hl : (out ++ [0] ++ List.replicate k 0).length = out.length + 1 + k := by simp; omega
              obtain ⟨⟨rest, hr⟩, r1, r2, r3, r4, r5⟩ := ih (p + 7) (out ++ [0] ++ List.replicate k 0) (decide (k < 7)) res q (by omega) (by omega) h
              have hrun : run res out.length = k := by
                rw [hr, run_app]
                by_cases h7 : k < 7
                · rw [nou_head (t := rest) (fun hp => ?_)]
                  · omega
                  · have h8 := r3 (by simpa using h7) (by rw [hr, List.length_append] at r1; omega)
                    rw [hr, getD_app0] at h8
                    exact h8
                · omega
              have hz : res.getD out.length 0 = 0 := by
                rw [hr, List.append_assoc, List.append_assoc, getD_app0]
                rfl
              refine ⟨⟨[0] ++ List.replicate k 0 ++ rest, by rw [hr]; simp⟩, r1, by omega, fun he => absurd (Or.inl he) h5, fun f' N U hf' => ?_, ?_⟩
              · obtain ⟨g, rfl⟩ : ∃ g, f' = g + 1 := ⟨f' - 1, by omega⟩
                rw [lp_zero _ _ _ _ _ (by omega) hz, hrun]
                rw [hl] at r4
                rw [r4 g (N + 7) _ (by omega), show q - p = 4 + (3 + (q - (p + 7))) by omega, bt_split, h3, bt_split, hke, show p + 4 + 3 = p + 7 from rfl]
                generalize bt V (p + 7) (q - (p + 7)) = u
                simp only [Prod.mk.injEq]
                refine ⟨by omega, ?_⟩
                rw [Nat.pow_add, Nat.pow_add]
                generalize 2 ^ N = P
                grind
              · simp only [gq]
                rw [if_pos h1, if_pos h2, if_pos h3, if_pos h4, hke]
                exact r5
          · rw [if_neg h4] at h
            cases h
        · rw [if_neg h3] at h
          have hl : (out ++ [((bt V p 4 : Nat) : Int)]).length = out.length + 1 := by simp
          obtain ⟨⟨rest, hr⟩, r1, r2, r3, r4, r5⟩ := ih (p + 4) (out ++ [((bt V p 4 : Nat) : Int)]) false res q (by omega) (by omega) h
          have hz : res.getD out.length 0 = ((bt V p 4 : Nat) : Int) := by
            rw [hr, List.append_assoc, getD_app0]
            rfl
          refine ⟨⟨((bt V p 4 : Nat) : Int) :: rest, by rw [hr]; simp⟩, r1, by omega, fun _ _ => by rw [hz]; omega, fun f' N U hf' => ?_, ?_⟩
          · obtain ⟨g, rfl⟩ : ∃ g, f' = g + 1 := ⟨f' - 1, by omega⟩
            rw [lp_pos _ _ _ _ _ (by omega) (by rw [hz]; omega), hz]
            rw [hl] at r4
            rw [r4 g (N + 4) _ (by omega), show q - p = 4 + (q - (p + 4)) by omega, bt_split, Int.toNat_natCast]
            generalize bt V (p + 4) (q - (p + 4)) = u
            generalize bt V p 4 = v
            simp only [Prod.mk.injEq]
            refine ⟨by omega, ?_⟩
            rw [Nat.pow_add]
            generalize 2 ^ N = P
            grind
          · simp only [gq]
            rw [if_pos h1, if_pos h2, if_neg h3]
            exact r5
      · rw [if_neg h2] at h
        cases h
    · rw [if_neg h1] at h
      simp only [Option.some.injEq, Prod.mk.injEq] at h
      obtain ⟨rfl, rfl⟩ := h
      refine ⟨⟨[], by simp⟩, by omega, Nat.le_refl _, fun _ h => absurd h (by omega), fun f' N U _ => ?_, ?_⟩
      · rw [lp_end _ _ _ _ _ (by omega), Nat.sub_self, bt_zero]
        simp
      · simp only [gq]
        rw [if_neg h1]

theorem gq_ext (n V s : Nat) (f : Nat) : ∀ (p : Nat) (out res : List Int) (q : Nat), gq n V s f p out = some (res, q) → (∃ rest, res = out ++ rest) ∧ p ≤ q ∧ (p ≤ n → q ≤ n) := by
  induction f with
  | zero =>
    intro p out res q h
    simp only [gq, Option.some.injEq, Prod.mk.injEq] at h
    obtain ⟨rfl, rfl⟩ := h
    exact ⟨⟨[], by simp⟩, Nat.le_refl _, id⟩
  | succ f ih =>
    intro p out res q h
    simp only [gq] at h
    split at h
    · split at h
      · split at h
        · split at h
          · obtain ⟨⟨rest, hr⟩, h2, h3⟩ := ih _ _ _ _ h
            exact ⟨⟨[0] ++ List.replicate (bt V (p + 4) 3) 0 ++ rest, by rw [hr]; simp⟩, by omega, fun _ => h3 (by omega)⟩
          · cases h
        · obtain ⟨⟨rest, hr⟩, h2, h3⟩ := ih _ _ _ _ h
          exact ⟨⟨((bt V p 4 : Nat) : Int) :: rest, by rw [hr]; simp⟩, by omega, fun _ => h3 (by omega)⟩
      · cases h
    · simp only [Option.some.injEq, Prod.mk.injEq] at h
      obtain ⟨rfl, rfl⟩ := h
      exact ⟨⟨[], by simp⟩, Nat.le_refl _, id⟩

theorem gq_yes (n V s : Nat) (f : Nat) : ∀ (p : Nat) (out : List Int) (e : Bool) (res : List Int) (q f' : Nat), s ≤ f + out.length → s ≤ f' + out.length → gq n V s f p out = some (res, q) → res.length = s → lp res f' out.length 0 0 = (q - p, bt V p (q - p)) →
    (e = true → out.length < s → res.getD out.length 0 ≠ 0) → gi n V s f p out e = some (res, q) := by
  induction f with
  | zero =>
    intro p out e res q f' hf hf' h hl hlp he
    simpa [gq, gi] using h
  | succ f ih =>
    intro p out e res q f' hf hf' h hl hlp he
    simp only [gq] at h
    simp only [gi]
    by_cases h1 : out.length < s
    · rw [if_pos h1] at h ⊢
      obtain ⟨g, rfl⟩ : ∃ g, f' = g + 1 := ⟨f' - 1, by omega⟩
      by_cases h2 : p + 4 ≤ n
      · rw [if_pos h2] at h ⊢
        by_cases h3 : bt V p 4 = 0
        · rw [if_pos h3] at h ⊢
          by_cases h4 : p + 7 ≤ n
          · rw [if_pos h4] at h ⊢
            have hk := bt_lt V (p + 4) 3
            generalize hke : bt V (p + 4) 3 = k at *
            have hl2 : (out ++ [0] ++ List.replicate k 0).length = out.length + 1 + k := by simp; omega
            obtain ⟨⟨rest, hr⟩, hq, -⟩ := gq_ext n V s f _ _ _ _ h
            have hz : res.getD out.length 0 = 0 := by
              rw [hr, List.append_assoc, List.append_assoc, getD_app0]
              rfl
            rw [lp_zero _ _ _ _ _ (by omega) hz, lp_shift, show q - p = 4 + (3 + (q - (p + 7))) by omega, bt_split, h3, bt_split, hke, show p + 4 + 3 = p + 7 from rfl] at hlp
            have hrl := run_le res out.length (by omega)
            have hk2 : run res out.length = k ∧ lp res g (out.length + 1 + run res out.length) 0 0 = (q - (p + 7), bt V (p + 7) (q - (p + 7))) := by
              generalize run res out.length = r at *
              generalize bt V (p + 7) (q - (p + 7)) = u at *
              generalize lp res g (out.length + 1 + r) 0 0 = x at *
              simp only [Prod.mk.injEq] at hlp
              obtain ⟨e1, e2⟩ := hlp
              obtain ⟨x1, x2⟩ := x
              simp only at e1 e2
              exact ⟨by omega, by simp only [Prod.mk.injEq]; omega⟩
            obtain ⟨hrk, hlp2⟩ := hk2
            rw [hrk] at hlp2 hrl
            rw [if_neg (by
              rintro (h9 | h9)
              · exact he h9 h1 hz
              · omega)]
            refine ih (p + 7) _ _ res q g (by omega) (by omega) h hl (by rw [hl2]; exact hlp2) ?_
            intro h7 h8
            rw [hl2] at h8 ⊢
            have h9 := run_out res out.length (by omega) (by rw [hrk]; simpa using h7) (by rw [hrk]; omega)
            rw [hrk, show out.length + k + 1 = out.length + 1 + k by omega] at h9
            exact h9
          · rw [if_neg h4] at h
            cases h
        · rw [if_neg h3] at h ⊢
          have hl2 : (out ++ [((bt V p 4 : Nat) : Int)]).length = out.length + 1 := by simp
          obtain ⟨⟨rest, hr⟩, hq, -⟩ := gq_ext n V s f _ _ _ _ h
          have hz : res.getD out.length 0 = ((bt V p 4 : Nat) : Int) := by
            rw [hr, List.append_assoc, getD_app0]
            rfl
          have hv := bt_lt V p 4
          rw [lp_pos _ _ _ _ _ (by omega) (by rw [hz]; omega), hz, lp_shift, show q - p = 4 + (q - (p + 4)) by omega, bt_split, Int.toNat_natCast] at hlp
          have hlp2 : lp res g (out.length + 1) 0 0 = (q - (p + 4), bt V (p + 4) (q - (p + 4))) := by
            generalize bt V (p + 4) (q - (p + 4)) = u at *
            generalize bt V p 4 = v at *
            generalize lp res g (out.length + 1) 0 0 = x at *
            simp only [Prod.mk.injEq] at hlp
            obtain ⟨e1, e2⟩ := hlp
            obtain ⟨x1, x2⟩ := x
            simp only at e1 e2
            simp only [Prod.mk.injEq]
            omega
          exact ih (p + 4) _ false res q g (by omega) (by omega) h hl (by rw [hl2]; exact hlp2) (by simp)
      · rw [if_neg h2] at h
        cases h
    · rw [if_neg h1] at h ⊢
      exact h
/-- The program reads just what the model reads, fills, and writes as it was. -/
theorem gi_iff (n V s p : Nat) (res : List Int) (q : Nat) : gi n V s s p [] false = some (res, q) ↔ gq n V s s p [] = some (res, q) ∧ res.length = s ∧ lpF res = (q - p, bt V p (q - p)) := by
  constructor
  · intro h
    obtain ⟨-, r1, r2, -, r4, r5⟩ := gi_yes n V s s p [] false res q (by simp) (by simp) h
    refine ⟨r5, r1, ?_⟩
    have := r4 s 0 0 (by simp)
    unfold lpF
    rw [r1]
    simpa using this
  · rintro ⟨h1, h2, h3⟩
    refine gq_yes n V s s p [] false res q s (by simp) (by simp) h1 h2 ?_ (by simp)
    unfold lpF at h3
    rw [h2] at h3
    exact h3
end Go.Proofs.YtkolfmjlkfkleaaDoor
namespace Go.Proofs.YtkolfmjlkfkleaaDoor
open Go.RowKit
set_option linter.unusedVariables false
set_option linter.unusedSimpArgs false

theorem zeros_list (m : Nat) : Builtin.zeroCells (Value.int .i64 0).cells m = ((List.replicate m (0 : Int)).map (Value.int .i64)).toArray := by
  apply Array.ext'
  simp only [Builtin.zeroCells, Value.cells, Array.toList_map, Array.toList_range, List.map_replicate]
  rw [List.eq_replicate_iff]
  refine ⟨by simp, fun b hb => ?_⟩
  simp only [List.mem_map] at hb
  obtain ⟨i, _, rfl⟩ := hb
  simp [Nat.mod_one]
theorem run_append_zer {P : Program} (w : World) (base : Nat) (t tn ty e : TypeId) (i : TypeInfo) (k kn : IntKind) (ht : P.underlying t = some (.slice e)) (htn : P.underlying tn = some (.int kn)) (hi : P.info? e = some i) (hz : i.zero = some (.int .i64 0))
    (hsize : i.size = 1) (hby : i.bytes ≤ 8) (v : Value) (n : Nat) (hn : 0 < n) (xs : List Value) (hown : w.ownsRow base e 1 v n xs) (m : Nat) (hnm : n + m ≤ 1000000) (hbase : base ≤ w.heap.size) :
    ∃ v' w', (Builtin.append_ #[t, tn] ty #[v, .int k m]).run P w = .ok v' w' ∧ w'.ownsRow base e 1 v' (n + m) (xs ++ (List.replicate m (0 : Int)).map (Value.int .i64)) ∧ w.grownBy w' v.ownBlock := by
  have hl : ((List.replicate m (0 : Int)).map (Value.int .i64)).length = m := by simp
  have hZ := zeros_list m
  have h1 : ∀ u ∈ (List.replicate m (0 : Int)).map (Value.int .i64), u.oneCell' = true := by
    intro u hu
    simp only [List.mem_map] at hu
    obtain ⟨z, _, rfl⟩ := hu
    rfl
  generalize (List.replicate m (0 : Int)).map (Value.int .i64) = news at *
  have hlen : (xs ++ news).length = n + m := by rw [List.length_append, hown.1, hl]; omega
  have hw : IntKind.i64.wrap (m : Int) = m := by rw [IntKind.wrap_i64]; omega
  have hneg : ¬ ((m : Int) < 0) := by omega
  have hmb : m * i.bytes ≤ m * 8 := Nat.mul_le_mul_left _ hby
  have h48i : ¬ (281474976710656 < (m : Int) * (i.bytes : Int)) := by
    rw [← Int.natCast_mul]
    omega
  rcases hown.2 with ⟨rfl, rfl⟩ | ⟨g, cap, cur, rfl, hbg, hg, hnc, hcm, hcs, htake⟩
  · omega
  · by_cases hroom : n + m ≤ cap
    · have hst := run_storeCells_at P g n e news 0 cur w hg (by simp [hl]; omega) h1
      simp only [Nat.add_zero] at hst
      have hr : (Builtin.append_ #[t, tn] ty #[.slice (some ⟨g, 0, none⟩) n cap, .int k m]).run P w = .ok (.slice (some ⟨g, 0, none⟩) (n + m) cap) (w.setRow g (cur.toList.take n ++ news ++ cur.toList.drop (n + news.length)).toArray) := by
        by_cases hm0 : m = 0
        · subst hm0
          have hn0 : news = [] := List.eq_nil_of_length_eq_zero hl
          subst hn0
          have hw0 : IntKind.i64.wrap 0 = 0 := by decide
          simp [Addr.add_lit] at hst
          simp [Builtin.append_, run_underlying ht, run_underlying htn, sizeOf, typeInfo, zeroValue, hi, hz, hsize, asInt, asIntOf, hw0, Addr.add_lit, hnc, hst]
        · simp [Builtin.append_, run_underlying ht, run_underlying htn, sizeOf, typeInfo, zeroValue, hi, hz, hsize, asInt, asIntOf, hw, hneg, h48i, hroom, hm0, hZ, Addr.add_lit, hst]
      refine ⟨_, _, hr, ⟨by rw [hlen, Nat.mul_one], .inr ⟨g, cap, _, rfl, hbg, setRow_heap w g cur _ e _ hg, hroom, hcm, ?_, ?_⟩⟩, ⟨rfl, rfl, rfl, by simp, fun k _ hk => setRow_other w g k _ (fun e => hk (by simp [Value.ownBlock, e]))⟩⟩
      · simp only [List.size_toArray, List.length_append, List.length_take, List.length_drop, Array.length_toList]
        omega
      · rw [Nat.mul_one] at htake ⊢
        rw [htake, ← hlen]
        exact List.take_left
    · have holds : ∀ j u, xs[j]? = some u → w.cell? ((⟨g, 0, none⟩ : Addr).add j) = some u := hown.cells (g := g) rfl
      have hm0 : ¬ m = 0 := by omega
      have h63' : ¬ (9223372036854775807 < ((n : Int) + (m : Int))) := by omega
      have hfit := growslice_fits (need := n + m) (old := cap) (bytes := i.bytes) (by omega) (by have := Nat.mul_le_mul_left (n + m) hby; omega)
      have h48' : ¬ (281474976710656 < Builtin.nextslicecap (n + m) cap * i.bytes) := by omega
      have hfo := run_firstCells_some (P := P) w.drew 1 n ⟨g, 0, none⟩ n cap xs hown.1 (by simpa using holds)
      have hr : (Builtin.append_ #[t, tn] ty #[.slice (some ⟨g, 0, none⟩) n cap, .int k m]).run P w = .ok (.slice (some ⟨w.heap.size, 0, none⟩) (n + m) (grownCap w (n + m) cap e))
          (w.drew.alloc (.cells (xs.toArray ++ news.toArray ++ Builtin.zeroCells (Value.int .i64 0).cells (grownCap w (n + m) cap e - (n + m))) e)) := by
        simp [Builtin.append_, run_underlying ht, run_underlying htn, sizeOf, typeInfo, zeroValue, hi, hz, hsize, asInt, asIntOf, hw, hneg, h48i, hroom, hm0, hZ, h63', h48', Question.forced, hfo, newRow, grownCap]
        congr 2
        apply Array.ext'
        simp [List.append_assoc]
      have hge := grownCap_ge w (n + m) cap e
      have hcm2 : grownCap w (n + m) cap e ≤ maxLen := grownCap_le_maxLen w (n + m) cap e (by unfold maxLen; omega)
      refine ⟨_, _, hr, ⟨by rw [hlen, Nat.mul_one], .inr ⟨w.heap.size, _, _, rfl, hbase, heap_alloc_new w.drew _, hge, hcm2, ?_, ?_⟩⟩, ⟨rfl, rfl, rfl, by simp, fun j hj _ => heap_alloc_old w.drew _ hj⟩⟩
      · have hx := hown.1
        simp only [Array.size_append, List.size_toArray, size_zeroCells, hl, Value.cells]
        simp
        omega
      · rw [Nat.mul_one]
        simp only [Array.toList_append, List.append_assoc]
        rw [← List.append_assoc, ← hlen]
        exact List.take_left

theorem OVI.appZ {w w' : World} {B : Nat} {v v' : Value} {zs : List Int} {n m : Nat} (h : OVI w B v zs) (hn : zs.length = n) (h2 : w'.ownsRow B 3 1 v' (n + m) (zs.map (Value.int .i64) ++ (List.replicate m (0 : Int)).map (Value.int .i64))) : OVI w' B v' (zs ++ List.replicate m 0) := by
  refine ⟨?_, ?_⟩
  · rw [List.length_append, List.length_replicate, hn, List.map_append]
    exact h2
  · intro z hz
    rcases List.mem_append.1 hz with hz | hz
    · exact h.2 z hz
    · have := List.eq_of_mem_replicate hz
      omega
theorem wpList_append_zer {ops : Array Oper} {rest : List Oper} {o : Oper} {a : Act} {Q : Exit → Act → World → Prop} {w : World} (hgd : o.guard = none) (s x : Operand)
    (ho : o.op = .call { callee := .builtin .append, args := #[s, x], argTypes := #[22, 3] })
    (B : Nat) (v : Value) (zs : List Int) (hs : a.eval s = v) (hown : OVI w B v zs) (m : Nat) (hx : a.eval x = .int .i64 (m : Nat)) (hp : 0 < zs.length) (hb1 : zs.length + m ≤ 1000000) (hbase : B ≤ w.heap.size)
    (h : ∀ v' w', OVI w' B v' (zs ++ List.replicate m 0) → w.grownBy w' v.ownBlock → wpList Tryd.prog ops Q rest (a.put o.dst v') w') : wpList Tryd.prog ops Q (o :: rest) a w := by
  obtain ⟨i0, hi, hz0, hz1, hz2⟩ := info_parts Tryd.infoI64
  obtain ⟨v', w', hr, h2, h3⟩ := run_append_zer (P := Tryd.prog) w B 22 3 o.type 3 i0 .i64 .i64 Tryd.underlying22 Tryd.underlying3 hi hz0 hz1 (by rw [hz2]; omega) v zs.length hp _ hown.1 m hb1 hbase
  refine wpList_plain hgd fun K hK' => ?_
  unfold Oper.wp execOp
  simp only [ho, resolve, invoke, builtin, Sem.run_bind, Sem.run_pure, Result.andThen_ok, List.map_toArray, List.map_cons, List.map_nil, hs, hx, hr]
  exact hK' _ _ (h v' w' (hown.appZ rfl h2) h3)
theorem appI_below {w0 wr w1 : World} {B : Nat} {v : Value} {zs : List Int} (hbel : Below B w0 wr) (hB : B ≤ wr.heap.size) (h : OVI wr B v zs) (hg : wr.grownBy w1 v.ownBlock) : Below B w0 w1 :=
  hbel.grown hg hB (fun k hk => h.blk hk)
theorem OVI.blk_ne {w : World} {B : Nat} {v : Value} {zs : List Int} (h : OVI w B v zs) {Q : Nat} {cur : Array Value} {T : TypeId} (hQ : w.heap[Q]? = some (.cells cur T (0, 0))) (hT : T ≠ 3) : some Q ≠ v.ownBlock := by
  rcases h.1.2 with ⟨rfl, h0⟩ | ⟨g, cap, cur', rfl, hg, hh, _⟩
  · simp [Value.ownBlock]
  · simp only [Value.ownBlock, ne_eq, Option.some.injEq]
    rintro rfl
    rw [hQ] at hh
    simp at hh
    exact hT hh.2
theorem grown_blkI {w w' : World} {row : Option Nat} (hg : w.grownBy w' row) {Q : Nat} {o : Obj} (hQ : w.heap[Q]? = some o) (hne : some Q ≠ row) : w'.heap[Q]? = some o := (hg.block Q (Array.getElem?_eq_some_iff.1 hQ).1 hne).trans hQ
theorem OVI.ins {w : World} {B : Nat} {a : Option Addr} {n c : Nat} {zs : List Int} (h : OVI w B (.slice a n c) zs) : Ins w a zs := by
  obtain ⟨a', c', e, hm⟩ := h.mine
  obtain ⟨rfl, -, -⟩ : a = a' ∧ n = zs.length ∧ c = c' := by simpa using e
  exact hm.byt
theorem OVI.below {w w' : World} {B : Nat} {v : Value} {zs : List Int} (h : OVI w B v zs) (hb : Below w.heap.size w w') : OVI w' B v zs := h.only (Only.ofBelow (S := fun _ => False) hb (Nat.le_refl _)) (by simp)
end Go.Proofs.YtkolfmjlkfkleaaDoor
