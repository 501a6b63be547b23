/-
  What is read behind a write, a barrier and a crash: the numbers alone.
-/
import Derived.Test.YtpedfcknmeeknaaSeW
import Derived.Test.YtpedfcknmeeknaaRdW
namespace Go.Proofs.Ytpedfcknmeeknaa
open Go.RowKit
set_option linter.unusedVariables false
set_option linter.unusedSimpArgs false

theorem lastU_app (fs gs : List El) (x : Int) (k : Nat) (hk : k ≤ fs.length) : lastU (fs ++ gs) x k = lastU fs x k := by
  induction k with
  | zero => rfl
  | succ k ih =>
    have h1 : (fs ++ gs).getD k de = fs.getD k de := by rw [List.getD_eq_getElem?_getD, List.getD_eq_getElem?_getD, List.getElem?_append_left (by omega)]
    simp only [lastU, h1, ih (by omega)]
theorem lastU_snoc (fs : List El) (e : El) (x : Int) : lastU (fs ++ [e]) x (fs ++ [e]).length = if e.n = x then some e else lastU fs x fs.length := by
  have h1 : (fs ++ [e]).getD fs.length de = e := by rw [List.getD_eq_getElem?_getD, List.getElem?_append_right (Nat.le_refl _), Nat.sub_self]; rfl
  rw [List.length_append, List.length_singleton]
  simp only [lastU, h1, lastU_app fs [e] x fs.length (Nat.le_refl _)]
theorem set_getD_neM (l : List El) (i s : Nat) (x : El) (h : ¬ i = s) : (l.set i x).getD s de = l.getD s de := by rw [List.getD_eq_getElem?_getD, List.getD_eq_getElem?_getD, List.getElem?_set_ne h]
theorem set_getD_selfM (l : List El) (i : Nat) (x : El) (h : i < l.length) : (l.set i x).getD i de = x := by rw [List.getD_eq_getElem?_getD, List.getElem?_set_self h]; rfl
/-- Where all are kept, each sector has what was read there. -/
theorem setl_read {ss ps : List El} {f : Nat → Bool} (k : Nat) (hk : k ≤ ps.length) (hf : ∀ j, j < k → f j = true) (hn : ∀ j, j < ps.length → 0 ≤ (ps.getD j de).n) (s : Nat) (hs : s < ss.length) :
    ((setl ss ps f k).getD s de).ls = ((lastU ps (s : Int) k).getD (ss.getD s de)).ls := by
  induction k with
  | zero => rfl
  | succ k ih =>
    have h0 := hn k (by omega)
    simp only [setl, hf k (by omega), if_true, lastU]
    by_cases he : (ps.getD k de).n = (s : Int)
    · rw [if_pos he, he, Int.toNat_natCast, set_getD_selfM _ _ _ (by rw [setl_len]; exact hs)]
      rfl
    · rw [if_neg he, set_getD_neM _ _ _ _ (by omega)]
      exact ih (by omega) (fun j hj => hf j (by omega))
theorem setl_none {ss ps : List El} {f : Nat → Bool} (k : Nat) (hf : ∀ j, j < k → f j = false) : setl ss ps f k = ss := by
  induction k with
  | zero => rfl
  | succ k ih =>
    simp only [setl, hf k (by omega)]
    exact ih (fun j hj => hf j (by omega))
/-- The last one is kept: its sector has it. -/
theorem setl_last {ss ps : List El} {f : Nat → Bool} (m : Nat) (hf : f m = true) (s : Nat) (hs : s < ss.length) (hn : (ps.getD m de).n = (s : Int)) : ((setl ss ps f (m + 1)).getD s de).ls = (ps.getD m de).ls := by
  simp only [setl, hf, if_true]
  rw [hn, Int.toNat_natCast, set_getD_selfM _ _ _ (by rw [setl_len]; exact hs)]
/-- A device without what waits reads as its sectors lie. -/
theorem rdE_nil (ys : List El) (s : Nat) : rdE ys [] (s : Int) = ys.getD s de := by
  unfold rdE
  simp [lastU]
/-- What is read where something was written, and elsewhere. -/
theorem rdE_write (es fs : List El) (e : El) (s : Nat) : rdE es (fs ++ [e]) (s : Int) = if e.n = (s : Int) then e else rdE es fs (s : Int) := by
  unfold rdE
  rw [lastU_snoc]
  split <;> rfl
/-- Behind a barrier each sector reads as before. -/
theorem rdE_barrier {ss ps ys : List El} (hr : Rok ss ps) (hc : ys.map El.ct = (setl ss ps (kep true []) ps.length).map El.ct) (s : Nat) (hs : s < ss.length) : (rdE ys [] (s : Int)).ls = (rdE ss ps (s : Int)).ls := by
  have h1 := ctE_get hc s
  simp only [El.ct, Prod.mk.injEq] at h1
  rw [rdE_nil, h1.2, setl_read (f := kep true []) ps.length (Nat.le_refl _) (fun j _ => rfl) (fun j hj => (hr.2.2.2.2 j hj).1) s hs]
  unfold rdE
  rw [Int.toNat_natCast]
end Go.Proofs.Ytpedfcknmeeknaa
