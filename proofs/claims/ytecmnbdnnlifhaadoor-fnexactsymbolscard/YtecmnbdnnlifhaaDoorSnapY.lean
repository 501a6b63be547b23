/-
  What the law on Symbols carries along.
-/
import Derived.Test.YtecmnbdnnlifhaaDoorIMarks
import Derived.Test.YtecmnbdnnlifhaaDoorISnap
import Derived.Test.YtecmnbdnnlifhaaDoorSqM
import Derived.Test.YtecmnbdnnlifhaaDoorSy5
namespace Go.Proofs.YtecmnbdnnlifhaaDoor
open Go.RowKit
set_option linter.unusedVariables false
set_option linter.unusedSimpArgs false

/-- What a sequence says, put behind. -/
def putC (st : SyT) (c : List Int × Int × Int) : SyT := if c.2.1 = 0 then putLs c.1 st else putN 28 c.2.2.toNat (putN 16 (c.2.1.toNat - 2) (putLs c.1 st))
theorem syOf_cs (ss : List Sq) : syOf ss = (ss.map Sq.ct).foldl putC ([], 0, 0) := by
  unfold syOf
  rw [List.foldl_map]
  rfl
theorem syOf_ct {ss ts : List Sq} (h : ts.map Sq.ct = ss.map Sq.ct) : syOf ts = syOf ss := by rw [syOf_cs, syOf_cs, h]
theorem lenY {ss ts : List Sq} (hc : ts.map Sq.ct = ss.map Sq.ct) : ts.length = ss.length := by simpa using congrArg List.length hc
theorem lits_allY {ss ts : List Sq} (hct : ts.map Sq.ct = ss.map Sq.ct) (h : ∀ s ∈ ss, s.ls.length ≤ 1048576) : ∀ s ∈ ts, s.ls.length ≤ 1048576 := fun s hs => by
  have h1 : s.ct ∈ ts.map Sq.ct := List.mem_map_of_mem hs
  rw [hct] at h1
  obtain ⟨x, hx, he⟩ := List.mem_map.1 h1
  have := h x hx
  simp only [Sq.ct, Prod.mk.injEq] at he
  rw [he.1] at this
  exact this
theorem OwS.insideY {w : World} {B g cap : Nat} {ss : List Sq} (h : OwS w B g cap ss) : ∀ b, (b = g ∨ ∃ s ∈ ss, rowOf s.a b) → B ≤ b ∧ b < w.heap.size := by
  rintro b (rfl | ⟨s, hs, hr⟩)
  · exact h.lt
  · exact (h.mine s hs).rowB hr
theorem apartIB {W : World} {B B' U U' : Nat} {a b : Option Addr} {c d : Nat} {ts zs : List Int} (h1 : MinI W B U a c ts) (h2 : Mine W B' U' b d zs) (k : Nat) (hk : rowOf a k) : ¬ rowOf b k := by
  rintro ⟨y, hy, hyk⟩
  obtain ⟨x, hx, hxk⟩ := hk
  rcases h1 with ⟨h', _⟩ | ⟨g, h', _, _, ho⟩
  · rw [h'] at hx; cases hx
  · rcases h2 with ⟨h3, _⟩ | ⟨g2, h3, _, _, ho2⟩
    · rw [h3] at hy; cases hy
    · rw [h'] at hx
      rw [h3] at hy
      simp at hx hy
      rw [← hx] at hxk
      rw [← hy] at hyk
      simp at hxk hyk
      rcases ho.1.2 with ⟨e, _⟩ | ⟨q, cap1, cur1, e, _, hh, _⟩
      · simp at e
      · have e' : g = q := by simp at e; exact e.1
        rcases ho2.1.2 with ⟨e2, _⟩ | ⟨q2, cap2, cur2, e2, _, hh2, _⟩
        · simp at e2
        · have e2' : g2 = q2 := by simp at e2; exact e2.1
          rw [← e', hxk] at hh
          rw [← e2', hyk] at hh2
          rw [hh] at hh2
          simp at hh2
structure SnapY (w W : World) (U Y X Z : Nat) (aw bw : Option Addr) (cw dw : Nat) (ts zs : List Int) (N : Int) (ag bg : Option Addr) (cg dg : Nat) (gs hs : List Int) : Prop where
  bel : Below w.heap.size w W
  o1 : w.heap.size ≤ U
  o2 : U ≤ Y
  o3 : Y < X
  o4 : X ≤ Z
  o5 : Z < W.heap.size
  wi : MinI W w.heap.size U aw cw ts
  wb : Mine W w.heap.size U bw dw zs
  y0 : W.cell? ⟨Y, 0, none⟩ = some (.slice bw zs.length dw)
  y1 : W.cell? ⟨Y, 1, none⟩ = some (.int .i64 N)
  gi : MinI W X Z ag cg gs
  gb : Mine W X Z bg dg hs
  z0 : W.cell? ⟨Z, 0, none⟩ = some (.slice bg hs.length dg)
  z1 : W.cell? ⟨Z, 1, none⟩ = some (.int .i64 N)
section
variable {w W W' : World} {U Y X Z : Nat} {aw bw : Option Addr} {cw dw : Nat} {ts zs : List Int} {N : Int} {ag bg : Option Addr} {cg dg : Nat} {gs hs : List Int}
theorem SnapY.only {S : Nat → Prop} (h : SnapY w W U Y X Z aw bw cw dw ts zs N ag bg cg dg gs hs) (ho : Only S W W') (hS : ∀ k, S k → (Y < k ∧ k < X) ∨ W.heap.size ≤ k) : SnapY w W' U Y X Z aw bw cw dw ts zs N ag bg cg dg gs hs := by
  have h1 := h.o1; have h2 := h.o2; have h3 := h.o3; have h4 := h.o4; have h5 := h.o5; have hs' := ho.size
  have hn : ∀ k, ¬ (Y < k ∧ k < X) → k < W.heap.size → ¬ S k := fun k hk hl hr => by rcases hS k hr with h | h <;> omega
  exact ⟨h.bel.trans (ho.below (by omega) (fun k hk => by rcases hS k hk with h | h <;> omega)), h1, h2, h3, h4, by omega, h.wi.only ho (fun k _ _ => hn k (by omega) (by omega)), h.wb.only ho (fun k _ _ => hn k (by omega) (by omega)), ho.cell (by omega) (hn _ (by omega) (by omega)) h.y0, ho.cell (by omega) (hn _ (by omega) (by omega)) h.y1, h.gi.only ho (fun k _ _ => hn k (by omega) (by omega)), h.gb.only ho (fun k _ _ => hn k (by omega) (by omega)), ho.cell (by omega) (hn _ (by omega) (by omega)) h.z0, ho.cell (by omega) (hn _ (by omega) (by omega)) h.z1⟩
theorem SnapY.step (h : SnapY w W U Y X Z aw bw cw dw ts zs N ag bg cg dg gs hs) (hb : Below W.heap.size W W') : SnapY w W' U Y X Z aw bw cw dw ts zs N ag bg cg dg gs hs := h.only (Only.ofBelow (S := fun _ => False) hb (Nat.le_refl _)) (by simp)
theorem SnapY.markI (h : SnapY w W U Y X Z aw bw cw dw ts zs N ag bg cg dg gs hs) (ho : Only (rowOf ag) W W') {gs' : List Int} (hm : MinI W' X Z ag cg gs') : SnapY w W' U Y X Z aw bw cw dw ts zs N ag bg cg dg gs' hs := by
  have h1 := h.o1; have h2 := h.o2; have h3 := h.o3; have h4 := h.o4; have h5 := h.o5; have hs' := ho.size
  have hin : ∀ k, rowOf ag k → X ≤ k ∧ k < Z := fun k hk => h.gi.row hk
  have hn : ∀ k, ¬ (X ≤ k ∧ k < Z) → ¬ rowOf ag k := fun k hk hr => hk (hin k hr)
  have hgb : Mine W' X Z bg dg hs := by
    rcases h.gb with hb | ⟨g, hg, g1, g2, hg3⟩
    · exact .inl hb
    · refine .inr ⟨g, hg, g1, g2, hg3.only ho (fun hr => apartIB h.gi h.gb g hr ⟨_, hg, rfl⟩)⟩
  exact ⟨h.bel.trans (ho.below (by omega) (fun k hk => by have := hin k hk; omega)), h1, h2, h3, h4, by omega, h.wi.only ho (fun k _ _ => hn k (by omega)), h.wb.only ho (fun k _ _ => hn k (by omega)), ho.cell (by omega) (hn _ (by omega)) h.y0, ho.cell (by omega) (hn _ (by omega)) h.y1, hm, hgb, ho.cell (by omega) (hn _ (by omega)) h.z0, ho.cell (by omega) (hn _ (by omega)) h.z1⟩
theorem SnapY.markB (h : SnapY w W U Y X Z aw bw cw dw ts zs N ag bg cg dg gs hs) (ho : Only (rowOf bg) W W') {hs' : List Int} (hl : hs'.length = hs.length) (hm : Mine W' X Z bg dg hs') : SnapY w W' U Y X Z aw bw cw dw ts zs N ag bg cg dg gs hs' := by
  have h1 := h.o1; have h2 := h.o2; have h3 := h.o3; have h4 := h.o4; have h5 := h.o5; have hsz := ho.size
  have hin : ∀ k, rowOf bg k → X ≤ k ∧ k < Z := fun k hk => h.gb.rowB hk
  have hn : ∀ k, ¬ (X ≤ k ∧ k < Z) → ¬ rowOf bg k := fun k hk hr => hk (hin k hr)
  have hgi : MinI W' X Z ag cg gs := by
    rcases h.gi with hb | ⟨g, hg, g1, g2, hg3⟩
    · exact .inl hb
    · refine .inr ⟨g, hg, g1, g2, hg3.only ho (fun hr => apartIB h.gi h.gb g ⟨_, hg, rfl⟩ hr)⟩
  exact ⟨h.bel.trans (ho.below (by omega) (fun k hk => by have := hin k hk; omega)), h1, h2, h3, h4, by omega, h.wi.only ho (fun k _ _ => hn k (by omega)), h.wb.only ho (fun k _ _ => hn k (by omega)), ho.cell (by omega) (hn _ (by omega)) h.y0, ho.cell (by omega) (hn _ (by omega)) h.y1, hgi, hm, by rw [hl]; exact ho.cell (by omega) (hn _ (by omega)) h.z0, ho.cell (by omega) (hn _ (by omega)) h.z1⟩
end
theorem below_dY (w : World) (n : Nat) : Below w.heap.size w (w.drewN n) := ⟨rfl, rfl, rfl, Nat.le_refl _, fun _ _ => rfl⟩
/-- What both answer, at sequences that say the same. -/
theorem symbols_both (ss : List Sq) (hx : ss.length ≤ 1048576) (hxl : ∀ s ∈ ss, s.ls.length ≤ 1048576) : ∃ (T zs : List Int) (N : Int) (ok : Bool), (T.length ≤ 1000 ∧ zs.length ≤ 1000) ∧
    (∀ (a : Option Addr) (cap : Nat) (rs : List Sq) (W : World), Sqs W a rs → rs.map Sq.ct = ss.map Sq.ct → Calls Tryd.prog 6 #[.slice a ss.length cap] W fun e W' => ∃ sa sc va vc, e = .returned (.tuple #[.slice sa T.length sc, .agg #[.slice va zs.length vc, .int .i64 N], .bool ok]) ∧ AnsY W W' sa sc va vc T zs) ∧
    (∀ (a : Option Addr) (cap : Nat) (rs : List Sq) (W : World), Sqs W a rs → rs.map Sq.ct = ss.map Sq.ct → Calls Tryd.prog 8 #[.slice a ss.length cap] W fun e W' => ∃ sa sc va vc, e = .returned (.tuple #[.slice sa T.length sc, .agg #[.slice va zs.length vc, .int .i64 N], .bool ok]) ∧ AnsY W W' sa sc va vc T zs) := by
  cases hs : (sqn ss).isSome with
  | true =>
    refine ⟨(syOf ss).1, enc (syOf ss).2.1 (syOf ss).2.2, ((syOf ss).2.1 : Nat), true, ?_, ?_, ?_⟩
    · have hq := SyOk.of hs
      have h1 := syOf_len hq.nums ss.length (Nat.le_refl _)
      rw [List.take_length] at h1
      have h2 := hq.lets
      have h3 := hq.few
      rw [enc_len]
      omega
    · intro a cap rs W hq hc
      have h1 := specSymbols_any a cap rs W hq (by rw [lenY hc]; exact hx) (lits_allY hc hxl)
      rw [lenY hc] at h1
      refine h1.mono ?_
      rintro e W' ⟨hy, _⟩
      obtain ⟨sa, sc, va, vc, he, hA⟩ := hy (by rw [sqn_ct hc]; exact hs)
      rw [syOf_ct hc] at he hA
      exact ⟨sa, sc, va, vc, he, hA⟩
    · intro a cap rs W hq hc
      have h1 := implSymbols_any a cap rs W hq (by rw [lenY hc]; exact hx) (lits_allY hc hxl)
      rw [lenY hc] at h1
      refine h1.mono ?_
      rintro e W' ⟨hy, _⟩
      obtain ⟨sa, sc, va, vc, he, hA⟩ := hy (by rw [sqn_ct hc]; exact hs)
      rw [syOf_ct hc] at he hA
      exact ⟨sa, sc, va, vc, he, hA⟩
  | false =>
    refine ⟨[], [], 0, false, by simp, ?_, ?_⟩
    · intro a cap rs W hq hc
      have h1 := specSymbols_any a cap rs W hq (by rw [lenY hc]; exact hx) (lits_allY hc hxl)
      rw [lenY hc] at h1
      refine h1.mono ?_
      rintro e W' ⟨_, hn⟩
      obtain ⟨he, hA⟩ := hn (by rw [sqn_ct hc]; exact hs)
      exact ⟨none, 0, none, 0, he, AnsY.nil hA⟩
    · intro a cap rs W hq hc
      have h1 := implSymbols_any a cap rs W hq (by rw [lenY hc]; exact hx) (lits_allY hc hxl)
      rw [lenY hc] at h1
      refine h1.mono ?_
      rintro e W' ⟨_, hn⟩
      obtain ⟨he, hA⟩ := hn (by rw [sqn_ct hc]; exact hs)
      exact ⟨none, 0, none, 0, he, AnsY.nil hA⟩
end Go.Proofs.YtecmnbdnnlifhaaDoor
