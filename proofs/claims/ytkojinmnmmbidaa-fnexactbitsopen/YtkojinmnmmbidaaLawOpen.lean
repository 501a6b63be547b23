/-
  The law on BitsOpen returns true, whatever is handed in, and writes nothing that was there.
-/
import Derived.Test.YtkojinmnmmbidaaOpen3
import Derived.Test.YtkojinmnmmbidaaCopy
import Derived.Test.YtkojinmnmmbidaaEqB
import Derived.Test.YtkojinmnmmbidaaMarksB
namespace Go.Proofs.Ytkojinmnmmbidaa
open Go.RowKit
set_option linter.unusedVariables false

/-- Which bit of a byte is its highest. -/
theorem top_bit : ∀ t, t < 256 → 0 < t → ∃ b, b < 8 ∧ 2 ^ b ≤ t ∧ t < 2 ^ (b + 1) := by
  intro t h1 h2
  refine ⟨Nat.log2 t, ?_, Nat.log2_self_le (by omega), Nat.lt_log2_self⟩
  have : Nat.log2 t < 8 := (Nat.log2_lt (by omega)).2 h1
  exact this

/-- The model and the program open alike. -/
theorem open_both (zs : List Int) (hl : zs.length ≤ 1048576) (hr : ∀ z ∈ zs, 0 ≤ z ∧ z ≤ 255) : ∃ (ys : List Int) (M : Int) (ok : Bool), ys.length ≤ 1048576 ∧
    (∀ (a : Option Addr) (cap : Nat) (w : World), zs.length ≤ cap → Byt w a zs → Calls Try.prog 10 #[.slice a zs.length cap] w fun e w' =>
      ∃ a' cp, e = .returned (.tuple #[.agg #[.slice a' ys.length cp, .int .i64 M], .bool ok]) ∧ Mine w' w.heap.size w'.heap.size a' cp ys ∧ Below w.heap.size w w') ∧
    (∀ (a : Option Addr) (cap : Nat) (w : World), Byt w a zs → Calls Try.prog 12 #[.slice a zs.length cap] w fun e w' =>
      ∃ a' cp, e = .returned (.tuple #[.agg #[.slice a' ys.length cp, .int .i64 M], .bool ok]) ∧ Mine w' w.heap.size w'.heap.size a' cp ys ∧ Below w.heap.size w w') := by
  by_cases h0 : zs = [] ∨ zs.getD (zs.length - 1) 0 = 0
  · refine ⟨[], 0, false, by simp, ?_, ?_⟩
    · intro a cap w _ hb
      refine specOpen_of a zs.length cap [] 0 false w (fun W hW _ => ?_)
      refine (l1open_no a cap zs W (hb.below hW (Nat.le_refl _)) hl h0).mono ?_
      rintro e w' ⟨rfl, hb'⟩
      exact ⟨none, 0, rfl, .inl ⟨rfl, rfl, rfl⟩, hb'⟩
    · intro a cap w hb
      refine (implOpen_no a cap zs w hb hl (h0.elim .inl (fun h => .inr (.inl h)))).mono ?_
      rintro e w' ⟨rfl, hb'⟩
      exact ⟨none, 0, rfl, .inl ⟨rfl, rfl, rfl⟩, hb'⟩
  · have hne : zs ≠ [] := fun h => h0 (.inl h)
    have hp : 0 < zs.length := List.length_pos_iff.2 hne
    obtain ⟨L, hL⟩ : ∃ L, zs.length = L + 1 := ⟨zs.length - 1, by omega⟩
    have hrL := getD_rng hr L
    have hnz : zs.getD L 0 ≠ 0 := fun h => h0 (.inr (by rw [show zs.length - 1 = L from by omega]; exact h))
    obtain ⟨t, ht⟩ := Int.eq_ofNat_of_zero_le hrL.1
    rw [ht] at hrL hnz
    obtain ⟨b, hb8, h1, h2⟩ := top_bit t (by omega) (by omega)
    have hok := okB_open zs L b t hL h1 h2 hb8
    have hlen := (openY_len zs L b t hL).resolve_right (by omega)
    by_cases hn : 8 * L + b ≤ 4096
    · rw [decide_eq_true hn] at hok
      refine ⟨openY zs L b t, ((8 * L + b : Nat) : Int), true, by rw [hlen]; omega, ?_, ?_⟩
      · intro a cap w hcap hb
        have := specOpen_of a zs.length cap (openY zs L b t) ((8 * L + b : Nat) : Int) true w (fun W hW _ => by
          have := l1open_yes a cap zs L b t W (hb.below hW (Nat.le_refl _)) hL (by omega) (by omega) ht h1 h2 hb8
          rw [hok] at this
          rw [hL]
          exact this)
        exact this
      · intro a cap w hb
        have := implOpen_yes a cap zs L b t w hb hL ht h1 h2 hb8 hn
        rw [hL]
        exact this
    · rw [decide_eq_false hn] at hok
      refine ⟨[], 0, false, by simp, ?_, ?_⟩
      · intro a cap w hcap hb
        have := specOpen_of a zs.length cap (openY zs L b t) ((8 * L + b : Nat) : Int) false w (fun W hW _ => by
          have := l1open_yes a cap zs L b t W (hb.below hW (Nat.le_refl _)) hL (by omega) (by omega) ht h1 h2 hb8
          rw [hok] at this
          rw [hL]
          exact this)
        exact this
      · intro a cap w hb
        refine (implOpen_no a cap zs w hb hl (.inr (.inr ⟨L, b, t, hL, ht, h1, h2, hb8, by omega⟩))).mono ?_
        rintro e w' ⟨rfl, hb'⟩
        exact ⟨none, 0, rfl, .inl ⟨rfl, rfl, rfl⟩, hb'⟩

/-- What the law carries along. -/
structure SnapO (w W : World) (A : Nat) (aw : Option Addr) (cw : Nat) (ys : List Int) (M : Int) (U gx n : Nat) (xs : List Int) (G : Nat) (ag : Option Addr) (cg : Nat) (ts : List Int) : Prop where
  bel : Below w.heap.size w W
  a0 : W.cell? ⟨A, 0, none⟩ = some (.slice aw ys.length cw)
  a1 : W.cell? ⟨A, 1, none⟩ = some (.int .i64 M)
  hA : w.heap.size ≤ A ∧ A < gx ∧ gx < U
  hG : U ≤ G ∧ G < W.heap.size
  g0 : W.cell? ⟨G, 0, none⟩ = some (.slice ag ys.length cg)
  g1 : W.cell? ⟨G, 1, none⟩ = some (.int .i64 M)
  mw : Mine W w.heap.size A aw cw ys
  mx : Mine W (A + 1) U (some ⟨gx, 0, none⟩) n xs
  mg : Mine W U G ag cg ts

section
variable {w W W' : World} {A : Nat} {aw : Option Addr} {cw : Nat} {ys : List Int} {M : Int} {U gx n : Nat} {xs : List Int} {G : Nat} {ag : Option Addr} {cg : Nat} {ts : List Int}

theorem SnapO.step (h : SnapO w W A aw cw ys M U gx n xs G ag cg ts) (hb : Below W.heap.size W W') : SnapO w W' A aw cw ys M U gx n xs G ag cg ts := by
  have h1 := h.hA; have h3 := h.hG; have hs := hb.size
  exact ⟨h.bel.trans (hb.mono (by omega)), keep hb (by omega) h.a0, keep hb (by omega) h.a1, h.hA, ⟨h3.1, by omega⟩, keep hb (by omega) h.g0, keep hb (by omega) h.g1, h.mw.below hb, h.mx.below hb, h.mg.below hb⟩

theorem SnapO.markX (h : SnapO w W A aw cw ys M U gx n xs G ag cg ts) (ho : Only (rowOf (some ⟨gx, 0, none⟩)) W W') {xs' : List Int} (hm : Mine W' (A + 1) U (some ⟨gx, 0, none⟩) n xs') : SnapO w W' A aw cw ys M U gx n xs' G ag cg ts := by
  have h1 := h.hA; have h3 := h.hG; have hs := ho.size
  have hn : ∀ k, k ≠ gx → ¬ rowOf (some ⟨gx, 0, none⟩) k := by
    rintro k hk ⟨x, hx, rfl⟩
    simp at hx
    exact hk (by rw [← hx])
  have hbel : Below w.heap.size W W' := ho.below (by omega) (by
    rintro k ⟨x, hx, rfl⟩
    simp at hx
    rw [← hx]
    simp
    omega)
  exact ⟨h.bel.trans hbel, ho.cell (by omega) (hn _ (by omega)) h.a0, ho.cell (by omega) (hn _ (by omega)) h.a1, h.hA, ⟨h3.1, by omega⟩, ho.cell (by omega) (hn _ (by omega)) h.g0, ho.cell (by omega) (hn _ (by omega)) h.g1,
    h.mw.only ho (fun k _ _ => hn k (by omega)), hm, h.mg.only ho (fun k _ _ => hn k (by omega))⟩

theorem SnapO.markG (h : SnapO w W A aw cw ys M U gx n xs G ag cg ts) (ho : Only (rowOf ag) W W') {ts' : List Int} (hm : Mine W' U G ag cg ts') : SnapO w W' A aw cw ys M U gx n xs G ag cg ts' := by
  have h1 := h.hA; have h3 := h.hG; have hs := ho.size
  have hin : ∀ k, rowOf ag k → U ≤ k ∧ k < G := by
    rintro k ⟨x, hx, rfl⟩
    rcases h.mg with ⟨h', _⟩ | ⟨g, h', g1, g2, _⟩
    · rw [h'] at hx; cases hx
    · rw [h'] at hx
      simp at hx
      rw [← hx]
      exact ⟨g1, g2⟩
  have hn : ∀ k, ¬ (U ≤ k ∧ k < G) → ¬ rowOf ag k := fun k hk hr => hk (hin k hr)
  have hbel : Below w.heap.size W W' := ho.below (by omega) (fun k hk => by have := hin k hk; omega)
  exact ⟨h.bel.trans hbel, ho.cell (by omega) (hn _ (by omega)) h.a0, ho.cell (by omega) (hn _ (by omega)) h.a1, h.hA, ⟨h3.1, by omega⟩, ho.cell (by omega) (hn _ (by omega)) h.g0, ho.cell (by omega) (hn _ (by omega)) h.g1,
    h.mw.only ho (fun k _ _ => hn k (by omega)), h.mx.only ho (fun k _ _ => hn k (by omega)), hm⟩
end

set_option maxRecDepth 100000 in
set_option maxHeartbeats 4000000 in
theorem lawOpen_any (a : Option Addr) (cap : Nat) (zs : List Int) (w : World) (hb : Byt w a zs) (hm : zs.length ≤ maxLen) :
    Calls Try.prog 4 #[.slice a zs.length cap] w fun e w' => e = .returned (.bool true) ∧ Below w.heap.size w w' := by
  unfold maxLen at hm
  by_cases hn : zs.length ≤ 1048576
  · obtain ⟨ys, M, ok, hyl, hspec, himpl⟩ := open_both zs hn hb.1
    have hsz : (zs.length : Int) ≤ 1048576 := by omega
    have HS0 : Hid _ := hspec
    have HI0 : Hid _ := himpl
    clear hspec himpl
    have hok : (ok != ok) = false := by simp
    go_enter Try.func4, Try.ntmps4
    go_wp2_with fail
    refine (toByteS_any a cap zs _ hb hn).mono ?_
    rintro e w2 ⟨rfl, ho2, hb2⟩
    have z2 := hb2.size
    go_wp2_with fail
    refine (HS0.out _ _ _ (Nat.le_refl _) ho2.byt).mono ?_
    rintro e w3 ⟨aw, cw, rfl, hmw, hb3⟩
    have z3 := hb3.size
    have hbb3 := hb2.trans (hb3.mono z2)
    have HMW : Hid (Mine w3 w.heap.size w3.heap.size aw cw ys) := hmw.mono (by omega) (Nat.le_refl _)
    clear hb2 hb3 ho2 hmw
    go_wp2_with fail
    have hbb3' := hbb3.alloc (by omega) (Obj.cells #[Value.slice aw ys.length cw, Value.int IntKind.i64 M] 27)
    refine (toByteS_any a cap zs _ (hb.below hbb3' (Nat.le_refl _)) hn).mono ?_
    rintro e w4 ⟨rfl, ho4, hb4⟩
    simp at ho4
    have b0 : w4.cell? ⟨w3.heap.size, 0, none⟩ = some (.slice aw ys.length cw) := keep hb4 (by simp) (by simp)
    have b1 : w4.cell? ⟨w3.heap.size, 1, none⟩ = some (.int .i64 M) := keep hb4 (by simp) (by simp)
    have hlt4 := ho4.lt
    have hbb4 := hbb3'.trans (hb4.mono (by simp; omega))
    have hmw4 := (HMW.out.allocM (Obj.cells #[Value.slice aw ys.length cw, Value.int IntKind.i64 M] 27)).below hb4
    clear hb4 hbb3 hbb3'
    go_wp2_with fail
    refine (HI0.out _ _ _ ho4.byt).mono ?_
    rintro e w5 ⟨ag, cg, rfl, hmg, hb5⟩
    have z5 := hb5.size
    have y35 : w3.heap.size < w5.heap.size := by omega
    have HS5 : Hid (SnapO w (w5.alloc (Obj.cells #[Value.slice ag ys.length cg, Value.int IntKind.i64 M] 27)) w3.heap.size aw cw ys M w4.heap.size (w3.heap.size + 1) zs.length zs w5.heap.size ag cg ys) := by
      refine ⟨(hbb4.trans (hb5.mono (by omega))).alloc (by omega) _, keepA _ (by omega) (keep hb5 (by omega) b0), keepA _ (by omega) (keep hb5 (by omega) b1), ⟨by omega, by omega, by omega⟩, ⟨z5, by simp⟩, by simp, by simp, ?_, ?_, ?_⟩
      · exact (hmw4.below hb5).allocM _
      · exact .inr ⟨_, rfl, Nat.le_refl _, hlt4.2, (ho4.below hb5 (Nat.le_refl _)).alloc _⟩
      · exact hmg.allocM _
    have c0 := keep hb5 (by omega) b0
    have c1 := keep hb5 (by omega) b1
    clear b0 b1 hb5 hmg hmw4 ho4 hbb4 HMW
    go_wp2_with fail
    refine (eqBits_yes ag aw cg cw ys M _ HS5.out.mg.byt HS5.out.mw.byt (by omega)).mono ?_
    rintro e w6 ⟨rfl, hb6⟩
    have HS6 : Hid (SnapO w w6 w3.heap.size aw cw ys M w4.heap.size (w3.heap.size + 1) zs.length zs w5.heap.size ag cg ys) := HS5.out.step hb6
    clear hb6 c0 c1 HS5
    generalize w4.heap.size = U at *
    generalize w5.heap.size = G at *
    obtain ⟨gx, hgx⟩ : ∃ gx, gx = w3.heap.size + 1 := ⟨_, rfl⟩
    rw [← hgx]
    rw [← hgx] at HS6
    clear hgx
    generalize w3.heap.size = A at *
    go_wp2_with fail
    refine (toByteS_any a cap zs _ (hb.below HS6.out.bel (Nat.le_refl _)) hn).mono ?_
    rintro e w7 ⟨rfl, ho7, hb7⟩
    have HS7 : Hid (SnapO w w7 A aw cw ys M U gx zs.length zs G ag cg ys) := HS6.out.step hb7
    clear hb7 HS6
    go_wp2_with fail
    refine (eqByteS_yes _ _ _ _ zs _ HS7.out.mx.byt ho7.byt (by omega)).mono ?_
    rintro e w8' ⟨rfl, n8, rfl⟩
    have HS8' : Hid (SnapO w (w7.drewN n8) A aw cw ys M U gx zs.length zs G ag cg ys) := HS7.out.step (below_drewN (Below.refl _ _) n8)
    clear ho7 HS7
    generalize w7.drewN n8 = w8 at *
    have HS8 : Hid (SnapO w w8 A aw cw ys M U gx zs.length zs G ag cg ys) := HS8'.out
    clear HS8'
    go_wp2_with fail
    refine (markByteS_any (some ⟨gx, 0, none⟩) (A + 1) U zs.length zs 1 _ HS8.out.mx (by omega) (by omega) (by omega)).mono ?_
    rintro e w9 ⟨rfl, hm9, ho9⟩
    have HS9 : Hid (SnapO w w9 A aw cw ys M U gx zs.length (marks 1 zs.length) G ag cg ys) := HS8.out.markX ho9 hm9
    clear hm9 ho9 HS8
    have a0 := HS9.out.a0
    have a1 := HS9.out.a1
    have g0 := HS9.out.g0
    have g1 := HS9.out.g1
    go_wp2_with fail
    refine (eqBits_yes ag aw cg cw ys M _ HS9.out.mg.byt HS9.out.mw.byt (by omega)).mono ?_
    rintro e w10 ⟨rfl, hb10⟩
    have HS10 : Hid (SnapO w w10 A aw cw ys M U gx zs.length (marks 1 zs.length) G ag cg ys) := HS9.out.step hb10
    clear hb10 HS9 a0 a1 g0 g1
    have g0 := HS10.out.g0
    have g1 := HS10.out.g1
    go_wp2_with fail
    refine (markBits_any ag U G cg ys M 1 _ HS10.out.mg (by omega) (by omega) (by omega)).mono ?_
    rintro e w11 ⟨rfl, hm11, ho11⟩
    have HS11 : Hid (SnapO w w11 A aw cw ys M U gx zs.length (marks 1 zs.length) G ag cg (marks 1 ys.length)) := HS10.out.markG ho11 hm11
    clear hm11 ho11 HS10 g0 g1
    have g0 := HS11.out.g0
    have g1 := HS11.out.g1
    go_wp2_with fail
    refine (heldBits_any ag cg ys.length M 1 _ HS11.out.mg.byt (by omega) (by omega) (by omega)).mono ?_
    rintro e w12 ⟨rfl, hb12⟩
    have HS12 : Hid (SnapO w w12 A aw cw ys M U gx zs.length (marks 1 zs.length) G ag cg (marks 1 ys.length)) := HS11.out.step hb12
    clear hb12 HS11 g0 g1
    go_wp2_with fail
    refine (toByteS_any a cap zs _ (hb.below HS12.out.bel (Nat.le_refl _)) hn).mono ?_
    rintro e w13 ⟨rfl, ho13, hb13⟩
    have HS13 : Hid (SnapO w w13 A aw cw ys M U gx zs.length (marks 1 zs.length) G ag cg (marks 1 ys.length)) := HS12.out.step hb13
    clear hb13 HS12
    go_wp2_with fail
    refine (HI0.out _ _ _ ho13.byt).mono ?_
    rintro e w14 ⟨ah, ch, rfl, hmh, hb14⟩
    have HS14 : Hid (SnapO w w14 A aw cw ys M U gx zs.length (marks 1 zs.length) G ag cg (marks 1 ys.length)) := HS13.out.step hb14
    have HMH : Hid (Byt w14 ah ys) := hmh.byt
    clear hb14 HS13 ho13 hmh
    have a0 := HS14.out.a0
    have a1 := HS14.out.a1
    have hAl : A < w14.heap.size := by have h1 := HS14.out.hA; have h2 := HS14.out.hG; omega
    go_wp2_with fail
    refine (eqBits_yes ah aw ch cw ys M _ (HMH.out.alloc _) (HS14.out.mw.byt.alloc _) (by omega)).mono ?_
    rintro e w16 ⟨rfl, hb16⟩
    have HS16 : Hid (SnapO w w16 A aw cw ys M U gx zs.length (marks 1 zs.length) G ag cg (marks 1 ys.length)) := (HS14.out.step ((Below.refl _ _).alloc (Nat.le_refl _) _)).step hb16
    clear hb16 HS14 HMH a0 a1
    have g0 := HS16.out.g0
    have g1 := HS16.out.g1
    go_wp2_with fail
    refine (heldBits_any ag cg ys.length M 1 _ HS16.out.mg.byt (by omega) (by omega) (by omega)).mono ?_
    rintro e w17 ⟨rfl, hb17⟩
    have HS17 : Hid (SnapO w w17 A aw cw ys M U gx zs.length (marks 1 zs.length) G ag cg (marks 1 ys.length)) := HS16.out.step hb17
    clear hb17 HS16 g0 g1
    go_wp2
    go_ret
    exact ⟨rfl, HS17.out.bel⟩
  · have hsz : (1048576 : Int) < (zs.length : Int) := by omega
    go_enter Try.func4, Try.ntmps4
    go_wp2
    go_ret
    exact ⟨rfl, Below.refl _ _⟩
end Go.Proofs.Ytkojinmnmmbidaa
