/-
  A drawn map: the model's l8draw. (Typed by wip/mkdm8.py.)
-/
import Derived.Test.YtnelpioadpdphaaDraw2
import Derived.Test.YtnelpioadpdphaaMpSb
namespace Go.Proofs.Ytnelpioadpdphaa
open Go.RowKit
set_option linter.unusedVariables false
set_option linter.unusedSimpArgs false

theorem Dr.drew1 {w0 w : World} {B R : Nat} {a : Option Addr} {bs : List Int} {cap : Nat} (h : Dr w0 w B R a bs cap) : Dr w0 w.drew B R a bs cap := h.other (S := fun _ => False) (Only.drew (Only.refl _ w)) (by simp) (by simp)

/-- While a map is drawn: the cursor; of old blocks only its own turns; a row of n places at g, each of two bytes; the map's box X; the answer's box. -/
structure DM (w0 w W : World) (B R X g n : Nat) (a : Option Addr) (bs : List Int) (cap : Nat) : Prop where
  dr : Dr w0 W B R a bs cap
  only : Only (fun k => k = R) w W
  row : ∃ ps, OwP W w.heap.size g n ps ∧ ps.length = n ∧ ∀ p ∈ ps, bP p
  box : W.cell? ⟨X, 0, none⟩ = some (.slice (some ⟨g, 0, none⟩) n n)
  fz : W.frozen? ⟨X, 0, none⟩ = false
  res : W.cell? ⟨w.heap.size, 0, none⟩ = some (.slice none 0 0)
  rfz : W.frozen? ⟨w.heap.size, 0, none⟩ = false
  ne : w.heap.size < X ∧ X < W.heap.size ∧ X ≠ g ∧ w.heap.size ≠ g ∧ R < w.heap.size ∧ B ≤ R
section
variable {w0 w W W' : World} {B R X g n : Nat} {a : Option Addr} {bs : List Int} {cap : Nat}
theorem frozM {S : Nat → Prop} {w w' : World} (h : Only S w w') {b o : Nat} (hb : b < w.heap.size) (hs : ¬ S b) : w'.frozen? ⟨b, o, none⟩ = w.frozen? ⟨b, o, none⟩ := by
  simp only [World.frozen?, h.block b hb hs]
theorem DM.turn {S : Nat → Prop} (h : DM w0 w W B R X g n a bs cap) (hd : Dr w0 W' B R a bs cap) (ho : Only S W W') (hw : Only (fun k => k = R) w W') (hr : ∃ ps, OwP W' w.heap.size g n ps ∧ ps.length = n ∧ ∀ p ∈ ps, bP p) (hX : ¬ S X) (hN : ¬ S w.heap.size) : DM w0 w W' B R X g n a bs cap := by
  have hn := h.ne; have hs := ho.size
  exact ⟨hd, hw, hr, ho.cell (by omega) hX h.box, (frozM ho (by omega) hX).trans h.fz, ho.cell (by omega) hN h.res, (frozM ho (by omega) hN).trans h.rfz, by omega⟩
theorem DM.cur (h : DM w0 w W B R X g n a bs cap) (hd : Dr w0 W' B R a bs cap) (ho : Only (fun k => k = R) W W') : DM w0 w W' B R X g n a bs cap := by
  have hn := h.ne
  obtain ⟨ps, h1, h2, h3⟩ := h.row
  refine h.turn hd ho (h.only.trans ho) ⟨ps, OVp.stay h1 ho (fun k hk e => ?_), h2, h3⟩ (by omega) (by omega)
  have := h1.lt
  have e2 : g = k := by simpa [Value.ownBlock] using hk
  omega
theorem DM.drew (h : DM w0 w W B R X g n a bs cap) (m : Nat) : DM w0 w (W.drewN m) B R X g n a bs cap := h.cur (h.dr.other (S := fun _ => False) ((Only.refl _ W).drewN m) (by simp) (by simp)) ((Only.refl _ W).drewN m)
theorem DM.store (h : DM w0 w W B R X g n a bs cap) (k : Nat) (hk : k < n) (x y : Int) (hb : bP (x, y)) : DM w0 w ((W.setCell ⟨g, k * 2, none⟩ (.int .i64 x)).setCell ⟨g, k * 2 + 1, none⟩ (.int .i64 y)) B R X g n a bs cap := by
  have hn := h.ne
  obtain ⟨ps, h1, h2, h3⟩ := h.row
  have hg := h1.lt
  have ho : Only (fun b => b = g) W ((W.setCell ⟨g, k * 2, none⟩ (.int .i64 x)).setCell ⟨g, k * 2 + 1, none⟩ (.int .i64 y)) := ((Only.refl (fun b => b = g) W).setCell (p := ⟨g, k * 2, none⟩) (.inl rfl) _).setCell (p := ⟨g, k * 2 + 1, none⟩) (.inl rfl) _
  refine h.turn (h.dr.other ho (by omega) (fun b hb => by omega)) ho ((h.only.setCell (p := ⟨g, k * 2, none⟩) (.inr hg.1) _).setCell (p := ⟨g, k * 2 + 1, none⟩) (.inr hg.1) _) ⟨ps.set k (x, y), ?_, by simpa using h2, fun p hp => ?_⟩ (by omega) (by omega)
  · exact h1.store k (by omega) (x, y) ⟨by have := hb.1; simp only at *; omega, by have := hb.2; simp only at *; omega⟩
  · rcases List.mem_or_eq_of_mem_set hp with hp | rfl
    · exact h3 p hp
    · exact hb
theorem DM.cells (h : DM w0 w W B R X g n a bs cap) (k : Nat) (hk : k < n) : ∃ x y, W.cell? ⟨g, k * 2, none⟩ = some (.int .i64 x) ∧ W.cell? ⟨g, k * 2 + 1, none⟩ = some (.int .i64 y) ∧ W.frozen? ⟨g, k * 2, none⟩ = false ∧ W.frozen? ⟨g, k * 2 + 1, none⟩ = false := by
  obtain ⟨ps, h1, h2, h3⟩ := h.row
  exact ⟨_, _, (h1.cell k (by omega)).1, (h1.cell k (by omega)).2, h1.frozen _, h1.frozen _⟩
end

set_option maxRecDepth 20000 in
set_option maxHeartbeats 8000000 in
theorem Dr.map {w0 w : World} {B R : Nat} {a : Option Addr} {bs : List Int} {cap : Nat} (h : Dr w0 w B R a bs cap) :
    Calls Try.prog 22 #[.pointer (some ⟨R, 0, none⟩)] w fun e w' => ∃ (g : Nat) (ps : List (Int × Int)), e = .returned (.agg #[.slice (some ⟨g, 0, none⟩) ps.length ps.length]) ∧ 1 ≤ ps.length ∧ ps.length ≤ 9 ∧ (∀ p ∈ ps, bP p) ∧ OwP w' w.heap.size g ps.length ps ∧ Dr w0 w' B R a bs cap ∧ Only (fun k => k = R) w w' := by
  obtain ⟨i0, hi, hz0, hz1, hz2⟩ := info_parts Try.infoPl
  have hRB := h.cur.lt
  have e1 : (w.alloc (Obj.cells #[.slice none 0 0] 25)).heap.size = w.heap.size + 1 := by simp
  have HR0 : Hid (Dr w0 (w.alloc (Obj.cells #[.slice none 0 0] 25)) B R a bs cap ∧ Only (fun k => k = R) w (w.alloc (Obj.cells #[.slice none 0 0] 25)) ∧ (w.alloc (Obj.cells #[.slice none 0 0] 25)).cell? ⟨w.heap.size, 0, none⟩ = some (.slice none 0 0) ∧ (w.alloc (Obj.cells #[.slice none 0 0] 25)).frozen? ⟨w.heap.size, 0, none⟩ = false ∧ (w.alloc (Obj.cells #[.slice none 0 0] 25)).heap.size = w.heap.size + 1) :=
    ⟨h.other (S := fun _ => False) ((Only.refl _ w).alloc _) (by simp) (by simp), (Only.refl _ w).alloc _, by simp, by simp, e1⟩
  clear h e1
  go_enter Try.func22, Try.ntmps22
  go_wp2_with fail
  generalize w.alloc (Obj.cells #[.slice none 0 0] 25) = W0 at *
  refine (HR0.out.1.below 9 (by omega) (by omega)).mono ?_
  rintro e w1 ⟨⟨N, hN1, hN2, rfl⟩, hd, ho⟩
  obtain ⟨n, rfl⟩ := Int.eq_ofNat_of_zero_le hN1
  have hs1 : w.heap.size < w1.heap.size := by have := ho.size; have := HR0.out.2.2.2.2; omega
  have HD1 : Hid (Dr w0 w1 B R a bs cap ∧ Only (fun k => k = R) w w1 ∧ w1.cell? ⟨w.heap.size, 0, none⟩ = some (.slice none 0 0) ∧ w1.frozen? ⟨w.heap.size, 0, none⟩ = false) := by
    have h5 := HR0.out.2.2.2.2
    exact ⟨hd, HR0.out.2.1.trans ho, ho.cell (by omega) (by omega) HR0.out.2.2.1, (frozM ho (by omega) (by omega)).trans HR0.out.2.2.2.1⟩
  clear hd ho HR0 hN1
  have e1 : (1 : Int) + (n : Nat) = ((1 + n : Nat) : Int) := by simp
  have hn1 : 1 + n ≤ 9 := by omega
  have hn2 : 1 ≤ 1 + n := by omega
  clear hN2
  generalize 1 + n = m at *
  go_wp2_with (at_make; refine wpList_make_full _ rfl _ _ 23 rfl w.heap.size 49 i0 (.agg #[.int .i64 0, .int .i64 0]) 2 Try.underlying23 hi hz0 hz1 .i64 .i64 _ _ m (by simp [Act.eval]; try omega) rfl rfl rfl (by rw [hz2]; omega) (by unfold maxLen; omega) (Nat.le_of_lt hs1) ?_; intro w2 hown hgrow)
  have honly2 : Only (fun _ => False) w1 w2 := Only.grown (Only.refl _ w1) hgrow (fun k hk => by cases hk)
  have hmade := OwP.made hown
  have HM2 : Hid (DM w0 w (w2.alloc (Obj.cells #[.slice (some ⟨w1.heap.size, 0, none⟩) m m] 25)) B R w2.heap.size w1.heap.size m a bs cap) := by
    have h1 := HD1.out
    have hsz := honly2.size
    have hgl := hmade.lt
    have hoa : Only (fun _ => False) w2 (w2.alloc (Obj.cells #[.slice (some ⟨w1.heap.size, 0, none⟩) m m] 25)) := (Only.refl _ w2).alloc _
    have ho12 := honly2.trans hoa
    refine ⟨h1.1.other ho12 (by simp) (by simp), h1.2.1.trans (ho12.mono (by simp)), ⟨List.replicate m dp, OVp.stay hmade hoa (by simp), by simp, fun p hp => ?_⟩, by simp, by simp, ho12.cell hs1 (by simp) h1.2.2.1, (frozM ho12 hs1 (by simp)).trans h1.2.2.2, by simp; omega⟩
    rw [(List.mem_replicate.1 hp).2]
    unfold bP dp
    simp
  clear hown hgrow honly2 hmade hi hz0 hz1 hz2 HD1 e1
  generalize w2.alloc (Obj.cells #[.slice (some ⟨w1.heap.size, 0, none⟩) m m] 25) = W2 at *
  generalize w2.heap.size = X at *
  generalize w1.heap.size = g at *
  go_loopw [4] (fun i wr => ∃ k : Nat, k ≤ m ∧ i = .int .i64 k ∧ DM w0 w wr B R X g m a bs cap) (fun i _ => m - (intOf i).toNat)
  case atStart => exact ⟨0, Nat.zero_le _, rfl, HM2.out⟩
  case round =>
    clear HM2
    obtain ⟨k, hk, rfl, hm⟩ := hrel
    have HM0 : Hid (DM w0 w wr B R X g m a bs cap) := hm
    have b0 := hm.box
    clear hm
    by_cases hlt : k < m
    · go_wp2_with fail
      refine (HM0.out.dr.once 3 (by omega) (by omega)).mono ?_
      rintro e w3 ⟨⟨bb, rfl⟩, hd3, ho3⟩
      have HM : Hid (DM w0 w w3 B R X g m a bs cap) := HM0.out.cur hd3 ho3
      clear hd3 ho3 HM0 b0
      cases bb with
      | true =>
        go_wp2
        go_roundw
        case rel => exact ⟨k + 1, by omega, by go_num, HM.out⟩
        case measure => simp [intOf]; omega
      | false =>
        have b3 := HM.out.box
        have hk4 : k < m := hlt
        go_wp2
        refine wp_region_cut (S := fun W => W.cell? ⟨X, 0, none⟩ = some (.slice (some ⟨g, 0, none⟩) m m)) 10 (by kernel_rfl) (by kernel_rfl) (by exact b3) (fun hHeld => ?_)
        refine wpAnyH_take (i := 0) (v := ?_) rfl (by kernel_rfl) (by kernel_rfl) (by kernel_rfl) (fun _ _ _ h => h) (Or.inl ⟨by rfl, ?_⟩) (by assumption) ?_
        rotate_left 1
        · (intro w hSw; (try dsimp only at hSw); go_simp; try (with_reducible rfl))
        try simp only [List.getElem_toArray, List.getElem_cons_zero, List.getElem_cons_succ, Act.put, List.setIfInBounds_toArray, List.set_cons_zero, List.set_cons_succ]
        refine wpAnyH_take (i := 1) (v := ?_) rfl (by kernel_rfl) (by kernel_rfl) (by kernel_rfl) (fun _ _ _ h => h) (Or.inl ⟨by rfl, ?_⟩) (by assumption) ?_
        rotate_left 1
        · (intro w hSw; (try dsimp only at hSw); go_simp; try (with_reducible rfl))
        try simp only [List.getElem_toArray, List.getElem_cons_zero, List.getElem_cons_succ, Act.put, List.setIfInBounds_toArray, List.set_cons_zero, List.set_cons_succ]
        refine wpAnyH_take (i := 2) (v := ?_) rfl (by kernel_rfl) (by kernel_rfl) (by kernel_rfl) (fun _ _ _ h => h) (Or.inl ⟨by rfl, ?_⟩) (by assumption) ?_
        rotate_left 1
        · (intro w hSw; (try dsimp only at hSw); go_simp; try (with_reducible rfl))
        try simp only [List.getElem_toArray, List.getElem_cons_zero, List.getElem_cons_succ, Act.put, List.setIfInBounds_toArray, List.set_cons_zero, List.set_cons_succ]
        refine wpAnyH_take (i := 3) (v := ?_) rfl (by kernel_rfl) (by kernel_rfl) (by kernel_rfl) (fun _ _ _ h => h) (Or.inl ⟨by rfl, ?_⟩) (by assumption) ?_
        rotate_left 1
        · (intro w hSw; (try dsimp only at hSw); go_simp; try (with_reducible rfl))
        try simp only [List.getElem_toArray, List.getElem_cons_zero, List.getElem_cons_succ, Act.put, List.setIfInBounds_toArray, List.set_cons_zero, List.set_cons_succ]
        refine wpAnyH_take (i := 6) (v := ?_) rfl (by kernel_rfl) (by kernel_rfl) (by kernel_rfl) (fun _ _ _ h => h) (Or.inl ⟨by rfl, ?_⟩) (by assumption) ?_
        rotate_left 1
        · (intro w hSw; (try dsimp only at hSw); go_simp; try (with_reducible rfl))
        try simp only [List.getElem_toArray, List.getElem_cons_zero, List.getElem_cons_succ, Act.put, List.setIfInBounds_toArray, List.set_cons_zero, List.set_cons_succ]
        refine wpAnyH_take (i := 7) (v := ?_) rfl (by kernel_rfl) (by kernel_rfl) (by kernel_rfl) (fun _ _ _ h => h) (Or.inl ⟨by rfl, ?_⟩) (by assumption) ?_
        rotate_left 1
        · (intro w hSw; (try dsimp only at hSw); go_simp; try (with_reducible rfl))
        try simp only [List.getElem_toArray, List.getElem_cons_zero, List.getElem_cons_succ, Act.put, List.setIfInBounds_toArray, List.set_cons_zero, List.set_cons_succ]
        refine wpAnyH_ready (rs := [4]) (by kernel_rfl) (by simp) ?_
        refine AllReadyH.cons rfl (fun K hK => ?_) AllReadyH.nil
        go_simp
        refine (HM.out.dr.drew1.below 5 (by omega) (by omega)).mono ?_
        rintro e w4 ⟨⟨x, hx1, hx2, rfl⟩, hd4, ho4⟩
        have HM4 : Hid (DM w0 w w4 B R X g m a bs cap) := HM.out.cur hd4 ((Only.drew (Only.refl _ _)).trans ho4)
        have b4 := HM4.out.box
        clear hd4 ho4
        dsimp only
        refine hK.out _ _ (by exact b4) (fun hHeld => ?_)
        clear hK K
        try simp only [List.getElem_toArray, List.getElem_cons_zero, List.getElem_cons_succ, Act.put, List.setIfInBounds_toArray, List.set_cons_zero, List.set_cons_succ]
        refine wpAnyH_take (i := 5) (v := ?_) rfl (by kernel_rfl) (by kernel_rfl) (by kernel_rfl) (fun _ _ _ h => h) (Or.inl ⟨by rfl, ?_⟩) (by assumption) ?_
        rotate_left 1
        · (intro w hSw; (try dsimp only at hSw); go_simp; try (with_reducible rfl))
        try simp only [List.getElem_toArray, List.getElem_cons_zero, List.getElem_cons_succ, Act.put, List.setIfInBounds_toArray, List.set_cons_zero, List.set_cons_succ]
        refine wpAnyH_take (i := 8) (v := ?_) rfl (by kernel_rfl) (by kernel_rfl) (by kernel_rfl) (fun _ _ _ h => h) (Or.inl ⟨by rfl, ?_⟩) (by assumption) ?_
        rotate_left 1
        · (intro w hSw; (try dsimp only at hSw); go_simp; try (with_reducible rfl))
        try simp only [List.getElem_toArray, List.getElem_cons_zero, List.getElem_cons_succ, Act.put, List.setIfInBounds_toArray, List.set_cons_zero, List.set_cons_succ]
        refine wpAnyH_take (i := 9) (v := ?_) rfl (by kernel_rfl) (by kernel_rfl) (by kernel_rfl) (fun _ _ _ h => h) (Or.inl ⟨by rfl, ?_⟩) (by assumption) ?_
        rotate_left 1
        · (intro w hSw; (try dsimp only at hSw); go_simp; try (with_reducible rfl))
        try simp only [List.getElem_toArray, List.getElem_cons_zero, List.getElem_cons_succ, Act.put, List.setIfInBounds_toArray, List.set_cons_zero, List.set_cons_succ]
        refine wpAnyH_done (by kernel_rfl) ?_ _
        simp only [cutQ, List.drop_succ_cons, List.drop_zero]
        have HST : Hid (DM w0 w ((w4.setCell ⟨g, k * 2, none⟩ (.int .i64 (2 + x))).setCell ⟨g, k * 2 + 1, none⟩ (.int .i64 ((k : Int) % 4))) B R X g m a bs cap) := HM4.out.store k hlt (2 + x) ((k : Int) % 4) ⟨⟨by simp only; omega, by simp only; omega⟩, by simp only; omega, by simp only; omega⟩
        obtain ⟨ox, oy, q0, q1, z0, z1⟩ := HM4.out.cells k hlt
        clear hHeld HM4 HM
        go_wp2
        go_roundw
        case rel => exact ⟨k + 1, by omega, by go_num, HST.out⟩
        case measure => simp [intOf]; omega
    · have HMA : Hid (DM w0 w wr B R X g m a bs cap) := HM0.out
      clear hk HM0
      go_wp2
      go_loopw [5] (fun i wv => ∃ k : Nat, k ≤ m ∧ i = .int .i64 k ∧ DM w0 w wv B R X g m a bs cap) (fun i _ => m - (intOf i).toNat)
      case atStart => exact ⟨0, Nat.zero_le _, rfl, HMA.out⟩
      case round =>
        clear HMA b0
        obtain ⟨k2, hk2, rfl, hm2⟩ := hrel
        have HM0 : Hid (DM w0 w wr B R X g m a bs cap) := hm2
        have b0 := hm2.box
        clear hm2
        by_cases hlt2 : k2 < m
        · go_wp2
          clear b0
          go_loopw [6] (fun i wv => ∃ j : Nat, j ≤ k2 ∧ i = .int .i64 j ∧ DM w0 w wv B R X g m a bs cap) (fun i _ => k2 - (intOf i).toNat)
          case atStart => exact ⟨0, Nat.zero_le _, rfl, HM0.out⟩
          case round =>
            clear HM0
            obtain ⟨j, hj, rfl, hm3⟩ := hrel
            have HM0 : Hid (DM w0 w wr B R X g m a bs cap) := hm3
            have b0 := hm3.box
            clear hm3
            by_cases hlt3 : j < k2
            · obtain ⟨x1, y1, p0, p1, z0, z1⟩ := HM0.out.cells j (by omega)
              obtain ⟨x2, y2, q0, q1, f0, f1⟩ := HM0.out.cells k2 hlt2
              have hjm : j < m := by omega
              by_cases he : x1 = x2 ∧ y1 = y2
              · obtain ⟨rfl, rfl⟩ := he
                have HST : Hid (∀ c, DM w0 w (((wr.drewN c).setCell ⟨g, k2 * 2, none⟩ (.int .i64 0)).setCell ⟨g, k2 * 2 + 1, none⟩ (.int .i64 0)) B R X g m a bs cap) := fun c => (HM0.out.drew c).store k2 hlt2 0 0 ⟨⟨by simp, by simp⟩, by simp, by simp⟩
                clear HM0 z0 z1
                go_wp2
                go_quiet (fail)
                go_wp2
                go_roundw
                case rel => exact ⟨j + 1, by omega, by go_num, HST.out _⟩
                case measure => simp [intOf]; omega
              · have hc : x1 ≠ x2 ∨ (x1 = x2 ∧ y1 ≠ y2) := by omega
                have HST : Hid (∀ c, DM w0 w (wr.drewN c) B R X g m a bs cap) := fun c => HM0.out.drew c
                clear HM0 z0 z1 f0 f1 he
                rcases hc with hc | ⟨rfl, hc⟩
                all_goals
                  go_wp2
                  go_quiet (fail)
                  go_wp2
                  go_roundw
                  case rel => exact ⟨j + 1, by omega, by go_num, HST.out _⟩
                  case measure => simp [intOf]; omega
            · go_wp2
              go_roundw
              case rel => exact ⟨k2 + 1, by omega, by go_num, HM0.out⟩
              case measure => simp [intOf]; omega
        · obtain ⟨ps, o1, o2, o3⟩ := HM0.out.row
          have hn := HM0.out.ne
          have r0 := HM0.out.res
          have rz := HM0.out.rfz
          have hgl := o1.lt
          have hon : Only (fun b => b = w.heap.size) wr (wr.setCell ⟨w.heap.size, 0, none⟩ (.slice (some ⟨g, 0, none⟩) m m)) := (Only.refl (fun b => b = w.heap.size) wr).setCell (p := ⟨w.heap.size, 0, none⟩) (.inl rfl) _
          have HF : Hid (OwP (wr.setCell ⟨w.heap.size, 0, none⟩ (.slice (some ⟨g, 0, none⟩) m m)) w.heap.size g m ps ∧ ps.length = m ∧ (∀ p ∈ ps, bP p) ∧ Dr w0 (wr.setCell ⟨w.heap.size, 0, none⟩ (.slice (some ⟨g, 0, none⟩) m m)) B R a bs cap ∧ Only (fun k => k = R) w (wr.setCell ⟨w.heap.size, 0, none⟩ (.slice (some ⟨g, 0, none⟩) m m))) :=
            ⟨OwP.other o1 (p := ⟨w.heap.size, 0, none⟩) (by simp only; omega) _, o2, o3, HM0.out.dr.other hon (by omega) (fun k hk => by omega), HM0.out.only.setCell (p := ⟨w.heap.size, 0, none⟩) (.inr (Nat.le_refl _)) _⟩
          have hXn : ¬ X = w.heap.size := by omega
          clear hon o1 o2 o3 HM0
          go_wp2
          refine bodyPost_ret (v := .agg #[.slice (some ⟨g, 0, none⟩) m m]) (by simp [results, Try.results22, go_sem, r0]) rfl ⟨g, ps, by rw [HF.out.2.1], by rw [HF.out.2.1]; exact hn2, by rw [HF.out.2.1]; exact hn1, HF.out.2.2.1, by rw [HF.out.2.1]; exact HF.out.1, HF.out.2.2.2.1, HF.out.2.2.2.2⟩
end Go.Proofs.Ytnelpioadpdphaa
