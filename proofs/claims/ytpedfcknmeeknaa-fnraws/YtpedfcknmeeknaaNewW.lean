/-
  RawNew, both.
-/
import Derived.Test.YtpedfcknmeeknaaElApp
namespace Go.Proofs.Ytpedfcknmeeknaa
open Go.RowKit
set_option linter.unusedVariables false

/-- A new sector has zeros. -/
def Z256 : List Int := List.replicate 256 0
theorem Z256_len : Z256.length = 256 := by unfold Z256; exact List.length_replicate

/-- What both have behind k rounds, in the variable's block X: k new sectors. -/
structure NewS (Z : List Int) (w W : World) (X k : Nat) (v : Value) (es : List El) : Prop where
  bel : Below w.heap.size w W
  hX : w.heap.size ≤ X
  lt : X < W.heap.size
  row : OVr false W (X + 1) v es
  deep : Deep W (X + 1) es
  ct : es.map El.ct = List.replicate k (0, Z)
  box : Box2 W X v (.slice none 0 0)
theorem NewS.len {Z : List Int} {w W : World} {X k : Nat} {v : Value} {es : List El} (h : NewS Z w W X k v es) : es.length = k := by have := congrArg List.length h.ct; simpa using this
/-- One round more. -/
theorem NewS.more {Z : List Int} {w W w2 w3 : World} {X k : Nat} {v v' : Value} {es : List El} {ob : Obj} (h : NewS Z w W X k v es) (hb : Below W.heap.size W w2) (ho : Own w2 W.heap.size W.heap.size 256 Z) (hov : OVr false w3 (X + 1) v' (es ++ [⟨0, some ⟨W.heap.size, 0, none⟩, 256, Z⟩])) (hg : (w2.alloc ob).grownBy w3 v.ownBlock) :
    NewS Z w (w3.setCell ⟨X, 0, none⟩ v') X (k + 1) v' (es ++ [⟨0, some ⟨W.heap.size, 0, none⟩, 256, Z⟩]) ∧ Below (X + 1) W w3 := by
  have hlt := h.lt
  have hx := h.hX
  have hs2 := hb.size
  have ho2 := ho.lt
  have hba : Below w2.heap.size w2 (w2.alloc ob) := (Below.refl _ _).alloc (Nat.le_refl _) _
  have hb2 : Below W.heap.size W (w2.alloc ob) := hb.trans (hba.mono hs2)
  have hr2 := h.row.below hb2
  have hbw : Below (X + 1) W w3 := appE_below (hb2.mono (by omega)) (by simp; omega) hr2 hg
  have hd2 : Deep w2 (X + 1) (es ++ [⟨0, some ⟨W.heap.size, 0, none⟩, 256, Z⟩]) := (h.deep.below hb).snoc (U := W.heap.size) (.inr ⟨_, rfl, Nat.le_refl _, ho2.2, ho⟩) (fun x hx k hk => h.deep.lt x hx k hk) (by omega)
  have hd3 := (hd2.below hba).grown hr2 hg
  have hon : Only (fun b => b = X) w3 (w3.setCell ⟨X, 0, none⟩ v') := (Only.refl (fun b => b = X) w3).setCell (p := ⟨X, 0, none⟩) (.inl rfl) _
  refine ⟨⟨(h.bel.trans (hbw.mono (by omega))).setCell (p := ⟨X, 0, none⟩) hx _, hx, by have := hbw.size; simp; omega, ?_, ?_, ?_, (h.box.keep hbw (by omega)).set0 _⟩, hbw⟩
  · exact hov.stay hon (fun b hb e => by have := (hov.blk hb).1; omega)
  · exact hd3.stay hon (fun x hx b hb e => by have := ((hd3.mine x hx).rowE hb).1; omega)
  · rw [List.map_append, h.ct, List.replicate_succ']
    rfl
theorem rE_new {es : List El} {k : Nat} (h : es.map El.ct = List.replicate k (0, Z256)) : ∀ e ∈ es, rE false e := by
  intro e he
  have h1 : e.ct ∈ es.map El.ct := List.mem_map.2 ⟨e, he, rfl⟩
  rw [h] at h1
  have h2 := (List.mem_replicate.1 h1).2
  simp only [El.ct, Prod.mk.injEq] at h2
  exact ⟨by omega, by omega, by rw [h2.2, Z256_len]; unfold maxLen; omega, fun _ => h2.1⟩

set_option maxRecDepth 20000 in
set_option maxHeartbeats 1000000 in
theorem l6new_any (n : Nat) (w : World) (hn : n ≤ 24) :
    Calls Try.prog 39 #[.int .i64 n] w fun e w' => (∃ v es, e = .returned (.agg #[v, .slice none 0 0]) ∧ es.map El.ct = List.replicate n (0, Z256) ∧ RawO w' w.heap.size v (.slice none 0 0) es []) ∧ Below w.heap.size w w' := by
  have HZ : Hid (Z256.length = 256 ∧ Z256 = List.replicate 256 0) := ⟨Z256_len, rfl⟩
  have HRN : Hid (∀ es : List El, es.map El.ct = List.replicate n (0, Z256) → ∀ e ∈ es, rE false e) := fun es h => rE_new h
  generalize Z256 = Z at *
  go_enter Try.func39, Try.ntmps39
  go_wp2
  go_loopw [4] (fun i wr => ∃ (k : Nat) (v : Value) (es : List El), k ≤ n ∧ i = .int .i64 k ∧ NewS Z w wr (w.heap.size + 1) k v es ∧ Box2 wr w.heap.size (.slice none 0 0) (.slice none 0 0)) (fun i _ => n - (intOf i).toNat)
  case atStart =>
    refine ⟨0, .slice none 0 0, [], Nat.zero_le _, rfl, ⟨((Below.refl _ _).alloc (Nat.le_refl _) _).alloc (by simp) _, by omega, by simp, OVr.nil _ _ _, Deep.nil _ _, rfl, ?_⟩, (Box2.new _ _ _ _).alloc _⟩
    have h9 := Box2.new (w.alloc (Obj.cells #[Value.slice none 0 0, Value.slice none 0 0] 26)) (.slice none 0 0) (.slice none 0 0) 26
    simpa using h9
  case round =>
    obtain ⟨k, v, es, hk, rfl, hs, hbx⟩ := hrel
    have HS : Hid (NewS Z w wr (w.heap.size + 1) k v es) := hs
    have HBX : Hid (Box2 wr w.heap.size (.slice none 0 0) (.slice none 0 0)) := hbx
    obtain ⟨c0, c1, f0, f1, hl⟩ := hs.box
    obtain ⟨d0, d1, e0, e1, hl0⟩ := hbx
    obtain ⟨sa, sc, hv⟩ := hs.row.form
    have hlen := hs.len
    by_cases hlt : k < n
    · subst hv
      clear hs
      have hk1 : es.length ≤ 24 := by omega
      have HLE : Hid (es.length = k ∧ True) := ⟨hlen, trivial⟩
      clear hlen
      go_wp2
      obtain ⟨w2, hmk, ho2, hb2'⟩ := run_make_byt wr.drew 256 (by omega) Z HZ.out.2
      have hb2 : Below wr.heap.size wr w2 := Below.drewS hb2'
      have hmk2 : Sem.run Try.prog (Instr.makeSlice 22 (.int .i64 256) (.int .i64 256)) wr.drew = .ok (.slice (some ⟨wr.heap.size, 0, none⟩) 256 256) w2 := hmk
      have c2 := keep hb2 hl c0
      have hl2 : w.heap.size + 1 < w2.heap.size := by have := hb2.size; omega
      have HO2 : Hid (Own w2 wr.heap.size wr.heap.size 256 Z ∧ Below wr.heap.size wr w2) := ⟨ho2, hb2⟩
      clear hmk ho2 hb2 hb2'
      go_region_law (refine wanted_step rfl (wp_append_el false (.tmp 11) (.tmp 13) rfl (w.heap.size + 1 + 1) (.slice sa es.length sc) es (by simp [Act.eval]) (HS.out.row.below (HO2.out.2.trans (((Below.refl _ _).alloc (Nat.le_refl _) _).mono HO2.out.2.size))) w2.heap.size 1 ⟨0, some ⟨wr.heap.size, 0, none⟩, 256, Z⟩ (by simp [Act.eval]) (newsS w2 _ 256 256 22 _ rfl HZ.out.1 rfl) (by omega) (by simp; omega) ?_); intro v3 w3 hov3 hg3; have HM : Hid _ := HS.out.more HO2.out.2 HO2.out.1 hov3 hg3; obtain ⟨sa3, sc3, rfl⟩ := hov3.form; have c3 := keep HM.out.2 (by omega) c0; have g3 := (HM.out.2.frozen (p := ⟨w.heap.size + 1, 0, none⟩) (by simp)).trans f0; have hl3 : w.heap.size + 1 < w3.heap.size := (by have := HM.out.2.size; omega); clear hov3 hg3)
      all_goals
        have HM2 : Hid (NewS Z w (w3.setCell ⟨w.heap.size + 1, 0, none⟩ (.slice sa3 (es.length + 1) sc3)) (w.heap.size + 1) (k + 1) (.slice sa3 (es.length + 1) sc3) (es ++ [⟨0, some ⟨wr.heap.size, 0, none⟩, 256, Z⟩])) := by
          have := HM.out.1
          rw [List.length_append] at this
          exact this
        have HB2 : Hid (Box2 (w3.setCell ⟨w.heap.size + 1, 0, none⟩ (.slice sa3 (es.length + 1) sc3)) w.heap.size (.slice none 0 0) (.slice none 0 0)) := (HBX.out.keep HM.out.2 (by omega)).other (by simp) _
        clear HM c3 g3 c2 hmk2 HO2 c0 c1 f0 f1 d0 d1 e0 e1
        go_wp2
        go_roundw
        case rel => exact ⟨k + 1, _, _, by omega, by go_num, HM2.out, HB2.out⟩
        case measure => simp [intOf]; omega
    · have hkn : k = n := by omega
      subst hkn
      subst hv
      clear hlen
      have hon : Only (fun b => b = w.heap.size) wr ((wr.setCell ⟨w.heap.size, 0, none⟩ (.slice sa es.length sc)).setCell ⟨w.heap.size, 1, none⟩ (.slice none 0 0)) := ((Only.refl (fun b => b = w.heap.size) wr).setCell (p := ⟨w.heap.size, 0, none⟩) (.inl rfl) _).setCell (p := ⟨w.heap.size, 1, none⟩) (.inl rfl) _
      have hr : RawO wr (w.heap.size + 1 + 1) (.slice sa es.length sc) (.slice none 0 0) es [] := ⟨hs.row, OVr.nil _ _ _, by rw [List.append_nil]; exact hs.deep, HRN.out es hs.ct, by simp⟩
      have HR : Hid (RawO ((wr.setCell ⟨w.heap.size, 0, none⟩ (.slice sa es.length sc)).setCell ⟨w.heap.size, 1, none⟩ (.slice none 0 0)) w.heap.size (.slice sa es.length sc) (.slice none 0 0) es []) := (hr.stay hon (fun b hb e => by have := (hr.inside b hb).1; omega)).weak (by omega)
      have HBE : Hid (Below w.heap.size w ((wr.setCell ⟨w.heap.size, 0, none⟩ (.slice sa es.length sc)).setCell ⟨w.heap.size, 1, none⟩ (.slice none 0 0))) := (hs.bel.setCell (p := ⟨w.heap.size, 0, none⟩) (Nat.le_refl _) _).setCell (p := ⟨w.heap.size, 1, none⟩) (Nat.le_refl _) _
      clear hs hon hr
      go_wp2
      exact bodyPost_ret (v := .agg #[.slice sa es.length sc, .slice none 0 0]) (by simp [results, Try.results39, go_sem, d0, d1]) rfl ⟨⟨_, es, rfl, HS.out.ct, HR.out⟩, HBE.out⟩

/-- How many sectors RawNew makes, and whether it does. -/
def newN (n : Int) : Nat := if 1 ≤ n ∧ n ≤ 24 then n.toNat else 0
def newB (n : Int) : Bool := decide (1 ≤ n ∧ n ≤ 24)
theorem newN_yes (n : Nat) (h : 1 ≤ n) (h2 : n ≤ 24) : newN n = n ∧ newB n = true := by
  unfold newN newB
  rw [if_pos (by omega), decide_eq_true (by omega)]
  exact ⟨by omega, rfl⟩
theorem newN_no (n : Int) (h : ¬ (1 ≤ n ∧ n ≤ 24)) : newN n = 0 ∧ newB n = false := by
  unfold newN newB
  rw [if_neg h, decide_eq_false h]
  exact ⟨rfl, rfl⟩

set_option maxRecDepth 20000 in
set_option maxHeartbeats 2000000 in
theorem implRawNew_any (n : Int) (w : World) :
    Calls Try.prog 7 #[.int .i64 n] w fun e w' => (∃ v es, e = .returned (.tuple #[.agg #[v, .slice none 0 0], .bool (newB n)]) ∧ es.map El.ct = List.replicate (newN n) (0, Z256) ∧ RawO w' w.heap.size v (.slice none 0 0) es []) ∧ Below w.heap.size w w' := by
  by_cases h : 1 ≤ n ∧ n ≤ 24
  · obtain ⟨n, rfl⟩ := Int.eq_ofNat_of_zero_le (show 0 ≤ n by omega)
    have h1 : 1 ≤ n := by omega
    have hn : n ≤ 24 := by omega
    rw [(newN_yes n h1 hn).1, (newN_yes n h1 hn).2]
    clear h
    have HZ : Hid (Z256.length = 256 ∧ Z256 = List.replicate 256 0) := ⟨Z256_len, rfl⟩
    have HRN : Hid (∀ es : List El, es.map El.ct = List.replicate n (0, Z256) → ∀ e ∈ es, rE false e) := fun es h => rE_new h
    generalize Z256 = Z at *
    go_enter Try.func7, Try.ntmps7
    go_wp2
    go_loopw [13] (fun i wr => ∃ (k : Nat) (v : Value) (es : List El), k ≤ n ∧ i = .int .i64 k ∧ NewS Z w wr (w.heap.size + 1) k v es ∧ Box2 wr w.heap.size (.slice none 0 0) (.slice none 0 0)) (fun i _ => n - (intOf i).toNat)
    case atStart =>
      refine ⟨0, .slice none 0 0, [], Nat.zero_le _, rfl, ⟨((Below.refl _ _).alloc (Nat.le_refl _) _).alloc (by simp) _, by omega, by simp, OVr.nil _ _ _, Deep.nil _ _, rfl, ?_⟩, (Box2.new _ _ _ _).alloc _⟩
      have h9 := Box2.new (w.alloc (Obj.cells #[Value.slice none 0 0, Value.slice none 0 0] 26)) (.slice none 0 0) (.slice none 0 0) 26
      simpa using h9
    case round =>
      obtain ⟨k, v, es, hk, rfl, hs, hbx⟩ := hrel
      have HS : Hid (NewS Z w wr (w.heap.size + 1) k v es) := hs
      have HBX : Hid (Box2 wr w.heap.size (.slice none 0 0) (.slice none 0 0)) := hbx
      obtain ⟨c0, c1, f0, f1, hl⟩ := hs.box
      obtain ⟨d0, d1, e0, e1, hl0⟩ := hbx
      obtain ⟨sa, sc, hv⟩ := hs.row.form
      have hlen := hs.len
      by_cases hlt : k < n
      · subst hv
        clear hs
        have hk1 : es.length ≤ 24 := by omega
        have HLE : Hid (es.length = k ∧ True) := ⟨hlen, trivial⟩
        clear hlen
        go_wp2
        obtain ⟨w2, hmk, ho2, hb2'⟩ := run_make_byt wr.drew 256 (by omega) Z HZ.out.2
        have hb2 : Below wr.heap.size wr w2 := Below.drewS hb2'
        have hmk2 : Sem.run Try.prog (Instr.makeSlice 22 (.int .i64 256) (.int .i64 256)) wr.drew = .ok (.slice (some ⟨wr.heap.size, 0, none⟩) 256 256) w2 := hmk
        have c2 := keep hb2 hl c0
        have hl2 : w.heap.size + 1 < w2.heap.size := by have := hb2.size; omega
        have HO2 : Hid (Own w2 wr.heap.size wr.heap.size 256 Z ∧ Below wr.heap.size wr w2) := ⟨ho2, hb2⟩
        clear hmk ho2 hb2 hb2'
        go_region_law (refine wanted_step rfl (wp_append_el false (.tmp 16) (.tmp 18) rfl (w.heap.size + 1 + 1) (.slice sa es.length sc) es (by simp [Act.eval]) (HS.out.row.below (HO2.out.2.trans (((Below.refl _ _).alloc (Nat.le_refl _) _).mono HO2.out.2.size))) w2.heap.size 1 ⟨0, some ⟨wr.heap.size, 0, none⟩, 256, Z⟩ (by simp [Act.eval]) (newsS w2 _ 256 256 22 _ rfl HZ.out.1 rfl) (by omega) (by simp; omega) ?_); intro v3 w3 hov3 hg3; have HM : Hid _ := HS.out.more HO2.out.2 HO2.out.1 hov3 hg3; obtain ⟨sa3, sc3, rfl⟩ := hov3.form; have c3 := keep HM.out.2 (by omega) c0; have g3 := (HM.out.2.frozen (p := ⟨w.heap.size + 1, 0, none⟩) (by simp)).trans f0; have hl3 : w.heap.size + 1 < w3.heap.size := (by have := HM.out.2.size; omega); clear hov3 hg3)
        all_goals
          have HM2 : Hid (NewS Z w (w3.setCell ⟨w.heap.size + 1, 0, none⟩ (.slice sa3 (es.length + 1) sc3)) (w.heap.size + 1) (k + 1) (.slice sa3 (es.length + 1) sc3) (es ++ [⟨0, some ⟨wr.heap.size, 0, none⟩, 256, Z⟩])) := by
            have := HM.out.1
            rw [List.length_append] at this
            exact this
          have HB2 : Hid (Box2 (w3.setCell ⟨w.heap.size + 1, 0, none⟩ (.slice sa3 (es.length + 1) sc3)) w.heap.size (.slice none 0 0) (.slice none 0 0)) := (HBX.out.keep HM.out.2 (by omega)).other (by simp) _
          clear HM c3 g3 c2 hmk2 HO2 c0 c1 f0 f1 d0 d1 e0 e1
          go_wp2
          go_roundw
          case rel => exact ⟨k + 1, _, _, by omega, by go_num, HM2.out, HB2.out⟩
          case measure => simp [intOf]; omega
      · have hkn : k = n := by omega
        subst hkn
        subst hv
        clear hlen
        have hon : Only (fun b => b = w.heap.size) wr ((wr.setCell ⟨w.heap.size, 0, none⟩ (.slice sa es.length sc)).setCell ⟨w.heap.size, 1, none⟩ (.slice none 0 0)) := ((Only.refl (fun b => b = w.heap.size) wr).setCell (p := ⟨w.heap.size, 0, none⟩) (.inl rfl) _).setCell (p := ⟨w.heap.size, 1, none⟩) (.inl rfl) _
        have hr : RawO wr (w.heap.size + 1 + 1) (.slice sa es.length sc) (.slice none 0 0) es [] := ⟨hs.row, OVr.nil _ _ _, by rw [List.append_nil]; exact hs.deep, HRN.out es hs.ct, by simp⟩
        have HR : Hid (RawO ((wr.setCell ⟨w.heap.size, 0, none⟩ (.slice sa es.length sc)).setCell ⟨w.heap.size, 1, none⟩ (.slice none 0 0)) w.heap.size (.slice sa es.length sc) (.slice none 0 0) es []) := (hr.stay hon (fun b hb e => by have := (hr.inside b hb).1; omega)).weak (by omega)
        have HBE : Hid (Below w.heap.size w ((wr.setCell ⟨w.heap.size, 0, none⟩ (.slice sa es.length sc)).setCell ⟨w.heap.size, 1, none⟩ (.slice none 0 0))) := (hs.bel.setCell (p := ⟨w.heap.size, 0, none⟩) (Nat.le_refl _) _).setCell (p := ⟨w.heap.size, 1, none⟩) (Nat.le_refl _) _
        clear hs hon hr
        go_wp2
        exact bodyPost_ret (v := .tuple #[.agg #[.slice sa es.length sc, .slice none 0 0], .bool true]) (by simp [results, Try.results7, go_sem, d0, d1]) rfl ⟨⟨_, es, rfl, HS.out.ct, HR.out⟩, HBE.out⟩
  · rw [(newN_no n h).1, (newN_no n h).2]
    have key : n < 1 ∨ (1 ≤ n ∧ 24 < n) := by omega
    have HW : Hid (Below w.heap.size w (w.alloc (Obj.cells #[Value.slice none 0 0, Value.slice none 0 0] 26))) := (Below.refl _ _).alloc (Nat.le_refl _) _
    clear h
    rcases key with h | ⟨h, h2⟩
    all_goals
      go_enter Try.func7, Try.ntmps7
      go_wp2
      exact bodyPost_ret (v := .tuple #[.agg #[.slice none 0 0, .slice none 0 0], .bool false]) (by simp [results, Try.results7, go_sem]) rfl ⟨⟨_, [], rfl, rfl, ⟨OVr.nil _ _ _, OVr.nil _ _ _, Deep.nil _ _, by simp, by simp⟩⟩, HW.out⟩
end Go.Proofs.Ytpedfcknmeeknaa
