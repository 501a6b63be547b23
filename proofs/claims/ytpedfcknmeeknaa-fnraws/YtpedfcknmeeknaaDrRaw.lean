/-
  A device that is drawn.
-/
import Derived.Test.YtpedfcknmeeknaaDrSec
import Derived.Test.YtpedfcknmeeknaaNewW
import Derived.Test.YtpedfcknmeeknaaSetlS
namespace Go.Proofs.Ytpedfcknmeeknaa
open Go.RowKit
set_option linter.unusedVariables false
set_option linter.unusedSimpArgs false

/-- A step that turns only what was not there. -/
theorem Only.trans' {S T : Nat → Prop} {a b c : World} (h : Only S a b) (k : Only T b c) (hT : ∀ i, T i → a.heap.size ≤ i) : Only S a c :=
  ⟨k.os.trans h.os, k.tape.trans h.tape, k.output.trans h.output, Nat.le_trans h.size k.size, fun i hi hs => (k.block i (Nat.lt_of_lt_of_le hi h.size) (fun ht => by have := hT i ht; omega)).trans (h.block i hi hs)⟩
section
variable {w W W' w3 : World} {B X : Nat} {v u v' : Value} {es fs : List El} {e : El} {ob : Obj}
/-- Something else has turned. -/
theorem CopB.cur {S : Nat → Prop} (h : CopB w W B X v u es fs) (ho : Only S W W') (hs : ∀ k, B ≤ k → ¬ S k) (hX : ¬ S X) (hw : ∀ k, S k → w.heap.size ≤ k) : CopB w W' B X v u es fs :=
  ⟨h.bel.trans (ho.below h.bel.size hw), h.hB, h.hX, h.own.stay ho (fun k hk => hs k (h.own.inside k hk).1), h.box.only ho hX, h.nx⟩
theorem CopB.moreU (h : CopB w W B X v u es fs) (U : Nat) (hBU : B ≤ U) (hXU : X < U) (hin : ∀ x ∈ es ++ fs, ∀ k, rowOf x.a k → k < U) (hm : Mine W U W.heap.size e.a e.c e.ls) (hr : rE true e) (hov : OVr true w3 B v' (fs ++ [e])) (hg : (W.alloc ob).grownBy w3 u.ownBlock) (hat : v'.ownBlock = u.ownBlock ∨ v'.ownBlock = some (W.alloc ob).heap.size) :
    CopB w (w3.setCell ⟨X, 1, none⟩ v') B X v v' es (fs ++ [e]) ∧ Box2 w3 X v u ∧ Only (fun k => u.ownBlock = some k) W w3 := by
  have hba : Below W.heap.size W (W.alloc ob) := (Below.refl _ _).alloc (Nat.le_refl _) _
  have hlt := h.box.lt
  have hr2 := h.own.rp.below hba
  have hd2 : Deep (W.alloc ob) B ((es ++ fs) ++ [e]) := (h.own.deep.snoc (U := U) hm hin hBU).below hba
  rw [List.append_assoc] at hd2
  have hd3 := hd2.grown hr2 hg
  have hxu : ¬ u.ownBlock = some X := fun he => h.nx X (.inr (.inl he)) rfl
  have hbx : Box2 w3 X v u := (h.box.keep hba h.box.lt).only (Only.ofGrown hg) hxu
  have hp3 : OVr false w3 B v es := (h.own.rs.below hba).stay (Only.ofGrown hg) (fun k hk e => (h.own.rs.below hba).two hr2 hk e)
  have hon : Only (fun b => b = X) w3 (w3.setCell ⟨X, 1, none⟩ v') := (Only.refl (fun b => b = X) w3).setCell (p := ⟨X, 1, none⟩) (.inl rfl) _
  have hxv : ∀ k, blkR v v' es (fs ++ [e]) k → k ≠ X := by
    rintro k (hk | hk | ⟨x, hx, hk⟩)
    · exact h.nx k (.inl hk)
    · rcases hat with h1 | h1
      · exact h.nx k (.inr (.inl (h1.symm.trans hk)))
      · rw [hk] at h1
        simp at h1
        omega
    · rcases List.mem_append.1 hx with hx | hx
      · exact h.nx k (.inr (.inr ⟨x, List.mem_append_left _ hx, hk⟩))
      · rcases List.mem_append.1 hx with hx | hx
        · exact h.nx k (.inr (.inr ⟨x, List.mem_append_right _ hx, hk⟩))
        · simp at hx
          subst hx
          have := (hm.rowE hk).1
          omega
  have hown : RawO w3 B v v' es (fs ++ [e]) := ⟨hp3, hov, hd3, h.own.rng.1, rE_snoc h.own.rng.2 hr⟩
  have hbel : Below w.heap.size W w3 := ((hba.mono h.bel.size).grown hg (by have := h.bel.size; have := hba.size; omega) (fun k hk => by have := (h.own.rp.blk hk).1; have := h.hB; omega))
  refine ⟨⟨(h.bel.trans hbel).setCell (p := ⟨X, 1, none⟩) h.hX _, h.hB, h.hX, hown.stay hon (fun k hk e => hxv k hk e), hbx.set1 _, hxv⟩, hbx, (Only.alloc (Only.refl _ _) _).trans (Only.ofGrown hg)⟩
end
theorem Rok.more {es fs : List El} {e : El} (h : Rok es fs) (h1 : fs.length < 60) (h2 : 0 ≤ e.n) (h3 : e.n < (es.length : Int)) (h4 : e.ls.length = 256) : Rok es (fs ++ [e]) := by
  refine ⟨h.1, h.2.1, by simp; omega, h.2.2.2.1, fun k hk => ?_⟩
  rw [List.length_append, List.length_singleton] at hk
  by_cases hkf : k < fs.length
  · rw [show (fs ++ [e]).getD k de = fs.getD k de from by simp [List.getD_eq_getElem?_getD, List.getElem?_append_left hkf]]
    exact h.2.2.2.2 k hkf
  · rw [show (fs ++ [e]).getD k de = e from by rw [show k = fs.length from by omega]; simp [List.getD_eq_getElem?_getD]]
    exact ⟨h2, h3, h4⟩
theorem Rok.settled {es fs ts : List El} {f : Nat → Bool} (h : Rok es fs) (hc : ts.map El.ct = (setl es fs f fs.length).map El.ct) : Rok ts [] ∧ ts.length = es.length := by
  have hl : ts.length = es.length := by rw [len_ctE hc, setl_len]
  have h1 := h.1
  have h2 := h.2.1
  have hls := len_of_ct hc (setl_lens h.lens.1 (fun k hk => h.lens.2 _ (getD_memE hk)) f _ (Nat.le_refl _))
  exact ⟨⟨by omega, by omega, by simp, fun k hk => hls _ (getD_memE hk), by simp⟩, hl⟩
theorem Rok.new {es : List El} {n : Nat} (hc : es.map El.ct = List.replicate n (0, Z256)) (h1 : 1 ≤ n) (h2 : n ≤ 24) : Rok es [] ∧ es.length = n := by
  have hl : es.length = n := by have := congrArg List.length hc; simpa using this
  refine ⟨⟨by omega, by omega, by simp, fun k hk => ?_, by simp⟩, hl⟩
  have h3 : (es.getD k de).ct ∈ es.map El.ct := List.mem_map.2 ⟨_, getD_memE hk, rfl⟩
  rw [hc] at h3
  have h4 := (List.mem_replicate.1 h3).2
  simp only [El.ct, Prod.mk.injEq] at h4
  rw [h4.2, Z256_len]

/-- What l6draw has behind some rounds. -/
structure DrD (w0 w W : World) (B R X : Nat) (a : Option Addr) (bs : List Int) (cap : Nat) (v u : Value) (es fs : List El) : Prop where
  dev : CopB w0 W (w.heap.size + 1) X v u es fs
  dr : Dr w0 W B R a bs cap
  only : Only (fun k => k = R) w W
  res : Box2 W w.heap.size (.slice none 0 0) (.slice none 0 0)
  ok : Rok es fs
  hX : w.heap.size < X
theorem DrD.cur {w0 w W W' : World} {B R X : Nat} {a : Option Addr} {bs : List Int} {cap : Nat} {v u : Value} {es fs : List El} (h : DrD w0 w W B R X a bs cap v u es fs) (hR : R < w.heap.size) (hd : Dr w0 W' B R a bs cap) (ho : Only (fun k => k = R) W W') : DrD w0 w W' B R X a bs cap v u es fs :=
  ⟨h.dev.cur ho (fun k hk e => by omega) (by have := h.hX; omega) (fun k hk => by have := h.dr.cur.lt.1; have := h.dr.hB; omega), hd, h.only.trans ho, h.res.only ho (by omega), h.ok, h.hX⟩

/-- Another device is laid into the variable. -/
theorem DrD.swap {w0 w W W2 : World} {B R X U : Nat} {a : Option Addr} {bs : List Int} {cap : Nat} {v u v2 u2 : Value} {es fs ts : List El} (h : DrD w0 w W B R X a bs cap v u es fs) (hR : R < w.heap.size) (hb : Below W.heap.size W W2) (hr : RawO W2 U v2 u2 ts []) (hU : W.heap.size ≤ U) (hok : Rok ts []) :
    DrD w0 w ((W2.setCell ⟨X, 0, none⟩ v2).setCell ⟨X, 1, none⟩ u2) B R X a bs cap v2 u2 ts [] := by
  have hXl := h.dev.box.lt
  have hX := h.hX
  have hX0 := h.dev.hX
  have hws := h.res.lt
  have hon : Only (fun b => b = X) W2 ((W2.setCell ⟨X, 0, none⟩ v2).setCell ⟨X, 1, none⟩ u2) := ((Only.refl (fun b => b = X) W2).setCell (p := ⟨X, 0, none⟩) (.inl rfl) _).setCell (p := ⟨X, 1, none⟩) (.inl rfl) _
  have hin : ∀ k, blkR v2 u2 ts [] k → k ≠ X := fun k hk e => by have := (hr.inside k hk).1; omega
  have hlt := h.dr.cur.lt
  have hB := h.dr.hB
  have hd2 : Dr w0 W2 B R a bs cap := h.dr.other (S := fun _ => False) (Only.ofBelow hb (Nat.le_refl _)) (by simp) (by simp)
  exact ⟨⟨((h.dev.bel.trans (hb.mono h.dev.bel.size)).setCell (p := ⟨X, 0, none⟩) hX0 _).setCell (p := ⟨X, 1, none⟩) hX0 _, h.dev.hB, h.dev.hX, (hr.stay hon (fun k hk e => hin k hk e)).weak (by omega), ((h.dev.box.keep hb hXl).set0 _).set1 _, hin⟩, hd2.other hon (by omega) (fun k hk => by omega), (h.only.trans (Only.ofBelow hb (Nat.le_refl _))).trans' hon (fun k hk => by omega), (h.res.keep hb hws).only hon (by omega), hok, hX⟩

set_option maxRecDepth 20000 in
set_option maxHeartbeats 8000000 in
theorem Dr.draw6 {w0 w : World} {B R : Nat} {a : Option Addr} {bs : List Int} {cap : Nat} (h : Dr w0 w B R a bs cap) :
    Calls Try.prog 33 #[.pointer (some ⟨R, 0, none⟩)] w fun e w' => (∃ (v u : Value) (es fs : List El), e = .returned (.agg #[v, u]) ∧ RawO w' w.heap.size v u es fs ∧ Rok es fs ∧ es.length ≤ 5 ∧ fs.length ≤ 6) ∧ Dr w0 w' B R a bs cap ∧ Only (fun k => k = R) w w' := by
  have hRl := h.cur.lt
  have HRB : Hid (B ≤ R ∧ R < w.heap.size ∧ w0.heap.size = B) := ⟨hRl.1, hRl.2, h.hB⟩
  have hal : Below w.heap.size w (w.alloc (Obj.cells #[Value.slice none 0 0, Value.slice none 0 0] 26)) := (Below.refl _ _).alloc (Nat.le_refl _) _
  have HD0 : Hid (Dr w0 (w.alloc (Obj.cells #[Value.slice none 0 0, Value.slice none 0 0] 26)) B R a bs cap ∧ Box2 (w.alloc (Obj.cells #[Value.slice none 0 0, Value.slice none 0 0] 26)) w.heap.size (.slice none 0 0) (.slice none 0 0) ∧ Only (fun k => k = R) w (w.alloc (Obj.cells #[Value.slice none 0 0, Value.slice none 0 0] 26))) := ⟨h.other (S := fun _ => False) (Only.ofBelow hal (Nat.le_refl _)) (by simp) (by simp), Box2.new _ _ _ _, Only.ofBelow hal (Nat.le_refl _)⟩
  clear h hal
  go_enter Try.func33, Try.ntmps33
  go_wp2_with fail
  refine (HD0.out.1.below 5 (by omega) (by omega)).mono ?_
  rintro e w2 ⟨⟨x, hx0, hx5, rfl⟩, hd2, ho2⟩
  obtain ⟨x, rfl⟩ := Int.eq_ofNat_of_zero_le hx0
  have HD2 : Hid (Dr w0 w2 B R a bs cap ∧ Box2 w2 w.heap.size (.slice none 0 0) (.slice none 0 0) ∧ Only (fun k => k = R) w w2) := ⟨hd2, HD0.out.2.1.only ho2 (by omega), HD0.out.2.2.trans ho2⟩
  clear hd2 ho2 HD0
  have HNW := l6new_any (x + 1) w2 (by omega)
  have hx1 : ((x + 1 : Nat) : Int) = 1 + (x : Int) := by omega
  rw [hx1] at HNW
  clear hx1
  go_wp2_with fail
  refine HNW.mono ?_
  clear HNW
  rintro e w3 ⟨⟨v, es, rfl, hct, hro⟩, hb3⟩
  have hba : Below w3.heap.size w3 (w3.alloc (Obj.cells #[v, .slice none 0 0] 26)) := (Below.refl _ _).alloc (Nat.le_refl _) _
  have hb24 : Below w2.heap.size w2 (w3.alloc (Obj.cells #[v, .slice none 0 0] 26)) := hb3.trans (hba.mono hb3.size)
  have hok := Rok.new hct (by omega) (by omega)
  have hon24 : Only (fun k => k = R) w2 (w3.alloc (Obj.cells #[v, .slice none 0 0] 26)) := Only.ofBelow hb24 (Nat.le_refl _)
  have hl2 := HD2.out.2.1.lt
  have hs23 := hb3.size
  have hd4 : Dr w0 (w3.alloc (Obj.cells #[v, .slice none 0 0] 26)) B R a bs cap := HD2.out.1.other (S := fun _ => False) (Only.ofBelow hb24 (Nat.le_refl _)) (by simp) (by simp)
  have HS4 : Hid (DrD w0 w (w3.alloc (Obj.cells #[v, .slice none 0 0] 26)) B R w3.heap.size a bs cap v (.slice none 0 0) es [] ∧ es.length = x + 1) := by
    have hr := HRB.out
    refine ⟨⟨⟨?_, by omega, by omega, (hro.below hba).weak (by omega), Box2.new _ _ _ _, fun k hk e => by have := (hro.inside k hk).2; omega⟩, hd4, HD2.out.2.2.trans hon24, HD2.out.2.1.keep hb24 HD2.out.2.1.lt, hok.1, by omega⟩, hok.2⟩
    have h9 := hd4.bel
    rw [← hr.2.2] at h9
    exact h9
  obtain ⟨va, vc, ua, uc, rfl, hu⟩ := hro.form
  clear hu hct hro hb3 hba hb24 hok hon24 hl2 hd4 HD2
  go_wp2_with fail
  generalize w3.alloc (Obj.cells #[.slice va es.length vc, .slice none 0 0] 26) = w4 at *
  generalize w3.heap.size = X at *
  refine (HS4.out.1.dr.below 7 (by omega) (by omega)).mono ?_
  rintro e w5 ⟨⟨n, hn0, hn7, rfl⟩, hd5, ho5⟩
  obtain ⟨n, rfl⟩ := Int.eq_ofNat_of_zero_le hn0
  have HS5 : Hid (DrD w0 w w5 B R X a bs cap (.slice va es.length vc) (.slice none 0 0) es [] ∧ es.length = x + 1) := ⟨HS4.out.1.cur HRB.out.2.1 hd5 ho5, HS4.out.2⟩
  clear hd5 ho5 HS4
  go_wp2
  go_loopw [5] (fun i wr => ∃ (k : Nat) (v u : Value) (ts fs : List El), k ≤ n ∧ i = .int .i64 k ∧ DrD w0 w wr B R X a bs cap v u ts fs ∧ ts.length ≤ 5 ∧ fs.length ≤ k) (fun i _ => n - (intOf i).toNat)
  case atStart => exact ⟨0, _, _, es, [], Nat.zero_le _, rfl, HS5.out.1, by have := HS5.out.2; omega, by simp⟩
  case round =>
    clear HS5
    obtain ⟨k, v, u, ts, fs, hk, rfl, hdd, hts5, hfsk⟩ := hrel
    obtain ⟨va, vc, ua, uc, rfl, rfl⟩ := hdd.dev.own.form
    have HS : Hid (DrD w0 w wr B R X a bs cap (.slice va ts.length vc) (.slice ua fs.length uc) ts fs ∧ fs.length ≤ k) := ⟨hdd, hfsk⟩
    have hts1 := hdd.ok.1
    clear hdd hfsk
    by_cases hlt : k < n
    · obtain ⟨c0, c1, f0, f1, hl⟩ := HS.out.1.dev.box
      go_wp2
      have HS1 := HS
      refine wp_region_cut (S := fun W => W.cell? ⟨X, 1, none⟩ = some (.slice ua fs.length uc) ∧ W.cell? ⟨X, 0, none⟩ = some (.slice va ts.length vc)) 12 (by kernel_rfl) (by kernel_rfl) (by exact ⟨c1, c0⟩) (fun hHeld => ?_)
      refine wpAnyH_take (i := 0) (v := ?_) rfl (by kernel_rfl) (by kernel_rfl) (by kernel_rfl) (fun _ _ _ h => h) (Or.inl ⟨by rfl, ?_⟩) (by assumption) ?_
      rotate_left 1
      · (intro w hSw; (try dsimp only at hSw); go_simp; try (with_reducible rfl))
      try simp only [List.getElem_toArray, List.getElem_cons_zero, List.getElem_cons_succ, Act.put, List.setIfInBounds_toArray, List.set_cons_zero, List.set_cons_succ]
      refine wpAnyH_take (i := 1) (v := ?_) rfl (by kernel_rfl) (by kernel_rfl) (by kernel_rfl) (fun _ _ _ h => h) (Or.inl ⟨by rfl, ?_⟩) (by assumption) ?_
      rotate_left 1
      · (intro w hSw; (try dsimp only at hSw); go_simp; try (with_reducible rfl))
      try simp only [List.getElem_toArray, List.getElem_cons_zero, List.getElem_cons_succ, Act.put, List.setIfInBounds_toArray, List.set_cons_zero, List.set_cons_succ]
      refine wpAnyH_take (i := 2) (v := ?_) rfl (by kernel_rfl) (by kernel_rfl) (by kernel_rfl) (fun _ _ _ h => h) (Or.inl ⟨by rfl, ?_⟩) (by assumption) ?_
      rotate_left 1
      · (intro w hSw; (try dsimp only at hSw); go_simp; try (with_reducible rfl))
      try simp only [List.getElem_toArray, List.getElem_cons_zero, List.getElem_cons_succ, Act.put, List.setIfInBounds_toArray, List.set_cons_zero, List.set_cons_succ]
      refine wpAnyH_take (i := 3) (v := ?_) rfl (by kernel_rfl) (by kernel_rfl) (by kernel_rfl) (fun _ _ _ h => h) (Or.inl ⟨by rfl, ?_⟩) (by assumption) ?_
      rotate_left 1
      · (intro w hSw; (try dsimp only at hSw); go_simp; try (with_reducible rfl))
      try simp only [List.getElem_toArray, List.getElem_cons_zero, List.getElem_cons_succ, Act.put, List.setIfInBounds_toArray, List.set_cons_zero, List.set_cons_succ]
      refine wpAnyH_take (i := 4) (v := ?_) rfl (by kernel_rfl) (by kernel_rfl) (by kernel_rfl) (fun _ _ _ h => h) (Or.inl ⟨by rfl, ?_⟩) (by assumption) ?_
      rotate_left 1
      · (intro w hSw; (try dsimp only at hSw); go_simp; try (with_reducible rfl))
      try simp only [List.getElem_toArray, List.getElem_cons_zero, List.getElem_cons_succ, Act.put, List.setIfInBounds_toArray, List.set_cons_zero, List.set_cons_succ]
      refine wpAnyH_take (i := 5) (v := ?_) rfl (by kernel_rfl) (by kernel_rfl) (by kernel_rfl) (fun _ _ _ h => h) (Or.inl ⟨by rfl, ?_⟩) (by assumption) ?_
      rotate_left 1
      · (intro w hSw; (try dsimp only at hSw); go_simp; try (with_reducible rfl))
      try simp only [List.getElem_toArray, List.getElem_cons_zero, List.getElem_cons_succ, Act.put, List.setIfInBounds_toArray, List.set_cons_zero, List.set_cons_succ]
      refine wpAnyH_take (i := 7) (v := ?_) rfl (by kernel_rfl) (by kernel_rfl) (by kernel_rfl) (fun _ _ _ h => h) (Or.inl ⟨by rfl, ?_⟩) (by assumption) ?_
      rotate_left 1
      · (intro w hSw; (try dsimp only at hSw); go_simp; try (with_reducible rfl))
      try simp only [List.getElem_toArray, List.getElem_cons_zero, List.getElem_cons_succ, Act.put, List.setIfInBounds_toArray, List.set_cons_zero, List.set_cons_succ]
      refine wpAnyH_ready (rs := [6]) (by kernel_rfl) (by simp) ?_
      refine AllReadyH.cons rfl (fun K hK => ?_) AllReadyH.nil
      go_simp
      have HDW : Hid (DrD w0 w wr.drew B R X a bs cap (.slice va ts.length vc) (.slice ua fs.length uc) ts fs ∧ wr.heap.size = wr.drew.heap.size) := ⟨HS.out.1.cur HRB.out.2.1 (HS.out.1.dr.other (S := fun _ => False) (Only.drew (Only.refl _ _)) (by simp) (by simp)) (Only.drew (Only.refl _ _)), rfl⟩
      refine (HDW.out.1.dr.below (ts.length : Int) (by omega) (by omega)).mono ?_
      rintro e w6 ⟨⟨y, hy0, hy1, rfl⟩, hd6, ho6⟩
      have HS6 : Hid (DrD w0 w w6 B R X a bs cap (.slice va ts.length vc) (.slice ua fs.length uc) ts fs) := HDW.out.1.cur HRB.out.2.1 hd6 ho6
      clear hd6 ho6 HDW HS1
      dsimp only
      refine hK.out _ _ (by exact ⟨HS6.out.dev.box.c1, HS6.out.dev.box.c0⟩) (fun hHeld => ?_)
      clear hK K
      try simp only [List.getElem_toArray, List.getElem_cons_zero, List.getElem_cons_succ, Act.put, List.setIfInBounds_toArray, List.set_cons_zero, List.set_cons_succ]
      refine wpAnyH_ready (rs := [8]) (by kernel_rfl) (by simp) ?_
      refine AllReadyH.cons rfl (fun K hK => ?_) AllReadyH.nil
      go_simp
      refine HS6.out.dr.sector.mono ?_
      rintro e w7 ⟨⟨g, zs, rfl, hzl, how⟩, hd7, ho7⟩
      have HS7 : Hid (DrD w0 w w7 B R X a bs cap (.slice va ts.length vc) (.slice ua fs.length uc) ts fs ∧ Mine w7 w6.heap.size w7.heap.size (some ⟨g, 0, none⟩) 256 zs ∧ zs.length = 256 ∧ (∀ x ∈ ts ++ fs, ∀ k, rowOf x.a k → k < w6.heap.size) ∧ X < w6.heap.size ∧ w.heap.size < w6.heap.size) := ⟨HS6.out.cur HRB.out.2.1 hd7 ho7, how.mine, hzl, fun x hx k hk => HS6.out.dev.own.deep.lt x hx k hk, HS6.out.dev.box.lt, HS6.out.res.lt⟩
      obtain ⟨d0, d1, -, -, dl⟩ := HS7.out.1.dev.box
      clear hd7 ho7 how HS6 hzl
      dsimp only
      refine hK.out _ _ (by exact ⟨d1, d0⟩) (fun hHeld => ?_)
      clear hK K
      try simp only [List.getElem_toArray, List.getElem_cons_zero, List.getElem_cons_succ, Act.put, List.setIfInBounds_toArray, List.set_cons_zero, List.set_cons_succ]
      refine wpAnyH_take (i := 9) (v := ?_) rfl (by kernel_rfl) (by kernel_rfl) (by kernel_rfl) (fun _ _ _ h => h) (Or.inl ⟨by rfl, ?_⟩) (by assumption) ?_
      rotate_left 1
      · (intro w hSw; (try dsimp only at hSw); go_simp; try (with_reducible rfl))
      try simp only [List.getElem_toArray, List.getElem_cons_zero, List.getElem_cons_succ, Act.put, List.setIfInBounds_toArray, List.set_cons_zero, List.set_cons_succ]
      refine wpAnyH_ready (rs := [10]) (by kernel_rfl) (by simp) ?_
      refine AllReadyH.cons rfl (fun K hK => ?_) AllReadyH.nil
      go_simp
      refine hK.out _ _ (by exact ⟨keepA _ dl d1, keepA _ dl d0⟩) (fun hHeld => ?_)
      clear hK K
      try simp only [List.getElem_toArray, List.getElem_cons_zero, List.getElem_cons_succ, Act.put, List.setIfInBounds_toArray, List.set_cons_zero, List.set_cons_succ]
      refine wpAnyH_ready (rs := [11]) (by kernel_rfl) (by simp) ?_
      refine AllReadyH.cons rfl (fun K hK => ?_) AllReadyH.nil
      refine wanted_step rfl (wp_append_el_at true (.tmp 18) (.tmp 27) rfl (w.heap.size + 1) (.slice ua fs.length uc) fs (by simp [Act.eval]) (HS7.out.1.dev.own.rp.below ((Below.refl _ _).alloc (Nat.le_refl _) _)) w7.heap.size 1 ⟨y, some ⟨g, 0, none⟩, 256, zs⟩ (by simp [Act.eval]) (newsP w7 y _ 256 256 44 _ rfl rfl HS7.out.2.2.1 rfl) (by have := HS.out.2; omega) (by have := HS7.out.1.res.lt; simp; omega) ?_)
      intro v8 w8 hov8 hg8 hat8
      have hmo := HS7.out.1.dev.moreU (e := ⟨y, some ⟨g, 0, none⟩, 256, zs⟩) w6.heap.size (by have := HS7.out.2.2.2.2.2; omega) HS7.out.2.2.2.2.1 HS7.out.2.2.2.1 HS7.out.2.1 ⟨by simp only; omega, by simp only; omega, by have := HS7.out.2.2.1; simp only; unfold maxLen; omega, by simp⟩ hov8 hg8 hat8
      obtain ⟨sa8, sc8, hv8⟩ := hov8.form
      have hok9 : Rok ts (fs ++ [(⟨y, some ⟨g, 0, none⟩, 256, zs⟩ : El)]) := HS7.out.1.ok.more (by have := HS.out.2; omega) hy0 hy1 HS7.out.2.2.1
      have hln9 : (fs ++ [(⟨y, some ⟨g, 0, none⟩, 256, zs⟩ : El)]).length ≤ k + 1 := by have := HS.out.2; simp; omega
      generalize fs ++ [(⟨y, some ⟨g, 0, none⟩, 256, zs⟩ : El)] = fs2 at hmo hv8 hok9 hln9 hov8
      subst hv8
      obtain ⟨e0, e1, h0, h1, el⟩ := hmo.2.1
      have HS9 : Hid (DrD w0 w (w8.setCell ⟨X, 1, none⟩ (.slice sa8 fs2.length sc8)) B R X a bs cap (.slice va ts.length vc) (.slice sa8 fs2.length sc8) ts fs2 ∧ fs2.length ≤ k + 1) := by
        have hrl := HRB.out
        have hon8 : Only (fun b => b = X ∨ (Value.slice ua fs.length uc).ownBlock = some b) w7 (w8.setCell ⟨X, 1, none⟩ (.slice sa8 fs2.length sc8)) := (hmo.2.2.mono (fun k _ hk => .inr hk)).setCell (p := ⟨X, 1, none⟩) (.inl (.inl rfl)) _
        have hne : ∀ b, (b = X ∨ (Value.slice ua fs.length uc).ownBlock = some b) → w.heap.size < b := by
          rintro b (rfl | hb)
          · exact HS7.out.1.hX
          · have := (HS7.out.1.dev.own.rp.blk hb).1
            omega
        exact ⟨⟨hmo.1, HS7.out.1.dr.other hon8 (fun hb => by have := hne _ hb; omega) (fun k hk => by have := hne _ hk; omega), HS7.out.1.only.trans' hon8 (fun k hk => by have := hne _ hk; omega), HS7.out.1.res.only hon8 (fun hb => by have := hne _ hb; omega), hok9, HS7.out.1.hX⟩, hln9⟩
      clear hmo hov8 hg8 hat8 d0 d1 dl HS7 hok9 hln9
      refine hK.out _ _ (by exact ⟨e1, e0⟩) (fun hHeld => ?_)
      clear hK K
      try simp only [List.getElem_toArray, List.getElem_cons_zero, List.getElem_cons_succ, Act.put, List.setIfInBounds_toArray, List.set_cons_zero, List.set_cons_succ]
      refine wpAnyH_done (by kernel_rfl) ?_ _
      simp only [cutQ, List.drop_succ_cons, List.drop_zero]
      clear c0 c1 f0 f1 hl HS
      go_wp2_with fail
      refine (HS9.out.1.dr.once 4 (by omega) (by omega)).mono ?_
      rintro e w10 ⟨⟨b, rfl⟩, hd10, ho10⟩
      have HS10 : Hid (DrD w0 w w10 B R X a bs cap (.slice va ts.length vc) (.slice sa8 fs2.length sc8) ts fs2 ∧ fs2.length ≤ k + 1) := ⟨HS9.out.1.cur HRB.out.2.1 hd10 ho10, HS9.out.2⟩
      clear hd10 ho10 HS9 e0 e1 h0 h1 el
      cases b with
      | false =>
        go_wp2
        go_roundw
        case rel => exact ⟨k + 1, _, _, ts, fs2, by omega, by go_num, HS10.out.1, hts5, HS10.out.2⟩
        case measure => simp [intOf]; omega
      | true =>
        have hba : Below w10.heap.size w10 (w10.alloc (Obj.cells #[.bool true, .bool false, .bool true, .bool false, .bool true] 4)) := (Below.refl _ _).alloc (Nat.le_refl _) _
        have hbo : Bos (w10.alloc (Obj.cells #[.bool true, .bool false, .bool true, .bool false, .bool true] 4)) (some ⟨w10.heap.size, 0, none⟩) [true, false, true, false, true] := fun _ => ⟨w10.heap.size, 0, rfl, by simp, fun i hi => by
          match i, hi with
          | 0, _ => simp
          | 1, _ => simp
          | 2, _ => simp
          | 3, _ => simp
          | 4, _ => simp⟩
        have HST := l6settle_any va sa8 vc sc8 ts fs2 (some ⟨w10.heap.size, 0, none⟩) 5 [true, false, true, false, true] false _ (HS10.out.1.dev.own.inn.below hba (Nat.le_refl _)) hbo HS10.out.1.ok (by simp)
        have HBA : Hid (Below w10.heap.size w10 (w10.alloc (Obj.cells #[.bool true, .bool false, .bool true, .bool false, .bool true] 4))) := hba
        obtain ⟨x0, x1, x2, x3, xl⟩ := HS10.out.1.dev.box
        clear hba hbo
        go_wp2_with fail
        refine HST.mono ?_
        clear HST
        rintro e w12 ⟨⟨v2, u2, ts2, rfl, hct2, hr2⟩, hb12⟩
        have hb2 : Below w10.heap.size w10 w12 := HBA.out.trans (hb12.mono HBA.out.size)
        obtain ⟨ka2, kc2, pa2, pc2, rfl, rfl⟩ := hr2.form
        have hok2 := HS10.out.1.ok.settled hct2
        obtain ⟨y0, y1, y2, y3, yl⟩ := HS10.out.1.dev.box.keep hb2 HS10.out.1.dev.box.lt
        have HS13 : Hid (DrD w0 w ((w12.setCell ⟨X, 0, none⟩ (.slice ka2 ts2.length kc2)).setCell ⟨X, 1, none⟩ (.slice pa2 0 pc2)) B R X a bs cap (.slice ka2 ts2.length kc2) (.slice pa2 0 pc2) ts2 [] ∧ ts2.length ≤ 5) := ⟨HS10.out.1.swap HRB.out.2.1 hb2 hr2 HBA.out.size hok2.1, by rw [hok2.2]; exact hts5⟩
        clear hb2 hb12 hr2 hct2 hok2 x0 x1 x2 x3 xl HBA HS10
        go_wp2
        go_roundw
        case rel => exact ⟨k + 1, _, _, ts2, [], by omega, by go_num, HS13.out.1, HS13.out.2, by simp⟩
        case measure => simp [intOf]; omega
    · obtain ⟨x0, x1, x2, x3, xl⟩ := HS.out.1.dev.box
      obtain ⟨r0, r1, r2, r3, rl⟩ := HS.out.1.res
      have hon : Only (fun b => b = w.heap.size) wr ((wr.setCell ⟨w.heap.size, 0, none⟩ (.slice va ts.length vc)).setCell ⟨w.heap.size, 1, none⟩ (.slice ua fs.length uc)) := ((Only.refl (fun b => b = w.heap.size) wr).setCell (p := ⟨w.heap.size, 0, none⟩) (.inl rfl) _).setCell (p := ⟨w.heap.size, 1, none⟩) (.inl rfl) _
      have HFI : Hid (RawO ((wr.setCell ⟨w.heap.size, 0, none⟩ (.slice va ts.length vc)).setCell ⟨w.heap.size, 1, none⟩ (.slice ua fs.length uc)) w.heap.size (.slice va ts.length vc) (.slice ua fs.length uc) ts fs ∧ Dr w0 ((wr.setCell ⟨w.heap.size, 0, none⟩ (.slice va ts.length vc)).setCell ⟨w.heap.size, 1, none⟩ (.slice ua fs.length uc)) B R a bs cap ∧ Only (fun k => k = R) w ((wr.setCell ⟨w.heap.size, 0, none⟩ (.slice va ts.length vc)).setCell ⟨w.heap.size, 1, none⟩ (.slice ua fs.length uc)) ∧ Rok ts fs ∧ fs.length ≤ 6) := by
        have hrl := HRB.out
        exact ⟨(HS.out.1.dev.own.stay hon (fun k hk e => by have := (HS.out.1.dev.own.inside k hk).1; omega)).weak (by omega), HS.out.1.dr.other hon (by omega) (fun k hk => by omega), HS.out.1.only.trans' hon (fun k hk => by omega), HS.out.1.ok, by have := HS.out.2; omega⟩
      clear hon HS
      go_wp2
      exact bodyPost_ret (v := .agg #[.slice va ts.length vc, .slice ua fs.length uc]) (by simp [results, Try.results33, go_sem, r0, r1]) rfl ⟨⟨_, _, ts, fs, rfl, HFI.out.1, HFI.out.2.2.2.1, hts5, HFI.out.2.2.2.2⟩, HFI.out.2.1, HFI.out.2.2.1⟩
end Go.Proofs.Ytpedfcknmeeknaa
