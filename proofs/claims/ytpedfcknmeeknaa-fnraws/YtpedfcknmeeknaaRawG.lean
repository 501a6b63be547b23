/-
  A device that came out of a draw: it reads, and its blocks are the call's own.
-/
import Derived.Test.YtpedfcknmeeknaaDrRaw
namespace Go.Proofs.Ytpedfcknmeeknaa
open Go.RowKit
set_option linter.unusedVariables false
set_option linter.unusedSimpArgs false

theorem Byt.stayR {S : Nat → Prop} {W W' : World} {a : Option Addr} {zs : List Int} (h : Byt W a zs) (ho : Only S W W') (hs : ∀ k, rowOf a k → ¬ S k) : Byt W' a zs := by
  refine ⟨h.1, fun hp => ?_⟩
  obtain ⟨b, off, rfl, hb, hc⟩ := h.2 hp
  exact ⟨b, off, rfl, Nat.lt_of_lt_of_le hb ho.size, fun i hi => ho.cell hb (hs b ⟨_, rfl, rfl⟩) (hc i hi)⟩
theorem Els.stayR {S : Nat → Prop} {p : Bool} {W W' : World} {a : Option Addr} {es : List El} (h : Els p W a es) (ho : Only S W W') (hs : ∀ k, rowOf a k → ¬ S k) (he : ∀ e ∈ es, ∀ k, rowOf e.a k → ¬ S k) : Els p W' a es := by
  refine ⟨fun e h1 => ⟨(h.1 e h1).1, (h.1 e h1).2.stayR ho (he e h1)⟩, fun hp => ?_⟩
  obtain ⟨b, off, rfl, hb, hc⟩ := h.2 hp
  exact ⟨b, off, rfl, Nat.lt_of_lt_of_le hb ho.size, fun i hi => ⟨fun hp => ho.cell hb (hs b ⟨_, rfl, rfl⟩) ((hc i hi).c0 hp), ho.cell hb (hs b ⟨_, rfl, rfl⟩) (hc i hi).c1⟩⟩
/-- A device that reads, with all its blocks from C on. -/
structure RawG (W : World) (C : Nat) (sa pa : Option Addr) (es fs : List El) : Prop where
  inn : RawI W sa pa es fs
  bs : ∀ k, rowOf sa k → C ≤ k
  bp : ∀ k, rowOf pa k → C ≤ k
  be : ∀ e ∈ es ++ fs, ∀ k, rowOf e.a k → C ≤ k
theorem RawG.stay {S : Nat → Prop} {W W' : World} {C : Nat} {sa pa : Option Addr} {es fs : List El} (h : RawG W C sa pa es fs) (ho : Only S W W') (hs : ∀ k, C ≤ k → ¬ S k) : RawG W' C sa pa es fs :=
  ⟨⟨h.inn.1.stayR ho (fun k hk => hs k (h.bs k hk)) (fun e he k hk => hs k (h.be e (List.mem_append_left _ he) k hk)), h.inn.2.stayR ho (fun k hk => hs k (h.bp k hk)) (fun e he k hk => hs k (h.be e (List.mem_append_right _ he) k hk))⟩, h.bs, h.bp, h.be⟩
theorem RawG.weak {W : World} {C C' : Nat} {sa pa : Option Addr} {es fs : List El} (h : RawG W C sa pa es fs) (hC : C' ≤ C) : RawG W C' sa pa es fs :=
  ⟨h.inn, fun k hk => Nat.le_trans hC (h.bs k hk), fun k hk => Nat.le_trans hC (h.bp k hk), fun e he k hk => Nat.le_trans hC (h.be e he k hk)⟩
theorem RawO.gone {W : World} {C n c m d : Nat} {sa pa : Option Addr} {es fs : List El} (h : RawO W C (.slice sa n c) (.slice pa m d) es fs) : RawG W C sa pa es fs := by
  refine ⟨h.inn, fun k hk => ?_, fun k hk => ?_, fun e he k hk => (h.inside k (.inr (.inr ⟨e, he, hk⟩))).1⟩
  · refine (h.inside k (.inl ?_)).1
    cases sa with
    | none => simp [rowOf] at hk
    | some x => simpa [rowOf, Value.ownBlock] using hk
  · refine (h.inside k (.inr (.inl ?_))).1
    cases pa with
    | none => simp [rowOf] at hk
    | some x => simpa [rowOf, Value.ownBlock] using hk

/-- What l6bent has at its end. -/
structure BenE (w0 w W : World) (B R X : Nat) (a : Option Addr) (bs : List Int) (cap : Nat) (sa pa : Option Addr) (sc pc : Nat) (es fs : List El) : Prop where
  g : RawG W (w.heap.size + 1) sa pa es fs
  box : Box2 W X (.slice sa es.length sc) (.slice pa fs.length pc)
  dr : Dr w0 W B R a bs cap
  only : Only (fun k => k = R) w W
  res : Box2 W w.heap.size (.slice none 0 0) (.slice none 0 0)
  l1 : es.length ≤ 5
  l2 : fs.length ≤ 61
  l3 : ∀ e ∈ es ++ fs, e.ls.length ≤ 256
theorem DrD.benE {w0 w W : World} {B R X : Nat} {a : Option Addr} {bs : List Int} {cap : Nat} {sa pa : Option Addr} {sc pc : Nat} {es fs : List El} (h : DrD w0 w W B R X a bs cap (.slice sa es.length sc) (.slice pa fs.length pc) es fs) (h5 : es.length ≤ 5) : BenE w0 w W B R X a bs cap sa pa sc pc es fs :=
  ⟨h.dev.own.gone, h.dev.box, h.dr, h.only, h.res, h5, by have := h.ok.2.2.1; omega, fun e he => by
    rcases List.mem_append.1 he with he | he
    · exact Nat.le_of_eq (h.ok.lens.1 e he)
    · exact Nat.le_of_eq (h.ok.lens.2 e he)⟩
theorem BenE.fin {w0 w W : World} {B R X : Nat} {a : Option Addr} {bs : List Int} {cap : Nat} {sa pa : Option Addr} {sc pc : Nat} {es fs : List El} (h : BenE w0 w W B R X a bs cap sa pa sc pc es fs) (hR : R < w.heap.size) (hB : B ≤ R) (p q : Value) :
    RawG ((W.setCell ⟨w.heap.size, 0, none⟩ p).setCell ⟨w.heap.size, 1, none⟩ q) w.heap.size sa pa es fs ∧ Dr w0 ((W.setCell ⟨w.heap.size, 0, none⟩ p).setCell ⟨w.heap.size, 1, none⟩ q) B R a bs cap ∧ Only (fun k => k = R) w ((W.setCell ⟨w.heap.size, 0, none⟩ p).setCell ⟨w.heap.size, 1, none⟩ q) := by
  have hon : Only (fun b => b = w.heap.size) W ((W.setCell ⟨w.heap.size, 0, none⟩ p).setCell ⟨w.heap.size, 1, none⟩ q) := ((Only.refl (fun b => b = w.heap.size) W).setCell (p := ⟨w.heap.size, 0, none⟩) (.inl rfl) _).setCell (p := ⟨w.heap.size, 1, none⟩) (.inl rfl) _
  exact ⟨(h.g.stay hon (fun k hk e => by omega)).weak (by omega), h.dr.other hon (by omega) (fun k hk => by omega), h.only.trans' hon (fun k hk => by omega)⟩
theorem ins_newR (W : World) (T : TypeId) (zs : List Int) (hr : ∀ z ∈ zs, -9223372036854775808 ≤ z ∧ z ≤ 9223372036854775807) : Ins (W.alloc (.cells (zs.map (Value.int .i64)).toArray T)) (some ⟨W.heap.size, 0, none⟩) zs := by
  refine ⟨hr, fun hp => ⟨W.heap.size, 0, rfl, by simp, fun i hi => ?_⟩⟩
  rw [Nat.zero_add, cell_of_row _ W.heap.size i _ T (0, 0) (heap_new W _)]
  simp [hi]
/-- A device in the variable that may be bent. -/
structure DrE (w0 w W : World) (B R X : Nat) (a : Option Addr) (bs : List Int) (cap : Nat) (v u : Value) (es fs : List El) : Prop where
  dev : CopB w0 W (w.heap.size + 1) X v u es fs
  dr : Dr w0 W B R a bs cap
  only : Only (fun k => k = R) w W
  res : Box2 W w.heap.size (.slice none 0 0) (.slice none 0 0)
  hX : w.heap.size < X
  l3 : ∀ e ∈ es ++ fs, e.ls.length ≤ 256
section
variable {w0 w W W' w8 : World} {B R X : Nat} {a : Option Addr} {bs : List Int} {cap : Nat} {v u v' : Value} {es fs : List El} {e : El} {ob : Obj}
theorem DrD.drE (h : DrD w0 w W B R X a bs cap v u es fs) : DrE w0 w W B R X a bs cap v u es fs :=
  ⟨h.dev, h.dr, h.only, h.res, h.hX, fun e he => by
    rcases List.mem_append.1 he with he | he
    · exact Nat.le_of_eq (h.ok.lens.1 e he)
    · exact Nat.le_of_eq (h.ok.lens.2 e he)⟩
theorem DrE.cur (h : DrE w0 w W B R X a bs cap v u es fs) (hR : R < w.heap.size) (hd : Dr w0 W' B R a bs cap) (ho : Only (fun k => k = R) W W') : DrE w0 w W' B R X a bs cap v u es fs :=
  ⟨h.dev.cur ho (fun k hk e => by omega) (by have := h.hX; omega) (fun k hk => by have := h.dr.cur.lt.1; have := h.dr.hB; omega), hd, h.only.trans ho, h.res.only ho (by omega), h.hX, h.l3⟩
theorem DrE.still (h : DrE w0 w W B R X a bs cap v u es fs) (hR : R < w.heap.size) (ho : Only (fun _ => False) W W') : DrE w0 w W' B R X a bs cap v u es fs :=
  h.cur hR (h.dr.other ho (by simp) (by simp)) (ho.mono (fun _ _ h => h.elim))
theorem DrE.more (h : DrE w0 w W B R X a bs cap v u es fs) (hR : R < w.heap.size) (U : Nat) (hBU : w.heap.size + 1 ≤ U) (hXU : X < U) (hin : ∀ x ∈ es ++ fs, ∀ k, rowOf x.a k → k < U) (hm : Mine W U W.heap.size e.a e.c e.ls) (hr : rE true e) (h256 : e.ls.length ≤ 256) (hov : OVr true w8 (w.heap.size + 1) v' (fs ++ [e])) (hg : (W.alloc ob).grownBy w8 u.ownBlock) (hat : v'.ownBlock = u.ownBlock ∨ v'.ownBlock = some (W.alloc ob).heap.size) :
    DrE w0 w (w8.setCell ⟨X, 1, none⟩ v') B R X a bs cap v v' es (fs ++ [e]) ∧ Box2 w8 X v u := by
  have hmo := h.dev.moreU U hBU hXU hin hm hr hov hg hat
  have hlt := h.dr.cur.lt
  have hon8 : Only (fun b => b = X ∨ u.ownBlock = some b) W (w8.setCell ⟨X, 1, none⟩ v') := (hmo.2.2.mono (fun k _ hk => .inr hk)).setCell (p := ⟨X, 1, none⟩) (.inl (.inl rfl)) _
  have hne : ∀ b, (b = X ∨ u.ownBlock = some b) → w.heap.size < b := by
    rintro b (rfl | hb)
    · exact h.hX
    · have := (h.dev.own.rp.blk hb).1
      omega
  refine ⟨⟨hmo.1, h.dr.other hon8 (fun hb => by have := hne _ hb; omega) (fun k hk => by have := hne _ hk; omega), h.only.trans' hon8 (fun k hk => by have := hne _ hk; omega), h.res.only hon8 (fun hb => by have := hne _ hb; omega), h.hX, fun x hx => ?_⟩, hmo.2.1⟩
  rw [← List.append_assoc] at hx
  rcases List.mem_append.1 hx with hx | hx
  · exact h.l3 x hx
  · simp at hx
    subst hx
    exact h256
end
theorem DrE.benE {w0 w W : World} {B R X : Nat} {a : Option Addr} {bs : List Int} {cap : Nat} {sa pa : Option Addr} {sc pc : Nat} {es fs : List El} (h : DrE w0 w W B R X a bs cap (.slice sa es.length sc) (.slice pa fs.length pc) es fs) (h5 : es.length ≤ 5) (h61 : fs.length ≤ 61) : BenE w0 w W B R X a bs cap sa pa sc pc es fs :=
  ⟨h.dev.own.gone, h.dev.box, h.dr, h.only, h.res, h5, h61, h.l3⟩
end Go.Proofs.Ytpedfcknmeeknaa
