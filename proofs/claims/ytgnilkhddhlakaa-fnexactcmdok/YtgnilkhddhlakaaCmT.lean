/-
  Commands: their copies, how great they are, and that two of one content are told alike.
-/
import Derived.Test.YtgnilkhddhlakaaBosE
import Derived.Test.YtgnilkhddhlakaaSzS
import Derived.Test.YtgnilkhddhlakaaCopy
import Derived.Test.YtgnilkhddhlakaaEqS
import Derived.Deep.RegionHeld3
namespace Go.Proofs.Ytgnilkhddhlakaa
open Go.RowKit
set_option linter.unusedVariables false

set_option maxHeartbeats 800000 in
theorem szBoolS_any (a : Option Addr) (n cap : Nat) (left : Int) (w : World) (hn : n ≤ maxLen) (h0 : 0 ≤ left) (h1 : left ≤ 1048576) :
    Calls Try.prog 10 #[.slice a n cap, .int .i64 left] w fun e w' => e = .returned (.int .i64 (if (n : Int) ≤ left then left - n else -1)) ∧ w' = w := by
  unfold maxLen at hn
  by_cases h : (n : Int) ≤ left
  · go_enter Try.func10, Try.ntmps10
    go_wp2
    go_ret
    exact ⟨rfl, rfl⟩
  · go_enter Try.func10, Try.ntmps10
    go_wp2
    go_ret
    exact ⟨rfl, rfl⟩

set_option maxHeartbeats 1600000 in
theorem szCmd_any (k x : Int) (a b : Option Addr) (n m ca cb : Nat) (w : World) (hn : n ≤ maxLen) (hm : m ≤ maxLen) :
    Calls Try.prog 4 #[.agg #[.int .i64 k, .int .i64 x, .slice a n ca, .slice b m cb], .int .i64 1048576] w fun e w' =>
      (∃ z : Int, e = .returned (.int .i64 z) ∧ (z = -1 ∨ (0 ≤ z ∧ n + m ≤ 1048576))) ∧ Below w.heap.size w w' := by
  have hb : Below w.heap.size w (w.alloc (Obj.cells #[Value.int .i64 k, Value.int .i64 x, Value.slice a n ca, Value.slice b m cb] 25)) := (Below.refl _ _).alloc (Nat.le_refl _) _
  have HS1 : Hid (∀ W, Calls Try.prog 9 #[.slice a n ca, .int .i64 1048576] W fun e w' => e = .returned (.int .i64 (if (n : Int) ≤ 1048576 then 1048576 - n else -1)) ∧ w' = W) := fun W => szByteS_any _ _ _ _ _ hn (by omega) (by omega)
  by_cases h : (n : Int) ≤ 1048576
  · have HS2 : Hid (∀ W, Calls Try.prog 10 #[.slice b m cb, .int .i64 (1048576 - n)] W fun e w' => e = .returned (.int .i64 (if (m : Int) ≤ 1048576 - n then 1048576 - n - m else -1)) ∧ w' = W) := fun W => szBoolS_any _ _ _ _ _ hm (by omega) (by omega)
    clear hn hm
    by_cases h2 : (m : Int) ≤ 1048576 - n
    · go_enter Try.func4, Try.ntmps4
      go_wp2_with (go_at_call 9; refine (HS1.out _).mono ?_; rintro e w' ⟨rfl, rfl⟩; rw [if_pos h])
      refine (HS2.out _).mono ?_
      rintro e w' ⟨rfl, rfl⟩
      rw [if_pos h2]
      go_wp2
      go_ret
      exact ⟨⟨_, rfl, .inr ⟨by omega, by omega⟩⟩, hb⟩
    · go_enter Try.func4, Try.ntmps4
      go_wp2_with (go_at_call 9; refine (HS1.out _).mono ?_; rintro e w' ⟨rfl, rfl⟩; rw [if_pos h])
      refine (HS2.out _).mono ?_
      rintro e w' ⟨rfl, rfl⟩
      rw [if_neg (show ¬ (m : Int) ≤ 1048576 - (n : Int) by omega)]
      go_wp2
      go_ret
      exact ⟨⟨_, rfl, .inl rfl⟩, hb⟩
  · clear hn hm
    go_enter Try.func4, Try.ntmps4
    go_wp2_with (go_at_call 9; refine (HS1.out _).mono ?_; rintro e w' ⟨rfl, rfl⟩; rw [if_neg h])
    go_ret
    exact ⟨⟨_, rfl, .inl rfl⟩, hb⟩

/-- A block of four cells. -/
structure Box4 (W : World) (b : Nat) (x0 x1 x2 x3 : Value) : Prop where
  c0 : W.cell? ⟨b, 0, none⟩ = some x0
  c1 : W.cell? ⟨b, 1, none⟩ = some x1
  c2 : W.cell? ⟨b, 2, none⟩ = some x2
  c3 : W.cell? ⟨b, 3, none⟩ = some x3
  f : ∀ o, W.frozen? ⟨b, o, none⟩ = false
  lt : b < W.heap.size
theorem Box4.new (w : World) (x0 x1 x2 x3 : Value) (T : TypeId) : Box4 (w.alloc (Obj.cells #[x0, x1, x2, x3] T)) w.heap.size x0 x1 x2 x3 := ⟨by simp, by simp, by simp, by simp, fun o => by simp, by simp⟩
theorem Box4.keep {W W' : World} {b B : Nat} {x0 x1 x2 x3 : Value} (h : Box4 W b x0 x1 x2 x3) (hb : Below B W W') (hB : b < B) : Box4 W' b x0 x1 x2 x3 :=
  ⟨Go.Proofs.Ytgnilkhddhlakaa.keep hb hB h.c0, Go.Proofs.Ytgnilkhddhlakaa.keep hb hB h.c1, Go.Proofs.Ytgnilkhddhlakaa.keep hb hB h.c2, Go.Proofs.Ytgnilkhddhlakaa.keep hb hB h.c3, fun o => (hb.frozen (p := ⟨b, o, none⟩) hB).trans (h.f o), Nat.lt_of_lt_of_le h.lt hb.size⟩
theorem Box4.set2 {W : World} {b : Nat} {x0 x1 x2 x3 : Value} (h : Box4 W b x0 x1 x2 x3) (u : Value) : Box4 (W.setCell ⟨b, 2, none⟩ u) b x0 x1 u x3 := by
  obtain ⟨h0, h1, h2, h3, h4, h5⟩ := h
  exact ⟨(World.cell?_setCell_other W _ _ _ (by simp)).trans h0, (World.cell?_setCell_other W _ _ _ (by simp)).trans h1, World.cell?_setCell_same W _ _ h2, (World.cell?_setCell_other W _ _ _ (by simp)).trans h3, fun o => by simp [h4 o], by simpa using h5⟩
theorem Box4.other {W : World} {b : Nat} {x0 x1 x2 x3 : Value} (h : Box4 W b x0 x1 x2 x3) {p : Addr} (hp : p.block ≠ b) (u : Value) : Box4 (W.setCell p u) b x0 x1 x2 x3 := by
  obtain ⟨h0, h1, h2, h3, h4, h5⟩ := h
  have e : ∀ o : Nat, p ≠ ⟨b, o, none⟩ := fun o e => hp (by rw [e])
  exact ⟨(World.cell?_setCell_other W _ _ _ (e 0)).trans h0, (World.cell?_setCell_other W _ _ _ (e 1)).trans h1, (World.cell?_setCell_other W _ _ _ (e 2)).trans h2, (World.cell?_setCell_other W _ _ _ (e 3)).trans h3, fun o => by simp [h4 o], by simpa using h5⟩
theorem Box4.at (w : World) (x0 x1 x2 x3 : Value) (T : TypeId) (b : Nat) (hb : b = w.heap.size) : Box4 (w.alloc (Obj.cells #[x0, x1, x2, x3] T)) b x0 x1 x2 x3 := by rw [hb]; exact Box4.new w x0 x1 x2 x3 T
theorem Box4.alloc {W : World} {b : Nat} {x0 x1 x2 x3 : Value} (h : Box4 W b x0 x1 x2 x3) (o : Obj) : Box4 (W.alloc o) b x0 x1 x2 x3 := h.keep ((Below.refl W.heap.size W).alloc (Nat.le_refl _) o) h.lt

set_option maxHeartbeats 3200000 in
theorem toCmd_any (k x : Int) (a b : Option Addr) (ca cb : Nat) (zs : List Int) (bs : List Bool) (w : World) (hb : Byt w a zs) (hd : Bos w b bs) (hs : zs.length + bs.length ≤ 1048576) :
    Calls Try.prog 6 #[.agg #[.int .i64 k, .int .i64 x, .slice a zs.length ca, .slice b bs.length cb]] w fun e w' =>
      ∃ g h, e = .returned (.agg #[.int .i64 k, .int .i64 x, .slice (some ⟨g, 0, none⟩) zs.length zs.length, .slice (some ⟨h, 0, none⟩) bs.length bs.length]) ∧ Byt w' (some ⟨g, 0, none⟩) zs ∧ Bos w' (some ⟨h, 0, none⟩) bs ∧ Below w.heap.size w w' := by
  have HB : Hid (Byt w a zs ∧ Bos w b bs) := ⟨hb, hd⟩
  have HT1 : Hid (∀ W, Below w.heap.size w W → Calls Try.prog 11 #[.slice a zs.length ca] W fun e w' => e = .returned (.slice (some ⟨W.heap.size, 0, none⟩) zs.length zs.length) ∧ Own w' W.heap.size W.heap.size zs.length zs ∧ Below W.heap.size W w') :=
    fun W h => toByteS_any a ca zs W (hb.below h (Nat.le_refl _)) (by omega)
  have HT2 : Hid (∀ W, Below w.heap.size w W → Calls Try.prog 12 #[.slice b bs.length cb] W fun e w' => e = .returned (.slice (some ⟨W.heap.size, 0, none⟩) bs.length bs.length) ∧ OwBo w' W.heap.size W.heap.size bs.length bs ∧ Below W.heap.size W w') :=
    fun W h => toBoolS_any b cb bs W (hd.below h (Nat.le_refl _)) (by omega)
  clear hb hd HB
  generalize zs.length = n at *
  generalize bs.length = m at *
  go_enter Try.func6, Try.ntmps6
  go_wp2_with fail
  have hw : Below w.heap.size w (((w.alloc (Obj.cells #[Value.int IntKind.i64 k, Value.int IntKind.i64 x, Value.slice a n ca, Value.slice b m cb] 25)).alloc (Obj.cells #[Value.int IntKind.i64 0, Value.int IntKind.i64 0, Value.slice none 0 0, Value.slice none 0 0] 28)).alloc (Obj.cells #[Value.int IntKind.i64 k, Value.int IntKind.i64 x, Value.slice none 0 0, Value.slice none 0 0] 28)) :=
    (((Below.refl _ _).alloc (Nat.le_refl _) _).alloc (by simp) _).alloc (by simp; omega) _
  refine (HT1.out _ hw).mono ?_
  rintro e w1 ⟨rfl, ho1, hb1⟩
  have hw1 : Below w.heap.size w w1 := hw.trans (hb1.mono (by simp; omega))
  have X2 : Box4 w1 (w.heap.size + 1) (Value.int IntKind.i64 0) (Value.int IntKind.i64 0) (Value.slice none 0 0) (Value.slice none 0 0) :=
    ((Box4.at _ _ _ _ _ _ _ (by simp)).alloc _).keep hb1 (by simp)
  have X3 : Box4 w1 (w.heap.size + 1 + 1) (Value.int IntKind.i64 k) (Value.int IntKind.i64 x) (Value.slice none 0 0) (Value.slice none 0 0) :=
    (Box4.at _ _ _ _ _ _ _ (by simp)).keep hb1 (by simp)
  have X1 : Box4 w1 w.heap.size (Value.int IntKind.i64 k) (Value.int IntKind.i64 x) (Value.slice a n ca) (Value.slice b m cb) :=
    (((Box4.at _ _ _ _ _ _ _ rfl).alloc _).alloc _).keep hb1 (by simp; omega)
  have hz := hb1.size
  simp at hz ho1
  clear hb1 hw HT1
  have y1 := X1
  have y3 := X3
  obtain ⟨-, -, -, a3, -, al⟩ := y1
  obtain ⟨-, -, c2, -, f3, cl⟩ := y3
  have hXX : (w.heap.size + 1 + 1 == w.heap.size) = false := by simp; omega
  go_wp2_with fail
  have hw2 : Below w.heap.size w (w1.setCell ⟨w.heap.size + 1 + 1, 2, none⟩ (Value.slice (some ⟨w.heap.size + 1 + 1 + 1, 0, none⟩) n n)) := hw1.setCell (by simp; omega) _
  refine (HT2.out _ hw2).mono ?_
  rintro e w2 ⟨rfl, ho2, hb2⟩
  have hw3 : Below w.heap.size w w2 := hw2.trans (hb2.mono (by simp; omega))
  have hB1 : Own w2 w.heap.size (w.heap.size + 1 + 1 + 1) n zs := by
    refine Own.mono (B := w.heap.size + 1 + 1 + 1) ?_ (by omega)
    refine Own.below (Own.setCell_other ho1 (by simp) _) hb2 (Nat.le_refl _)
  have Z3 := (X3.set2 (Value.slice (some ⟨w.heap.size + 1 + 1 + 1, 0, none⟩) n n)).keep hb2 (by simp; omega)
  have Z2 := (X2.other (p := ⟨w.heap.size + 1 + 1, 2, none⟩) (by simp) (Value.slice (some ⟨w.heap.size + 1 + 1 + 1, 0, none⟩) n n)).keep hb2 (by simp; omega)
  have hz2 := hb2.size
  simp at hz2 ho2
  clear hb2 hw2 HT2 ho1 X1 X2 X3 a3 al c2 f3 cl
  obtain ⟨d0, d1, d2, d3, df, dl⟩ := Z3
  obtain ⟨e0, e1, e2, e3, ef, el⟩ := Z2
  go_wp2
  refine bodyPost_ret (v := .agg #[.int .i64 k, .int .i64 x, .slice (some ⟨w.heap.size + 1 + 1 + 1, 0, none⟩) n n, .slice (some ⟨w1.heap.size, 0, none⟩) m m]) (by simp [results, Try.results6, go_sem, e0, e1, e2, e3]) rfl ⟨_, _, rfl, ?_, ?_, ?_⟩
  · refine Own.byt (B := w.heap.size) (cap := n) ?_
    repeat (refine Own.setCell_other ?_ (by simp) _)
    exact hB1
  · refine OwBo.bos (B := w1.heap.size) (cap := m) ?_
    have other : ∀ (W : World) (p : Addr) (u : Value), p.block ≠ w1.heap.size → OwBo W w1.heap.size w1.heap.size m bs → OwBo (W.setCell p u) w1.heap.size w1.heap.size m bs :=
      fun W p u hp h => h.only (S := fun j => j = p.block) ((Only.refl (fun j => j = p.block) W).setCell (.inl rfl) u) (fun e => hp e.symm)
    repeat (refine other _ _ _ (by simp; omega) ?_)
    exact ho2
  · repeat (refine Below.setCell ?_ (by first | (simp; done) | (simp; omega)) _)
    exact hw3

set_option maxHeartbeats 1600000 in
theorem eqCmd_yes (k x : Int) (a b c d : Option Addr) (ca cb cc cd : Nat) (zs : List Int) (bs : List Bool) (w : World) (h1 : Byt w a zs) (h2 : Bos w b bs) (h3 : Byt w c zs) (h4 : Bos w d bs) (hs : zs.length + bs.length ≤ 1048576) :
    Calls Try.prog 8 #[.agg #[.int .i64 k, .int .i64 x, .slice a zs.length ca, .slice b bs.length cb], .agg #[.int .i64 k, .int .i64 x, .slice c zs.length cc, .slice d bs.length cd]] w fun e w' => e = .returned (.bool true) ∧ Below w.heap.size w w' := by
  have HE1 : Hid (∀ W, Below w.heap.size w W → Calls Try.prog 16 #[.slice a zs.length ca, .slice c zs.length cc] W fun e w' => e = .returned (.bool true) ∧ ∃ n, w' = W.drewN n) :=
    fun W h => eqByteS_yes a c ca cc zs W (h1.below h (Nat.le_refl _)) (h3.below h (Nat.le_refl _)) (by omega)
  have HE2 : Hid (∀ W, Below w.heap.size w W → Calls Try.prog 17 #[.slice b bs.length cb, .slice d bs.length cd] W fun e w' => e = .returned (.bool true) ∧ ∃ n, w' = W.drewN n) :=
    fun W h => eqBoolS_yes b d cb cd bs W (h2.below h (Nat.le_refl _)) (h4.below h (Nat.le_refl _)) (by omega)
  clear h1 h2 h3 h4
  generalize zs.length = n at *
  generalize bs.length = m at *
  have hkk : (k != k) = false := by simp
  have hxx : (x != x) = false := by simp
  have hw : Below w.heap.size w ((w.alloc (Obj.cells #[Value.int IntKind.i64 k, Value.int IntKind.i64 x, Value.slice a n ca, Value.slice b m cb] 28)).alloc (Obj.cells #[Value.int IntKind.i64 k, Value.int IntKind.i64 x, Value.slice c n cc, Value.slice d m cd] 28)) :=
    ((Below.refl _ _).alloc (Nat.le_refl _) _).alloc (by simp) _
  go_enter Try.func8, Try.ntmps8
  go_wp2_with fail
  refine (HE1.out _ hw).mono ?_
  rintro e w1 ⟨rfl, n1, rfl⟩
  go_wp2_with fail
  refine Calls.mono (HE2.out _ ?_) ?_
  · exact ⟨hw.os, hw.tape, hw.output, hw.size, hw.block⟩
  rintro e w2 ⟨rfl, n2, rfl⟩
  go_wp2
  go_ret
  exact ⟨rfl, ⟨hw.os, hw.tape, hw.output, hw.size, hw.block⟩⟩
end Go.Proofs.Ytgnilkhddhlakaa
