/-
  PackAdd, both. (Typed by wip/mkpa.py.)
-/
import Derived.Test.YtdkffeemnenhdaaGreatDoorNum
import Derived.Test.YtdkffeemnenhdaaGreatDoorPkM
import Derived.Test.YtdkffeemnenhdaaGreatDoorSqA
import Derived.Test.YtdkffeemnenhdaaGreatDoorBRep
import Derived.Test.YtdkffeemnenhdaaGreatDoorCut
import Derived.Test.YtdkffeemnenhdaaGreatDoorVarsC
namespace Go.Proofs.YtdkffeemnenhdaaGreatDoor
open Go.RowKit
set_option linter.unusedVariables false

structure Box2 (W : World) (b : Nat) (x y : Value) : Prop where
  c0 : W.cell? ⟨b, 0, none⟩ = some x
  c1 : W.cell? ⟨b, 1, none⟩ = some y
  f0 : W.frozen? ⟨b, 0, none⟩ = false
  f1 : W.frozen? ⟨b, 1, none⟩ = false
  lt : b < W.heap.size
theorem Box2.new (w : World) (x y : Value) (T : TypeId) : Box2 (w.alloc (Obj.cells #[x, y] T)) w.heap.size x y := ⟨by simp, by simp, by simp, by simp, by simp⟩
theorem Box2.keep {W W' : World} {b B : Nat} {x y : Value} (h : Box2 W b x y) (hb : Below B W W') (hB : b < B) : Box2 W' b x y :=
  ⟨Go.Proofs.YtdkffeemnenhdaaGreatDoor.keep hb hB h.c0, Go.Proofs.YtdkffeemnenhdaaGreatDoor.keep hb hB h.c1, (hb.frozen (p := ⟨b, 0, none⟩) hB).trans h.f0, (hb.frozen (p := ⟨b, 1, none⟩) hB).trans h.f1, Nat.lt_of_lt_of_le h.lt hb.size⟩
theorem Box2.alloc {W : World} {b : Nat} {x y : Value} (h : Box2 W b x y) (o : Obj) : Box2 (W.alloc o) b x y := h.keep ((Below.refl W.heap.size W).alloc (Nat.le_refl _) o) h.lt
theorem frozO {S : Nat → Prop} {w w' : World} (h : Only S w w') {b o : Nat} (hb : b < w.heap.size) (hs : ¬ S b) : w'.frozen? ⟨b, o, none⟩ = w.frozen? ⟨b, o, none⟩ := by
  simp only [World.frozen?, h.block b hb hs]
theorem Box2.only {S : Nat → Prop} {W W' : World} {b : Nat} {x y : Value} (h : Box2 W b x y) (ho : Only S W W') (hs : ¬ S b) : Box2 W' b x y :=
  ⟨ho.cell h.lt hs h.c0, ho.cell h.lt hs h.c1, (frozO ho h.lt hs).trans h.f0, (frozO ho h.lt hs).trans h.f1, Nat.lt_of_lt_of_le h.lt ho.size⟩
theorem Box2.other {W : World} {b : Nat} {x y : Value} (h : Box2 W b x y) {p : Addr} (hp : p.block ≠ b) (u : Value) : Box2 (W.setCell p u) b x y :=
  h.only (S := fun k => k = p.block) ((Only.refl (fun k => k = p.block) W).setCell (.inl rfl) u) (fun e => hp e.symm)
theorem Box2.set0 {W : World} {b : Nat} {x y : Value} (h : Box2 W b x y) (u : Value) : Box2 (W.setCell ⟨b, 0, none⟩ u) b u y := by
  obtain ⟨h0, h1, h2, h3, h4⟩ := h
  exact ⟨World.cell?_setCell_same W _ _ h0, (World.cell?_setCell_other W _ _ _ (by simp)).trans h1, by simp [h2], by simp [h3], by simpa using h4⟩
theorem Box2.set1 {W : World} {b : Nat} {x y : Value} (h : Box2 W b x y) (u : Value) : Box2 (W.setCell ⟨b, 1, none⟩ u) b x u := by
  obtain ⟨h0, h1, h2, h3, h4⟩ := h
  exact ⟨(World.cell?_setCell_other W _ _ _ (by simp)).trans h0, World.cell?_setCell_same W _ _ h1, by simp [h2], by simp [h3], by simpa using h4⟩
end Go.Proofs.YtdkffeemnenhdaaGreatDoor
namespace Go.Proofs.YtdkffeemnenhdaaGreatDoor
open Go.RowKit
set_option linter.unusedVariables false

theorem Only.ofGrownT {w w' : World} {row : Option Nat} (hg : w.grownBy w' row) : Only (fun k => row = some k) w w' := (Only.refl (fun k => row = some k) w).grown hg (fun k hk => .inl hk)
theorem newsT (w : World) (n : Int) (a : Option Addr) (L c : Nat) (T : TypeId) (e : El) (h0 : e.n = n) (h1 : e.a = a) (h2 : e.ls.length = L) (h3 : e.c = c) : ∀ j u, (e.cells true)[j]? = some u → (w.alloc (Obj.cells #[.int .i64 n, .slice a L c] T)).cell? ⟨w.heap.size, j, none⟩ = some u := by
  intro j u hu
  subst h0 h1 h2 h3
  cases j with
  | zero => simp [El.cells] at hu; simp [hu]
  | succ j =>
    cases j with
    | zero => simp [El.cells] at hu; simp [hu]
    | succ j => simp [El.cells] at hu

/-- append(s, e): one more. -/
theorem wp_append_it {o : Oper} {a : Act} {w : World} {K : Act → World → Prop} {Q : Exit → Act → World → Prop} (s x : Operand) (ho : o.op = .call { callee := .builtin .append, args := #[s, x], argTypes := #[27, 27] })
    (B : Nat) (v : Value) (es : List El) (hs : a.eval s = v) (hown : OVt w B v es) (X c : Nat) (e : El) (hx : a.eval x = .slice (some ⟨X, 0, none⟩) 1 c) (hX : ∀ j u, (e.cells true)[j]? = some u → w.cell? ⟨X, j, none⟩ = some u) (hb1 : es.length ≤ 1000000) (hbase : B ≤ w.heap.size)
    (h : ∀ v' w', OVt w' B v' (es ++ [e]) → w.grownBy w' v.ownBlock → K (a.put o.dst v') w') : o.wp Tryz.prog a w K Q := by
  obtain ⟨i0, hi, hz0, hz1, hz2⟩ := info_parts Tryz.infoItem
  obtain ⟨v', w', hr, h2, h3, _, _⟩ := run_append_own_at (P := Tryz.prog) w B 27 o.type 40 i0 _ (eW true) 32 Tryz.underlying27 hi hz0 hz1 hz2 rfl (by simp [eW]) v es.length _ hown.own ⟨X, 0, none⟩ 1 c (e.cells true) (by rw [cells_lenE, Nat.one_mul]) (fun j u hu => by rw [addr_add, Nat.zero_add]; exact hX j u hu) (by
    intro u hu
    simp [El.cells] at hu
    rcases hu with rfl | rfl <;> rfl) (by unfold maxLen; omega) (by omega) hbase
  unfold Oper.wp execOp
  simp only [ho, resolve, invoke, builtin, Sem.run_bind, Sem.run_pure, Result.andThen_ok, List.map_toArray, List.map_cons, List.map_nil, hs, hx, hr]
  refine h v' w' ⟨?_⟩ h3
  rw [List.length_append, List.flatMap_append]
  simpa using h2
theorem wpList_append_it {ops : Array Oper} {rest : List Oper} {o : Oper} {a : Act} {Q : Exit → Act → World → Prop} {w : World} (hgd : o.guard = none) (s x : Operand) (ho : o.op = .call { callee := .builtin .append, args := #[s, x], argTypes := #[27, 27] })
    (B : Nat) (v : Value) (es : List El) (hs : a.eval s = v) (hown : OVt w B v es) (X c : Nat) (e : El) (hx : a.eval x = .slice (some ⟨X, 0, none⟩) 1 c) (hX : ∀ j u, (e.cells true)[j]? = some u → w.cell? ⟨X, j, none⟩ = some u) (hb1 : es.length ≤ 1000000) (hbase : B ≤ w.heap.size)
    (h : ∀ v' w', OVt w' B v' (es ++ [e]) → w.grownBy w' v.ownBlock → wpList Tryz.prog ops Q rest (a.put o.dst v') w') : wpList Tryz.prog ops Q (o :: rest) a w := by
  refine wpList_plain hgd fun K hK' => ?_
  exact wp_append_it s x ho B v es hs hown X c e hx hX hb1 hbase (fun v' w' h1 h2 => hK' _ _ (h v' w' h1 h2))

theorem Box3.set2 {W : World} {b : Nat} {x y z : Value} (h : Box3 W b x y z) (u : Value) : Box3 (W.setCell ⟨b, 2, none⟩ u) b x y u := by
  obtain ⟨h0, h1, h2, h3, h4, h5, h6⟩ := h
  exact ⟨(World.cell?_setCell_other W _ _ _ (by simp)).trans h0, (World.cell?_setCell_other W _ _ _ (by simp)).trans h1, World.cell?_setCell_same W _ _ h2, by simp [h3], by simp [h4], by simp [h5], by simpa using h6⟩
theorem Box3.other {W : World} {b : Nat} {x y z : Value} (h : Box3 W b x y z) {p : Addr} (hp : p.block ≠ b) (u : Value) : Box3 (W.setCell p u) b x y z := by
  obtain ⟨h0, h1, h2, h3, h4, h5, h6⟩ := h
  have ne : ∀ o : Nat, p ≠ ⟨b, o, none⟩ := fun o e => hp (by rw [e])
  exact ⟨(World.cell?_setCell_other W _ _ _ (ne 0)).trans h0, (World.cell?_setCell_other W _ _ _ (ne 1)).trans h1, (World.cell?_setCell_other W _ _ _ (ne 2)).trans h2, by simpa using h3, by simpa using h4, by simpa using h5, by simpa using h6⟩

/-- A pack in the making, in the variable's block X: the items fs. -/
structure CpP (w W : World) (X : Nat) (E O : Int) (u : Value) (fs : List El) : Prop where
  bel : Below w.heap.size w W
  hX : w.heap.size ≤ X
  row : OVt W (X + 1) u fs
  box : Box3 W X (.int .i64 E) (.int .i64 O) u
section
variable {w W W' w2 w3 : World} {X : Nat} {E O : Int} {u v' : Value} {fs : List El} {e : El} {ob : Obj}
theorem CpP.step (h : CpP w W X E O u fs) (hb : Below W.heap.size W W') : CpP w W' X E O u fs := ⟨h.bel.trans (hb.mono h.bel.size), h.hX, h.row.below hb, h.box.step hb⟩
theorem CpP.mid (h : CpP w W X E O u fs) (hb : Below W.heap.size W w2) : Below W.heap.size W (w2.alloc ob) ∧ X + 1 ≤ (w2.alloc ob).heap.size := by
  have hba : Below w2.heap.size w2 (w2.alloc ob) := (Below.refl _ _).alloc (Nat.le_refl _) _
  have hlt := h.box.lt
  have hs2 := hb.size
  exact ⟨hb.trans (hba.mono hs2), by simp; omega⟩
theorem CpP.more (h : CpP w W X E O u fs) (hb : Below W.heap.size W w2) (hov : OVt w3 (X + 1) v' (fs ++ [e])) (hg : (w2.alloc ob).grownBy w3 u.ownBlock) :
    CpP w (w3.setCell ⟨X, 2, none⟩ v') X E O v' (fs ++ [e]) ∧ Below (X + 1) W w3 := by
  obtain ⟨hb2, hx2⟩ := h.mid (ob := ob) hb
  have hx := h.hX
  have hlt := h.box.lt
  have hr2 := h.row.below hb2
  have hbw : Below (X + 1) W w3 := (hb2.mono (by omega)).grown hg hx2 (fun k hk => (hr2.blk hk).1)
  have hon : Only (fun b => b = X) w3 (w3.setCell ⟨X, 2, none⟩ v') := (Only.refl (fun b => b = X) w3).setCell (p := ⟨X, 2, none⟩) (.inl rfl) _
  exact ⟨⟨(h.bel.trans (hbw.mono (by omega))).setCell (p := ⟨X, 2, none⟩) hx _, hx, hov.stay hon (fun b hb e => by have := (hov.blk hb).1; omega), (h.box.keep hbw (by omega)).set2 _⟩, hbw⟩
theorem CpP.deep (h : CpP w W X E O u fs) (hd : Deep W (X + 1) fs) (hb : Below W.heap.size W w2) (hm : Mine w2 W.heap.size w2.heap.size e.a e.c e.ls) (hg : (w2.alloc ob).grownBy w3 u.ownBlock) :
    Deep (w3.setCell ⟨X, 2, none⟩ v') (X + 1) (fs ++ [e]) := by
  obtain ⟨hb2, hx2⟩ := h.mid (ob := ob) hb
  have hba : Below w2.heap.size w2 (w2.alloc ob) := (Below.refl _ _).alloc (Nat.le_refl _) _
  have hlt := h.box.lt
  have hd2 : Deep (w2.alloc ob) (X + 1) (fs ++ [e]) := ((hd.below hb).snoc (U := W.heap.size) hm (fun x hx k hk => hd.lt x hx k hk) (by omega)).below hba
  have hr2 := h.row.below hb2
  have hd3 : Deep w3 (X + 1) (fs ++ [e]) := hd2.stay (Only.ofGrownT hg) (fun x hx k hk e => hr2.other (hd2.mine x hx) e hk)
  have hon : Only (fun b => b = X) w3 (w3.setCell ⟨X, 2, none⟩ v') := (Only.refl (fun b => b = X) w3).setCell (p := ⟨X, 2, none⟩) (.inl rfl) _
  exact hd3.stay hon (fun x hx b hb e => by have := ((hd3.mine x hx).rowE hb).1; omega)
end
theorem rE_ctT {ss ts : List El} (h : ts.map El.ct = ss.map El.ct) (hr : ∀ e ∈ ss, rE true e) : ∀ e ∈ ts, rE true e := by
  intro e he
  obtain ⟨i, hi, rfl⟩ := memE_get he
  have hl := len_ctE h
  have h1 := ctE_get h i
  have h2 := hr _ (getD_memE (es := ss) (k := i) (by omega))
  have hn : (ts.getD i de).n = (ss.getD i de).n := congrArg Prod.fst h1
  have hls : (ts.getD i de).ls = (ss.getD i de).ls := congrArg Prod.snd h1
  exact ⟨by rw [hn]; exact h2.lo, by rw [hn]; exact h2.hi, by rw [hls]; exact h2.len, by simp⟩
end Go.Proofs.YtdkffeemnenhdaaGreatDoor
namespace Go.Proofs.YtdkffeemnenhdaaGreatDoor
open Go.RowKit
set_option linter.unusedVariables false
set_option linter.unusedSimpArgs false

/-- What a copying loop has behind k rounds. -/
structure OwP7 (w W : World) (E O : Int) (a : Option Addr) (n cap : Nat) (u : Value) (fs : List El) : Prop where
  cp : CpP w W (w.heap.size + 1 + 1) E O u fs
  dp : Deep W (w.heap.size + 1 + 1 + 1) fs
  bx : Box3 W w.heap.size (.int .i64 E) (.int .i64 O) (.slice a n cap)
  by' : Box3 W (w.heap.size + 1) (.int .i64 0) (.int .i64 0) (.slice none 0 0)
theorem OwP7.start (w : World) (E O : Int) (a : Option Addr) (n cap : Nat) (T T2 T3 : TypeId) : OwP7 w (((w.alloc (Obj.cells #[Value.int IntKind.i64 E, Value.int IntKind.i64 O, Value.slice a n cap] T)).alloc (Obj.cells #[Value.int IntKind.i64 0, Value.int IntKind.i64 0, Value.slice none 0 0] T2)).alloc (Obj.cells #[Value.int IntKind.i64 E, Value.int IntKind.i64 O, Value.slice none 0 0] T3)) E O a n cap (.slice none 0 0) [] := by
  have h1 := ((Box3.new w (.int .i64 E) (.int .i64 O) (.slice a n cap) T).alloc (Obj.cells #[Value.int IntKind.i64 0, Value.int IntKind.i64 0, Value.slice none 0 0] T2)).alloc (Obj.cells #[Value.int IntKind.i64 E, Value.int IntKind.i64 O, Value.slice none 0 0] T3)
  have h2 := (Box3.new (w.alloc (Obj.cells #[Value.int IntKind.i64 E, Value.int IntKind.i64 O, Value.slice a n cap] T)) (.int .i64 0) (.int .i64 0) (.slice none 0 0) T2).alloc (Obj.cells #[Value.int IntKind.i64 E, Value.int IntKind.i64 O, Value.slice none 0 0] T3)
  have h3 := Box3.new ((w.alloc (Obj.cells #[Value.int IntKind.i64 E, Value.int IntKind.i64 O, Value.slice a n cap] T)).alloc (Obj.cells #[Value.int IntKind.i64 0, Value.int IntKind.i64 0, Value.slice none 0 0] T2)) (.int .i64 E) (.int .i64 O) (.slice none 0 0) T3
  simp only [World.size_alloc] at h2 h3
  exact ⟨⟨(((Below.refl _ _).alloc (Nat.le_refl _) _).alloc (by simp) _).alloc (by simp; omega) _, by omega, OVt.nil _ _, h3⟩, Deep.nil _ _, h1, h2⟩
theorem OwP7.step {w W W' : World} {E O : Int} {a : Option Addr} {n cap : Nat} {u : Value} {fs : List El} (h : OwP7 w W E O a n cap u fs) (hb : Below W.heap.size W W') : OwP7 w W' E O a n cap u fs := ⟨h.cp.step hb, h.dp.below hb, h.bx.step hb, h.by'.step hb⟩
theorem OwP7.more {w W w2 w3 : World} {E O : Int} {a : Option Addr} {n cap : Nat} {u v' : Value} {fs : List El} {e : El} {ob : Obj} (h : OwP7 w W E O a n cap u fs) (hb : Below W.heap.size W w2) (hm : Mine w2 W.heap.size w2.heap.size e.a e.c e.ls) (hov : OVt w3 (w.heap.size + 1 + 1 + 1) v' (fs ++ [e])) (hg : (w2.alloc ob).grownBy w3 u.ownBlock) :
    OwP7 w (w3.setCell ⟨w.heap.size + 1 + 1, 2, none⟩ v') E O a n cap v' (fs ++ [e]) ∧ Below (w.heap.size + 1 + 1 + 1) W w3 := by
  obtain ⟨h1, h2⟩ := h.cp.more hb hov hg
  exact ⟨⟨h1, h.cp.deep h.dp hb hm hg, (h.bx.keep h2 (by omega)).other (by simp; omega) _, (h.by'.keep h2 (by omega)).other (by simp) _⟩, h2⟩
/-- The answer: copies of the call's own. -/
def OwA (E O : Int) (es : List El) (w : World) (r : Ending) (w' : World) : Prop := (∃ v ts, r = .returned (.agg #[.int .i64 E, .int .i64 O, v]) ∧ CopT w' w.heap.size v ts es) ∧ Below w.heap.size w w'
theorem OwP7.last {w W : World} {E O : Int} {a : Option Addr} {n cap : Nat} {u : Value} {fs es : List El} (h : OwP7 w W E O a n cap u fs) (hc : fs.map El.ct = es.map El.ct) (hr : ∀ e ∈ es, rE true e) :
    OwA E O es w (.returned (.agg #[.int .i64 E, .int .i64 O, u])) (((W.setCell ⟨w.heap.size + 1, 0, none⟩ (.int .i64 E)).setCell ⟨w.heap.size + 1, 1, none⟩ (.int .i64 O)).setCell ⟨w.heap.size + 1, 2, none⟩ u) := by
  have hcp : CopT W (w.heap.size + 1 + 1 + 1) u fs es := ⟨hc, h.cp.row, h.dp, rE_ctT hc hr⟩
  have hon : Only (fun b => b = w.heap.size + 1) W (((W.setCell ⟨w.heap.size + 1, 0, none⟩ (.int .i64 E)).setCell ⟨w.heap.size + 1, 1, none⟩ (.int .i64 O)).setCell ⟨w.heap.size + 1, 2, none⟩ u) :=
    (((Only.refl (fun b => b = w.heap.size + 1) W).setCell (p := ⟨w.heap.size + 1, 0, none⟩) (.inl rfl) _).setCell (p := ⟨w.heap.size + 1, 1, none⟩) (.inl rfl) _).setCell (p := ⟨w.heap.size + 1, 2, none⟩) (.inl rfl) _
  exact ⟨⟨u, fs, rfl, (hcp.stay hon (fun k hk e => by omega)).weak (by omega)⟩, h.cp.bel.trans (hon.below (by have := h.cp.bel.size; omega) (by intro k hk; omega))⟩

set_option maxRecDepth 20000 in
set_option maxHeartbeats 8000000 in
theorem l7own_any (E O : Int) (a : Option Addr) (cap : Nat) (es : List El) (w : World) (hb : Els true w a es) (hn : es.length ≤ 1000) (hl : ∀ s ∈ es, s.ls.length ≤ 1000000) :
    Calls Tryz.prog 45 #[.agg #[.int .i64 E, .int .i64 O, .slice a es.length cap]] w (OwA E O es w) := by
  have HB : Hid (Els true w a es) := hb
  have HL : Hid (∀ s ∈ es, s.ls.length ≤ 1000000) := hl
  have HRG : Hid (∀ e ∈ es, rE true e) := fun e he => (hb.1 e he).1
  clear hb hl
  generalize hlen : es.length = n at *
  have HLN : Hid (es.length = n ∧ True) := ⟨hlen, trivial⟩
  clear hlen
  have HS0 : Hid _ := OwP7.start w E O a n cap 29 29 29
  go_enter Tryz.func45, Tryz.ntmps45
  go_wp2
  go_loopw [4] (fun i wr => ∃ (k : Nat) (u : Value) (fs : List El), k ≤ n ∧ i = .int .i64 k ∧ fs.map El.ct = (es.take k).map El.ct ∧ OwP7 w wr E O a n cap u fs) (fun i _ => n - (intOf i).toNat)
  case atStart => exact ⟨0, _, [], Nat.zero_le _, rfl, by simp, HS0.out⟩
  case round =>
    clear HS0
    obtain ⟨k, u, fs, hk, rfl, hct, hop⟩ := hrel
    have HST : Hid (fs.map El.ct = (es.take k).map El.ct ∧ fs.length = k) := ⟨hct, by have := congrArg List.length hct; simp at this; have := HLN.out.1; omega⟩
    clear hct
    obtain ⟨fa, fc, rfl⟩ := hop.cp.row.form
    have HOP : Hid (OwP7 w wr E O a n cap (.slice fa fs.length fc) fs) := hop
    obtain ⟨c0, c1, c2, f0, f1, f2, hlX⟩ := hop.cp.box
    obtain ⟨x0, x1, x2, -, -, -, xl⟩ := hop.bx
    obtain ⟨r0, r1, r2, g0, g1, g2, rl⟩ := hop.by'
    have hbel := hop.cp.bel
    clear hop
    by_cases hlt : k < n
    · obtain ⟨b, off, rfl, hbl, d0, d1, hby, hrg⟩ := (HB.out.below hbel (Nat.le_refl _)).pen k (by rw [HLN.out.1]; exact hlt)
      have hbw : b < w.heap.size := by
        obtain ⟨b', o', e', h', _⟩ := HB.out.pen k (by rw [HLN.out.1]; exact hlt)
        simp at e'
        omega
      have hll := HL.out _ (getD_memE (k := k) (by rw [HLN.out.1]; exact hlt))
      have HCS : Hid ((es.take (k + 1)).map El.ct = (es.take k).map El.ct ++ [(es.getD k de).ct] ∧ True) := ⟨ctE_take_succ es k (by rw [HLN.out.1]; exact hlt), trivial⟩
      have hk1 : fs.length ≤ 1000 := by have := HST.out.2; omega
      clear hrg hbel
      generalize es.getD k de = s at *
      obtain ⟨sn, a2, c2', sl⟩ := s
      simp only at d0 d1 hby hll
      have HBY : Hid (Byt wr a2 sl) := hby
      clear hby
      have HE1 : Hid (OVB (wr.drew.alloc (Obj.cells #[] 5)) wr.heap.size (.slice (some ⟨wr.heap.size, 0, none⟩) 0 0) [] ∧ Byt (wr.drew.alloc (Obj.cells #[] 5)) a2 sl ∧ Below wr.heap.size wr (wr.drew.alloc (Obj.cells #[] 5))) := ⟨OVB.empty wr.drew _ (Nat.le_refl _), (HBY.out.drewN 1).alloc _, Below.drewS ((Below.refl wr.heap.size wr.drew).alloc (Nat.le_refl _) _)⟩
      go_wp2
      refine wp_region_cut (S := fun W => W.cell? ⟨w.heap.size + 1 + 1, 2, none⟩ = some (.slice fa fs.length fc) ∧ W.cell? ⟨w.heap.size, 2, none⟩ = some (.slice (some ⟨b, off, none⟩) n cap) ∧ W.cell? ⟨b, off + k * 2, none⟩ = some (.int .i64 sn) ∧ W.cell? ⟨b, off + k * 2 + 1, none⟩ = some (.slice a2 sl.length c2')) 19 (by kernel_rfl) (by kernel_rfl) (by exact ⟨c2, x2, d0, d1⟩) (fun hHeld => ?_)
      refine wpAnyH_take (i := 0) (v := ?_) rfl (by kernel_rfl) (by kernel_rfl) (by kernel_rfl) (fun _ _ _ h => h) (Or.inl ⟨by rfl, ?_⟩) (by assumption) ?_
      rotate_left 1
      · (intro w hSw; (try dsimp only at hSw); go_simp; try (with_reducible rfl))
      try simp only [List.getElem_toArray, List.getElem_cons_zero, List.getElem_cons_succ, Act.put, List.setIfInBounds_toArray, List.set_cons_zero, List.set_cons_succ]
      refine wpAnyH_take (i := 1) (v := ?_) rfl (by kernel_rfl) (by kernel_rfl) (by kernel_rfl) (fun _ _ _ h => h) (Or.inl ⟨by rfl, ?_⟩) (by assumption) ?_
      rotate_left 1
      · (intro w hSw; (try dsimp only at hSw); go_simp; try (with_reducible rfl))
      try simp only [List.getElem_toArray, List.getElem_cons_zero, List.getElem_cons_succ, Act.put, List.setIfInBounds_toArray, List.set_cons_zero, List.set_cons_succ]
      refine wpAnyH_take (i := 2) (v := ?_) rfl (by kernel_rfl) (by kernel_rfl) (by kernel_rfl) (fun _ _ _ h => h) (Or.inl ⟨by rfl, ?_⟩) (by assumption) ?_
      rotate_left 1
      · (intro w hSw; (try dsimp only at hSw); go_simp; try (with_reducible rfl))
      try simp only [List.getElem_toArray, List.getElem_cons_zero, List.getElem_cons_succ, Act.put, List.setIfInBounds_toArray, List.set_cons_zero, List.set_cons_succ]
      refine wpAnyH_take (i := 3) (v := ?_) rfl (by kernel_rfl) (by kernel_rfl) (by kernel_rfl) (fun _ _ _ h => h) (Or.inl ⟨by rfl, ?_⟩) (by assumption) ?_
      rotate_left 1
      · (intro w hSw; (try dsimp only at hSw); go_simp; try (with_reducible rfl))
      try simp only [List.getElem_toArray, List.getElem_cons_zero, List.getElem_cons_succ, Act.put, List.setIfInBounds_toArray, List.set_cons_zero, List.set_cons_succ]
      refine wpAnyH_take (i := 4) (v := ?_) rfl (by kernel_rfl) (by kernel_rfl) (by kernel_rfl) (fun _ _ _ h => h) (Or.inl ⟨by rfl, ?_⟩) (by assumption) ?_
      rotate_left 1
      · (intro w hSw; (try dsimp only at hSw); go_simp; try (with_reducible rfl))
      try simp only [List.getElem_toArray, List.getElem_cons_zero, List.getElem_cons_succ, Act.put, List.setIfInBounds_toArray, List.set_cons_zero, List.set_cons_succ]
      refine wpAnyH_take (i := 5) (v := ?_) rfl (by kernel_rfl) (by kernel_rfl) (by kernel_rfl) (fun _ _ _ h => h) (Or.inl ⟨by rfl, ?_⟩) (by assumption) ?_
      rotate_left 1
      · (intro w hSw; (try dsimp only at hSw); go_simp; try (with_reducible rfl))
      try simp only [List.getElem_toArray, List.getElem_cons_zero, List.getElem_cons_succ, Act.put, List.setIfInBounds_toArray, List.set_cons_zero, List.set_cons_succ]
      refine wpAnyH_take (i := 6) (v := ?_) rfl (by kernel_rfl) (by kernel_rfl) (by kernel_rfl) (fun _ _ _ h => h) (Or.inl ⟨by rfl, ?_⟩) (by assumption) ?_
      rotate_left 1
      · (intro w hSw; (try dsimp only at hSw); go_simp; try (with_reducible rfl))
      try simp only [List.getElem_toArray, List.getElem_cons_zero, List.getElem_cons_succ, Act.put, List.setIfInBounds_toArray, List.set_cons_zero, List.set_cons_succ]
      refine wpAnyH_take (i := 7) (v := ?_) rfl (by kernel_rfl) (by kernel_rfl) (by kernel_rfl) (fun _ _ _ h => h) (Or.inl ⟨by rfl, ?_⟩) (by assumption) ?_
      rotate_left 1
      · (intro w hSw; (try dsimp only at hSw); go_simp; try (with_reducible rfl))
      try simp only [List.getElem_toArray, List.getElem_cons_zero, List.getElem_cons_succ, Act.put, List.setIfInBounds_toArray, List.set_cons_zero, List.set_cons_succ]
      refine wpAnyH_take (i := 9) (v := ?_) rfl (by kernel_rfl) (by kernel_rfl) (by kernel_rfl) (fun _ _ _ h => h) (Or.inl ⟨by rfl, ?_⟩) (by assumption) ?_
      rotate_left 1
      · (intro w hSw; (try dsimp only at hSw); go_simp; try (with_reducible rfl))
      try simp only [List.getElem_toArray, List.getElem_cons_zero, List.getElem_cons_succ, Act.put, List.setIfInBounds_toArray, List.set_cons_zero, List.set_cons_succ]
      refine wpAnyH_take (i := 10) (v := ?_) rfl (by kernel_rfl) (by kernel_rfl) (by kernel_rfl) (fun _ _ _ h => h) (Or.inl ⟨by rfl, ?_⟩) (by assumption) ?_
      rotate_left 1
      · (intro w hSw; (try dsimp only at hSw); go_simp; try (with_reducible rfl))
      try simp only [List.getElem_toArray, List.getElem_cons_zero, List.getElem_cons_succ, Act.put, List.setIfInBounds_toArray, List.set_cons_zero, List.set_cons_succ]
      refine wpAnyH_take (i := 11) (v := ?_) rfl (by kernel_rfl) (by kernel_rfl) (by kernel_rfl) (fun _ _ _ h => h) (Or.inl ⟨by rfl, ?_⟩) (by assumption) ?_
      rotate_left 1
      · (intro w hSw; (try dsimp only at hSw); go_simp; try (with_reducible rfl))
      try simp only [List.getElem_toArray, List.getElem_cons_zero, List.getElem_cons_succ, Act.put, List.setIfInBounds_toArray, List.set_cons_zero, List.set_cons_succ]
      refine wpAnyH_take (i := 12) (v := ?_) rfl (by kernel_rfl) (by kernel_rfl) (by kernel_rfl) (fun _ _ _ h => h) (Or.inl ⟨by rfl, ?_⟩) (by assumption) ?_
      rotate_left 1
      · (intro w hSw; (try dsimp only at hSw); go_simp; try (with_reducible rfl))
      try simp only [List.getElem_toArray, List.getElem_cons_zero, List.getElem_cons_succ, Act.put, List.setIfInBounds_toArray, List.set_cons_zero, List.set_cons_succ]
      refine wpAnyH_take (i := 13) (v := ?_) rfl (by kernel_rfl) (by kernel_rfl) (by kernel_rfl) (fun _ _ _ h => h) (Or.inl ⟨by rfl, ?_⟩) (by assumption) ?_
      rotate_left 1
      · (intro w hSw; (try dsimp only at hSw); go_simp; try (with_reducible rfl))
      try simp only [List.getElem_toArray, List.getElem_cons_zero, List.getElem_cons_succ, Act.put, List.setIfInBounds_toArray, List.set_cons_zero, List.set_cons_succ]
      refine wpAnyH_take (i := 14) (v := ?_) rfl (by kernel_rfl) (by kernel_rfl) (by kernel_rfl) (fun _ _ _ h => h) (Or.inl ⟨by rfl, ?_⟩) (by assumption) ?_
      rotate_left 1
      · (intro w hSw; (try dsimp only at hSw); go_simp; try (with_reducible rfl))
      try simp only [List.getElem_toArray, List.getElem_cons_zero, List.getElem_cons_succ, Act.put, List.setIfInBounds_toArray, List.set_cons_zero, List.set_cons_succ]
      refine wpAnyH_ready (rs := [8]) (by kernel_rfl) (by simp) ?_
      refine AllReadyH.cons rfl (fun K hK => ?_) AllReadyH.nil
      go_simp
      refine hK.out _ _ (by exact ⟨keepA _ hlX c2, keepA _ (by omega) x2, keepA _ hbl d0, keepA _ hbl d1⟩) (fun hHeld => ?_)
      clear hK K
      try simp only [List.getElem_toArray, List.getElem_cons_zero, List.getElem_cons_succ, Act.put, List.setIfInBounds_toArray, List.set_cons_zero, List.set_cons_succ]
      refine wpAnyH_ready (rs := [15]) (by kernel_rfl) (by simp) ?_
      refine AllReadyH.cons rfl (fun K hK => ?_) AllReadyH.nil
      refine wanted_step rfl (wp_append_byt (.tmp 25) (.tmp 31) rfl wr.heap.size (.slice (some ⟨wr.heap.size, 0, none⟩) 0 0) [] (by simp [Act.eval]) (HE1.out.1) a2 c2' sl (by simp [Act.eval]) (HE1.out.2.1) (by simp; omega) (by simp) ?_)
      intro v2 w2 hov2 hg2
      have hb2 : Below wr.heap.size wr w2 := appB_below HE1.out.2.2 (by simp) HE1.out.1 hg2
      rw [List.nil_append] at hov2
      obtain ⟨ua, uc, rfl, hm2⟩ := hov2.mine
      have HM2 : Hid (Mine w2 wr.heap.size w2.heap.size ua uc sl ∧ Below wr.heap.size wr w2) := ⟨hm2, hb2⟩
      have k0 := keep hb2 hlX c2
      have k1 := keep hb2 (by omega) x2
      have k2 := keep hb2 hbl d0
      have k3 := keep hb2 hbl d1
      have hl2 : w.heap.size + 1 + 1 < w2.heap.size := by have := hb2.size; omega
      have hbl2 : b < w2.heap.size := by have := hb2.size; omega
      clear hm2 hb2 hov2 hg2
      refine hK.out _ _ (by exact ⟨k0, k1, k2, k3⟩) (fun hHeld => ?_)
      clear hK K
      try simp only [List.getElem_toArray, List.getElem_cons_zero, List.getElem_cons_succ, Act.put, List.setIfInBounds_toArray, List.set_cons_zero, List.set_cons_succ]
      refine wpAnyH_take (i := 16) (v := ?_) rfl (by kernel_rfl) (by kernel_rfl) (by kernel_rfl) (fun _ _ _ h => h) (Or.inl ⟨by rfl, ?_⟩) (by assumption) ?_
      rotate_left 1
      · (intro w hSw; (try dsimp only at hSw); go_simp; try (with_reducible rfl))
      try simp only [List.getElem_toArray, List.getElem_cons_zero, List.getElem_cons_succ, Act.put, List.setIfInBounds_toArray, List.set_cons_zero, List.set_cons_succ]
      refine wpAnyH_ready (rs := [17]) (by kernel_rfl) (by simp) ?_
      refine AllReadyH.cons rfl (fun K hK => ?_) AllReadyH.nil
      go_simp
      refine hK.out _ _ (by exact ⟨keepA _ hl2 k0, keepA _ (by omega) k1, keepA _ hbl2 k2, keepA _ hbl2 k3⟩) (fun hHeld => ?_)
      clear hK K
      try simp only [List.getElem_toArray, List.getElem_cons_zero, List.getElem_cons_succ, Act.put, List.setIfInBounds_toArray, List.set_cons_zero, List.set_cons_succ]
      refine wpAnyH_ready (rs := [18]) (by kernel_rfl) (by simp) ?_
      refine AllReadyH.cons rfl (fun K hK => ?_) AllReadyH.nil
      refine wanted_step rfl (wp_append_it (.tmp 18) (.tmp 34) rfl (w.heap.size + 1 + 1 + 1) (.slice fa fs.length fc) fs (by simp [Act.eval]) (HOP.out.cp.row.below (HOP.out.cp.mid HM2.out.2).1) w2.heap.size 1 ⟨sn, ua, uc, sl⟩ (by simp [Act.eval]) (newsT w2 sn _ sl.length uc 40 _ rfl rfl rfl rfl) (by omega) (by simp; omega) ?_)
      intro v3 w3 hov3 hg3
      obtain ⟨sa3, sc3, hv3⟩ := hov3.form
      rw [List.length_append, List.length_singleton] at hv3
      subst hv3
      have HM : Hid _ := HOP.out.more (e := ⟨sn, ua, uc, sl⟩) HM2.out.2 HM2.out.1 hov3 hg3
      have e3 := keep HM.out.2 (by omega) c2
      have y3 := keep HM.out.2 (by omega) x2
      have hne : ¬ (Value.slice fa fs.length fc).ownBlock = some b := fun he => by have := (HOP.out.cp.row.blk he).1; omega
      have d3 := (Only.ofGrownT hg3).cell (b := b) (o := off + k * 2) (by simp; omega) hne (keepA _ hbl2 k2)
      have d4 := (Only.ofGrownT hg3).cell (b := b) (o := off + k * 2 + 1) (by simp; omega) hne (keepA _ hbl2 k3)
      have g3 := (HM.out.2.frozen (p := ⟨w.heap.size + 1 + 1, 2, none⟩) (by simp)).trans f2
      have hl3 : w.heap.size + 1 + 1 < w3.heap.size := by have := HM.out.2.size; omega
      clear hov3 hg3
      refine hK.out _ _ (by exact ⟨e3, y3, d3, d4⟩) (fun hHeld => ?_)
      clear hK K
      try simp only [List.getElem_toArray, List.getElem_cons_zero, List.getElem_cons_succ, Act.put, List.setIfInBounds_toArray, List.set_cons_zero, List.set_cons_succ]
      refine wpAnyH_done (by kernel_rfl) ?_ _
      simp only [cutQ, List.drop_succ_cons, List.drop_zero]
      clear HE1 d0 d1 k0 k1 k2 k3 y3 d3 d4
      have HCT2 : Hid ((fs ++ [(⟨sn, ua, uc, sl⟩ : El)]).map El.ct = (es.take (k + 1)).map El.ct ∧ True) := ⟨by rw [List.map_append, HST.out.1, HCS.out.1]; rfl, trivial⟩
      have HMC : Hid (OwP7 w (w3.setCell ⟨w.heap.size + 1 + 1, 2, none⟩ (.slice sa3 (fs.length + 1) sc3)) E O (some ⟨b, off, none⟩) n cap (.slice sa3 (fs.length + 1) sc3) (fs ++ [⟨sn, ua, uc, sl⟩])) := HM.out.1
      clear HM HM2 HCS HST HOP c0 c1 c2 f0 f1 f2 x0 x1 x2 r0 r1 r2 g0 g1 g2
      go_wp2
      go_roundw
      case rel => exact ⟨k + 1, _, _, by omega, by go_num, HCT2.out.1, HMC.out⟩
      case measure => simp [intOf]; omega
    · have hkn : k = n := by omega
      subst hkn
      have HFS : Hid (fs.map El.ct = es.map El.ct ∧ True) := ⟨by rw [HST.out.1, List.take_of_length_le (by rw [HLN.out.1]; exact Nat.le_refl _)], trivial⟩
      have HLA : Hid _ := HOP.out.last HFS.out.1 HRG.out
      clear HOP HST hbel x0 x1
      go_wp2
      refine bodyPost_ret (v := .agg #[.int .i64 E, .int .i64 O, .slice fa fs.length fc]) (by simp [results, Tryz.results45, go_sem, r0, r1, r2]) rfl ?_
      exact HLA.out

set_option maxRecDepth 20000 in
set_option maxHeartbeats 8000000 in
theorem copied7_any (E O : Int) (a : Option Addr) (cap : Nat) (es : List El) (w : World) (hb : Els true w a es) (hn : es.length ≤ 1000) (hl : ∀ s ∈ es, s.ls.length ≤ 1000000) :
    Calls Tryz.prog 48 #[.agg #[.int .i64 E, .int .i64 O, .slice a es.length cap]] w (OwA E O es w) := by
  have HB : Hid (Els true w a es) := hb
  have HL : Hid (∀ s ∈ es, s.ls.length ≤ 1000000) := hl
  have HRG : Hid (∀ e ∈ es, rE true e) := fun e he => (hb.1 e he).1
  clear hb hl
  generalize hlen : es.length = n at *
  have HLN : Hid (es.length = n ∧ True) := ⟨hlen, trivial⟩
  clear hlen
  have HS0 : Hid _ := OwP7.start w E O a n cap 29 29 29
  go_enter Tryz.func48, Tryz.ntmps48
  go_wp2
  go_loopw [14] (fun i wr => ∃ (k : Nat) (u : Value) (fs : List El), k ≤ n ∧ i = .int .i64 k ∧ fs.map El.ct = (es.take k).map El.ct ∧ OwP7 w wr E O a n cap u fs) (fun i _ => n - (intOf i).toNat)
  case atStart => exact ⟨0, _, [], Nat.zero_le _, rfl, by simp, HS0.out⟩
  case round =>
    clear HS0
    obtain ⟨k, u, fs, hk, rfl, hct, hop⟩ := hrel
    have HST : Hid (fs.map El.ct = (es.take k).map El.ct ∧ fs.length = k) := ⟨hct, by have := congrArg List.length hct; simp at this; have := HLN.out.1; omega⟩
    clear hct
    obtain ⟨fa, fc, rfl⟩ := hop.cp.row.form
    have HOP : Hid (OwP7 w wr E O a n cap (.slice fa fs.length fc) fs) := hop
    obtain ⟨c0, c1, c2, f0, f1, f2, hlX⟩ := hop.cp.box
    obtain ⟨x0, x1, x2, -, -, -, xl⟩ := hop.bx
    obtain ⟨r0, r1, r2, g0, g1, g2, rl⟩ := hop.by'
    have hbel := hop.cp.bel
    clear hop
    by_cases hlt : k < n
    · obtain ⟨b, off, rfl, hbl, d0, d1, hby, hrg⟩ := (HB.out.below hbel (Nat.le_refl _)).pen k (by rw [HLN.out.1]; exact hlt)
      have hbw : b < w.heap.size := by
        obtain ⟨b', o', e', h', _⟩ := HB.out.pen k (by rw [HLN.out.1]; exact hlt)
        simp at e'
        omega
      have hll := HL.out _ (getD_memE (k := k) (by rw [HLN.out.1]; exact hlt))
      have HCS : Hid ((es.take (k + 1)).map El.ct = (es.take k).map El.ct ++ [(es.getD k de).ct] ∧ True) := ⟨ctE_take_succ es k (by rw [HLN.out.1]; exact hlt), trivial⟩
      have hk1 : fs.length ≤ 1000 := by have := HST.out.2; omega
      clear hrg hbel
      generalize es.getD k de = s at *
      obtain ⟨sn, a2, c2', sl⟩ := s
      simp only at d0 d1 hby hll
      have HBY : Hid (Byt wr a2 sl) := hby
      clear hby
      have hba : Below wr.heap.size wr (wr.alloc (Obj.cells #[Value.int IntKind.i64 sn, Value.slice a2 sl.length c2'] 40)) := (Below.refl _ _).alloc (Nat.le_refl _) _
      have HOP1 : Hid _ := HOP.out.step hba
      have HCN := bytesClone_any a2 c2' sl (wr.alloc (Obj.cells #[Value.int IntKind.i64 sn, Value.slice a2 sl.length c2'] 40)).drew ((HBY.out.below hba (Nat.le_refl _)).drewN 1) hll
      have e0 : (wr.alloc (Obj.cells #[Value.int IntKind.i64 sn, Value.slice a2 sl.length c2'] 40)).cell? ⟨wr.heap.size, 0, none⟩ = some (.int .i64 sn) := by simp
      have e1 : (wr.alloc (Obj.cells #[Value.int IntKind.i64 sn, Value.slice a2 sl.length c2'] 40)).cell? ⟨wr.heap.size, 1, none⟩ = some (.slice a2 sl.length c2') := by simp
      have hb1l : wr.heap.size < (wr.alloc (Obj.cells #[Value.int IntKind.i64 sn, Value.slice a2 sl.length c2'] 40)).heap.size := by simp
      go_wp2
      clear hba d0 d1 c0 c1 c2 f0 f1 f2 x0 x1 x2
      generalize wr.alloc (Obj.cells #[Value.int IntKind.i64 sn, Value.slice a2 sl.length c2'] 40) = W1 at *
      obtain ⟨c0, c1, c2, f0, f1, f2, hl1⟩ := HOP1.out.cp.box
      obtain ⟨x0, x1, x2, -, -, -, xl1⟩ := HOP1.out.bx
      have d0 := e0
      have d1 := e1
      refine wp_region_cut (S := fun W => W.cell? ⟨w.heap.size + 1 + 1, 2, none⟩ = some (.slice fa fs.length fc) ∧ W.cell? ⟨wr.heap.size, 0, none⟩ = some (.int .i64 sn) ∧ W.cell? ⟨wr.heap.size, 1, none⟩ = some (.slice a2 sl.length c2')) 10 (by kernel_rfl) (by kernel_rfl) (by exact ⟨c2, d0, d1⟩) (fun hHeld => ?_)
      refine wpAnyH_take (i := 0) (v := ?_) rfl (by kernel_rfl) (by kernel_rfl) (by kernel_rfl) (fun _ _ _ h => h) (Or.inl ⟨by rfl, ?_⟩) (by assumption) ?_
      rotate_left 1
      · (intro w hSw; (try dsimp only at hSw); go_simp; try (with_reducible rfl))
      try simp only [List.getElem_toArray, List.getElem_cons_zero, List.getElem_cons_succ, Act.put, List.setIfInBounds_toArray, List.set_cons_zero, List.set_cons_succ]
      refine wpAnyH_take (i := 1) (v := ?_) rfl (by kernel_rfl) (by kernel_rfl) (by kernel_rfl) (fun _ _ _ h => h) (Or.inl ⟨by rfl, ?_⟩) (by assumption) ?_
      rotate_left 1
      · (intro w hSw; (try dsimp only at hSw); go_simp; try (with_reducible rfl))
      try simp only [List.getElem_toArray, List.getElem_cons_zero, List.getElem_cons_succ, Act.put, List.setIfInBounds_toArray, List.set_cons_zero, List.set_cons_succ]
      refine wpAnyH_take (i := 2) (v := ?_) rfl (by kernel_rfl) (by kernel_rfl) (by kernel_rfl) (fun _ _ _ h => h) (Or.inl ⟨by rfl, ?_⟩) (by assumption) ?_
      rotate_left 1
      · (intro w hSw; (try dsimp only at hSw); go_simp; try (with_reducible rfl))
      try simp only [List.getElem_toArray, List.getElem_cons_zero, List.getElem_cons_succ, Act.put, List.setIfInBounds_toArray, List.set_cons_zero, List.set_cons_succ]
      refine wpAnyH_take (i := 3) (v := ?_) rfl (by kernel_rfl) (by kernel_rfl) (by kernel_rfl) (fun _ _ _ h => h) (Or.inl ⟨by rfl, ?_⟩) (by assumption) ?_
      rotate_left 1
      · (intro w hSw; (try dsimp only at hSw); go_simp; try (with_reducible rfl))
      try simp only [List.getElem_toArray, List.getElem_cons_zero, List.getElem_cons_succ, Act.put, List.setIfInBounds_toArray, List.set_cons_zero, List.set_cons_succ]
      refine wpAnyH_take (i := 4) (v := ?_) rfl (by kernel_rfl) (by kernel_rfl) (by kernel_rfl) (fun _ _ _ h => h) (Or.inl ⟨by rfl, ?_⟩) (by assumption) ?_
      rotate_left 1
      · (intro w hSw; (try dsimp only at hSw); go_simp; try (with_reducible rfl))
      try simp only [List.getElem_toArray, List.getElem_cons_zero, List.getElem_cons_succ, Act.put, List.setIfInBounds_toArray, List.set_cons_zero, List.set_cons_succ]
      refine wpAnyH_take (i := 5) (v := ?_) rfl (by kernel_rfl) (by kernel_rfl) (by kernel_rfl) (fun _ _ _ h => h) (Or.inl ⟨by rfl, ?_⟩) (by assumption) ?_
      rotate_left 1
      · (intro w hSw; (try dsimp only at hSw); go_simp; try (with_reducible rfl))
      try simp only [List.getElem_toArray, List.getElem_cons_zero, List.getElem_cons_succ, Act.put, List.setIfInBounds_toArray, List.set_cons_zero, List.set_cons_succ]
      refine wpAnyH_ready (rs := [6]) (by kernel_rfl) (by simp) ?_
      refine AllReadyH.cons rfl (fun K hK => ?_) AllReadyH.nil
      go_simp
      refine HCN.mono ?_
      clear HCN
      rintro e w2 ⟨⟨v2, rfl, hov2⟩, hb2'⟩
      have hb2 : Below W1.heap.size W1 w2 := Below.drewS hb2'
      obtain ⟨ua, uc, rfl, hm2⟩ := hov2.mine
      have HM2 : Hid (Mine w2 W1.heap.size w2.heap.size ua uc sl ∧ Below W1.heap.size W1 w2) := ⟨hm2, hb2⟩
      have k0 := keep hb2 hl1 c2
      have k2 := keep hb2 hb1l d0
      have k3 := keep hb2 hb1l d1
      have hl2 : w.heap.size + 1 + 1 < w2.heap.size := by have := hb2.size; omega
      have hbl2 : wr.heap.size < w2.heap.size := by have := hb2.size; omega
      clear hm2 hb2 hov2 hb2'
      dsimp only
      refine hK.out _ _ (by exact ⟨k0, k2, k3⟩) (fun hHeld => ?_)
      clear hK K
      try simp only [List.getElem_toArray, List.getElem_cons_zero, List.getElem_cons_succ, Act.put, List.setIfInBounds_toArray, List.set_cons_zero, List.set_cons_succ]
      refine wpAnyH_take (i := 7) (v := ?_) rfl (by kernel_rfl) (by kernel_rfl) (by kernel_rfl) (fun _ _ _ h => h) (Or.inl ⟨by rfl, ?_⟩) (by assumption) ?_
      rotate_left 1
      · (intro w hSw; (try dsimp only at hSw); go_simp; try (with_reducible rfl))
      try simp only [List.getElem_toArray, List.getElem_cons_zero, List.getElem_cons_succ, Act.put, List.setIfInBounds_toArray, List.set_cons_zero, List.set_cons_succ]
      refine wpAnyH_ready (rs := [8]) (by kernel_rfl) (by simp) ?_
      refine AllReadyH.cons rfl (fun K hK => ?_) AllReadyH.nil
      go_simp
      refine hK.out _ _ (by exact ⟨keepA _ hl2 k0, keepA _ hbl2 k2, keepA _ hbl2 k3⟩) (fun hHeld => ?_)
      clear hK K
      try simp only [List.getElem_toArray, List.getElem_cons_zero, List.getElem_cons_succ, Act.put, List.setIfInBounds_toArray, List.set_cons_zero, List.set_cons_succ]
      refine wpAnyH_ready (rs := [9]) (by kernel_rfl) (by simp) ?_
      refine AllReadyH.cons rfl (fun K hK => ?_) AllReadyH.nil
      refine wanted_step rfl (wp_append_it (.tmp 19) (.tmp 26) rfl (w.heap.size + 1 + 1 + 1) (.slice fa fs.length fc) fs (by simp [Act.eval]) (HOP1.out.cp.row.below (HOP1.out.cp.mid HM2.out.2).1) w2.heap.size 1 ⟨sn, ua, uc, sl⟩ (by simp [Act.eval]) (newsT w2 sn _ sl.length uc 40 _ rfl rfl rfl rfl) (by omega) (by simp; omega) ?_)
      intro v3 w3 hov3 hg3
      obtain ⟨sa3, sc3, hv3⟩ := hov3.form
      rw [List.length_append, List.length_singleton] at hv3
      subst hv3
      have HM : Hid _ := HOP1.out.more (e := ⟨sn, ua, uc, sl⟩) HM2.out.2 HM2.out.1 hov3 hg3
      have e3 := keep HM.out.2 (by omega) c2
      have hne : ¬ (Value.slice fa fs.length fc).ownBlock = some b := fun he => by have := (HOP.out.cp.row.blk he).1; omega
      have hne2 : ¬ (Value.slice fa fs.length fc).ownBlock = some wr.heap.size := fun he => by have := (HOP.out.cp.row.blk he).2; omega
      have d3 := (Only.ofGrownT hg3).cell (b := wr.heap.size) (o := 0) (by simp; omega) hne2 (keepA _ hbl2 k2)
      have d4 := (Only.ofGrownT hg3).cell (b := wr.heap.size) (o := 1) (by simp; omega) hne2 (keepA _ hbl2 k3)
      have g3 := (HM.out.2.frozen (p := ⟨w.heap.size + 1 + 1, 2, none⟩) (by simp)).trans f2
      have hl3 : w.heap.size + 1 + 1 < w3.heap.size := by have := HM.out.2.size; omega
      clear hov3 hg3
      refine hK.out _ _ (by exact ⟨e3, d3, d4⟩) (fun hHeld => ?_)
      clear hK K
      try simp only [List.getElem_toArray, List.getElem_cons_zero, List.getElem_cons_succ, Act.put, List.setIfInBounds_toArray, List.set_cons_zero, List.set_cons_succ]
      refine wpAnyH_done (by kernel_rfl) ?_ _
      simp only [cutQ, List.drop_succ_cons, List.drop_zero]
      clear HOP1 d0 d1 k0 k2 k3 d3 d4 e0 e1
      have HCT2 : Hid ((fs ++ [(⟨sn, ua, uc, sl⟩ : El)]).map El.ct = (es.take (k + 1)).map El.ct ∧ True) := ⟨by rw [List.map_append, HST.out.1, HCS.out.1]; rfl, trivial⟩
      have HMC : Hid (OwP7 w (w3.setCell ⟨w.heap.size + 1 + 1, 2, none⟩ (.slice sa3 (fs.length + 1) sc3)) E O (some ⟨b, off, none⟩) n cap (.slice sa3 (fs.length + 1) sc3) (fs ++ [⟨sn, ua, uc, sl⟩])) := HM.out.1
      clear HM HM2 HCS HST HOP c0 c1 c2 f0 f1 f2 x0 x1 x2 r0 r1 r2 g0 g1 g2
      go_wp2
      go_roundw
      case rel => exact ⟨k + 1, _, _, by omega, by go_num, HCT2.out.1, HMC.out⟩
      case measure => simp [intOf]; omega
    · have hkn : k = n := by omega
      subst hkn
      have HFS : Hid (fs.map El.ct = es.map El.ct ∧ True) := ⟨by rw [HST.out.1, List.take_of_length_le (by rw [HLN.out.1]; exact Nat.le_refl _)], trivial⟩
      have HLA : Hid _ := HOP.out.last HFS.out.1 HRG.out
      clear HOP HST hbel x0 x1
      go_wp2
      refine bodyPost_ret (v := .agg #[.int .i64 E, .int .i64 O, .slice fa fs.length fc]) (by simp [results, Tryz.results48, go_sem, r0, r1, r2]) rfl ?_
      exact HLA.out
end Go.Proofs.YtdkffeemnenhdaaGreatDoor
namespace Go.Proofs.YtdkffeemnenhdaaGreatDoor
open Go.RowKit
set_option linter.unusedVariables false
set_option linter.unusedSimpArgs false

/-- The items but those of an address. -/
def butL (x : Int) (es : List El) : List El := es.filter (fun e => e.n != x)
/-- One item more, behind the others; what was there of its address goes. -/
def addL (es : List El) (q : El) : List El := butL q.n es ++ [q]
theorem butL_succ (x : Int) (es : List El) (k : Nat) (h : k < es.length) : butL x (es.take (k + 1)) = if (es.getD k de).n = x then butL x (es.take k) else butL x (es.take k) ++ [es.getD k de] := by
  have e : es.getD k de = es[k] := by rw [List.getD_eq_getElem?_getD, List.getElem?_eq_getElem h]; rfl
  unfold butL
  rw [List.take_succ_eq_append_getElem h, List.filter_append, e]
  by_cases hx : es[k].n = x
  · rw [if_pos hx]
    simp [hx]
  · rw [if_neg hx]
    simp [hx]
theorem butL_len (x : Int) (es : List El) : (butL x es).length ≤ es.length := List.length_filter_le _ _

/-- What the loop has behind k rounds. -/
structure AdP (w W : World) (E O : Int) (a : Option Addr) (n cap : Nat) (q : El) (u : Value) (fs : List El) : Prop where
  cp : CpP w W (w.heap.size + 1 + 1 + 1) E O u fs
  bx : Box3 W w.heap.size (.int .i64 E) (.int .i64 O) (.slice a n cap)
  bq : Box2 W (w.heap.size + 1) (.int .i64 q.n) (.slice q.a q.ls.length q.c)
  by' : Box3 W (w.heap.size + 1 + 1) (.int .i64 0) (.int .i64 0) (.slice none 0 0)
theorem AdP.start (w : World) (E O : Int) (a : Option Addr) (n cap : Nat) (q : El) (T T1 T2 T3 : TypeId) : AdP w ((((w.alloc (Obj.cells #[Value.int IntKind.i64 E, Value.int IntKind.i64 O, Value.slice a n cap] T)).alloc (Obj.cells #[Value.int IntKind.i64 q.n, Value.slice q.a q.ls.length q.c] T1)).alloc (Obj.cells #[Value.int IntKind.i64 0, Value.int IntKind.i64 0, Value.slice none 0 0] T2)).alloc (Obj.cells #[Value.int IntKind.i64 E, Value.int IntKind.i64 O, Value.slice none 0 0] T3)) E O a n cap q (.slice none 0 0) [] := by
  have h1 := (((Box3.new w (.int .i64 E) (.int .i64 O) (.slice a n cap) T).alloc (Obj.cells #[Value.int IntKind.i64 q.n, Value.slice q.a q.ls.length q.c] T1)).alloc (Obj.cells #[Value.int IntKind.i64 0, Value.int IntKind.i64 0, Value.slice none 0 0] T2)).alloc (Obj.cells #[Value.int IntKind.i64 E, Value.int IntKind.i64 O, Value.slice none 0 0] T3)
  have h0 := ((Box2.new (w.alloc (Obj.cells #[Value.int IntKind.i64 E, Value.int IntKind.i64 O, Value.slice a n cap] T)) (.int .i64 q.n) (.slice q.a q.ls.length q.c) T1).alloc (Obj.cells #[Value.int IntKind.i64 0, Value.int IntKind.i64 0, Value.slice none 0 0] T2)).alloc (Obj.cells #[Value.int IntKind.i64 E, Value.int IntKind.i64 O, Value.slice none 0 0] T3)
  have h2 := (Box3.new ((w.alloc (Obj.cells #[Value.int IntKind.i64 E, Value.int IntKind.i64 O, Value.slice a n cap] T)).alloc (Obj.cells #[Value.int IntKind.i64 q.n, Value.slice q.a q.ls.length q.c] T1)) (.int .i64 0) (.int .i64 0) (.slice none 0 0) T2).alloc (Obj.cells #[Value.int IntKind.i64 E, Value.int IntKind.i64 O, Value.slice none 0 0] T3)
  have h3 := Box3.new (((w.alloc (Obj.cells #[Value.int IntKind.i64 E, Value.int IntKind.i64 O, Value.slice a n cap] T)).alloc (Obj.cells #[Value.int IntKind.i64 q.n, Value.slice q.a q.ls.length q.c] T1)).alloc (Obj.cells #[Value.int IntKind.i64 0, Value.int IntKind.i64 0, Value.slice none 0 0] T2)) (.int .i64 E) (.int .i64 O) (.slice none 0 0) T3
  simp only [World.size_alloc] at h0 h2 h3
  exact ⟨⟨((((Below.refl _ _).alloc (Nat.le_refl _) _).alloc (by simp) _).alloc (by simp; omega) _).alloc (by simp; omega) _, by omega, OVt.nil _ _, h3⟩, h1, h0, h2⟩
theorem AdP.step {w W W' : World} {E O : Int} {a : Option Addr} {n cap : Nat} {q : El} {u : Value} {fs : List El} (h : AdP w W E O a n cap q u fs) (hb : Below W.heap.size W W') : AdP w W' E O a n cap q u fs := ⟨h.cp.step hb, h.bx.step hb, h.bq.keep hb h.bq.lt, h.by'.step hb⟩
theorem AdP.more {w W w2 w3 : World} {E O : Int} {a : Option Addr} {n cap : Nat} {q : El} {u v' : Value} {fs : List El} {e : El} {ob : Obj} (h : AdP w W E O a n cap q u fs) (hb : Below W.heap.size W w2) (hov : OVt w3 (w.heap.size + 1 + 1 + 1 + 1) v' (fs ++ [e])) (hg : (w2.alloc ob).grownBy w3 u.ownBlock) :
    AdP w (w3.setCell ⟨w.heap.size + 1 + 1 + 1, 2, none⟩ v') E O a n cap q v' (fs ++ [e]) ∧ Below (w.heap.size + 1 + 1 + 1 + 1) W w3 := by
  obtain ⟨h1, h2⟩ := h.cp.more hb hov hg
  exact ⟨⟨h1, (h.bx.keep h2 (by omega)).other (by simp; omega) _, (h.bq.keep h2 (by omega)).other (by simp; omega) _, (h.by'.keep h2 (by omega)).other (by simp) _⟩, h2⟩
/-- The answer: a row of the call's own; its lists are those that came in. -/
def AdA (E O : Int) (es : List El) (q : El) (w : World) (r : Ending) (w' : World) : Prop := (∃ v, r = .returned (.agg #[.int .i64 E, .int .i64 O, v]) ∧ OVt w' w.heap.size v (addL es q)) ∧ Below w.heap.size w w'
theorem AdP.last {w W : World} {E O : Int} {a : Option Addr} {n cap : Nat} {q : El} {u : Value} {es : List El} (h : AdP w W E O a n cap q u (addL es q)) :
    AdA E O es q w (.returned (.agg #[.int .i64 E, .int .i64 O, u])) (((W.setCell ⟨w.heap.size + 1 + 1, 0, none⟩ (.int .i64 E)).setCell ⟨w.heap.size + 1 + 1, 1, none⟩ (.int .i64 O)).setCell ⟨w.heap.size + 1 + 1, 2, none⟩ u) := by
  have hon : Only (fun b => b = w.heap.size + 1 + 1) W (((W.setCell ⟨w.heap.size + 1 + 1, 0, none⟩ (.int .i64 E)).setCell ⟨w.heap.size + 1 + 1, 1, none⟩ (.int .i64 O)).setCell ⟨w.heap.size + 1 + 1, 2, none⟩ u) :=
    (((Only.refl (fun b => b = w.heap.size + 1 + 1) W).setCell (p := ⟨w.heap.size + 1 + 1, 0, none⟩) (.inl rfl) _).setCell (p := ⟨w.heap.size + 1 + 1, 1, none⟩) (.inl rfl) _).setCell (p := ⟨w.heap.size + 1 + 1, 2, none⟩) (.inl rfl) _
  exact ⟨⟨u, rfl, (h.cp.row.stay hon (fun k hk e => by have := (h.cp.row.blk hk).1; omega)).weak (by omega)⟩, h.cp.bel.trans (hon.below (by have := h.cp.bel.size; omega) (by intro k hk; omega))⟩

set_option maxRecDepth 20000 in
set_option maxHeartbeats 8000000 in
theorem with7_any (E O : Int) (a : Option Addr) (cap : Nat) (es : List El) (xn : Int) (xa : Option Addr) (xc : Nat) (xl : List Int) (w : World) (hb : Els true w a es) (hn : es.length ≤ 1000) :
    Calls Tryz.prog 47 #[.agg #[.int .i64 E, .int .i64 O, .slice a es.length cap], .agg #[.int .i64 xn, .slice xa xl.length xc]] w (AdA E O es ⟨xn, xa, xc, xl⟩ w) := by
  have HB : Hid (Els true w a es) := hb
  have HSU : Hid _ := butL_succ xn es
  have HLE : Hid (∀ k, (butL xn (es.take k)).length ≤ es.length) := fun k => Nat.le_trans (butL_len xn _) (by simp; omega)
  clear hb
  generalize hlen : es.length = n at *
  have HLN : Hid (es.length = n ∧ True) := ⟨hlen, trivial⟩
  clear hlen
  have HS0 : Hid _ := AdP.start w E O a n cap ⟨xn, xa, xc, xl⟩ 29 40 29 29
  go_enter Tryz.func47, Tryz.ntmps47
  go_wp2
  go_loopw [16] (fun i wr => ∃ (k : Nat) (u : Value) (fs : List El), k ≤ n ∧ i = .int .i64 k ∧ fs = butL xn (es.take k) ∧ AdP w wr E O a n cap ⟨xn, xa, xc, xl⟩ u fs) (fun i _ => n - (intOf i).toNat)
  case atStart => exact ⟨0, _, [], Nat.zero_le _, rfl, by simp [butL], HS0.out⟩
  case round =>
    clear HS0
    obtain ⟨k, u, fs, hk, rfl, hfs, hop⟩ := hrel
    have HST : Hid (fs = butL xn (es.take k) ∧ fs.length ≤ 1000) := ⟨hfs, by rw [hfs]; have := HLE.out k; omega⟩
    have hk1 := HST.out.2
    clear hfs
    obtain ⟨fa, fc, rfl⟩ := hop.cp.row.form
    have HOP : Hid (AdP w wr E O a n cap ⟨xn, xa, xc, xl⟩ (.slice fa fs.length fc) fs) := hop
    obtain ⟨c0, c1, c2, f0, f1, f2, hlX⟩ := hop.cp.box
    obtain ⟨x0, x1, x2, -, -, -, xbl⟩ := hop.bx
    obtain ⟨q0, q1, -, -, ql⟩ := hop.bq
    obtain ⟨r0, r1, r2, g0, g1, g2, rl⟩ := hop.by'
    simp only at q0 q1
    have hbel := hop.cp.bel
    clear hop
    by_cases hlt : k < n
    · obtain ⟨b, off, rfl, hbl, d0, d1, hby, hrg⟩ := (HB.out.below hbel (Nat.le_refl _)).pen k (by rw [HLN.out.1]; exact hlt)
      have hbw : b < w.heap.size := by
        obtain ⟨b', o', e', h', _⟩ := HB.out.pen k (by rw [HLN.out.1]; exact hlt)
        simp at e'
        omega
      have hsu := HSU.out k hlt
      clear hby hrg hbel
      generalize es.getD k de = s at *
      obtain ⟨sn, a2, c2', sl⟩ := s
      simp only at d0 d1
      have hba : Below wr.heap.size wr (wr.alloc (Obj.cells #[Value.int IntKind.i64 sn, Value.slice a2 sl.length c2'] 40)) := (Below.refl _ _).alloc (Nat.le_refl _) _
      have HOP1 : Hid (AdP w (wr.alloc (Obj.cells #[Value.int IntKind.i64 sn, Value.slice a2 sl.length c2'] 40)) E O (some ⟨b, off, none⟩) n cap ⟨xn, xa, xc, xl⟩ (.slice fa fs.length fc) fs) := HOP.out.step hba
      have m0 : (wr.alloc (Obj.cells #[Value.int IntKind.i64 sn, Value.slice a2 sl.length c2'] 40)).cell? ⟨w.heap.size + 1, 0, none⟩ = some (.int .i64 xn) := keepA _ ql q0
      have m2 : (wr.alloc (Obj.cells #[Value.int IntKind.i64 sn, Value.slice a2 sl.length c2'] 40)).cell? ⟨w.heap.size + 1 + 1 + 1, 2, none⟩ = some (.slice fa fs.length fc) := keepA _ hlX c2
      have i0 : (wr.alloc (Obj.cells #[Value.int IntKind.i64 sn, Value.slice a2 sl.length c2'] 40)).cell? ⟨wr.heap.size, 0, none⟩ = some (.int .i64 sn) := by simp
      have i1 : (wr.alloc (Obj.cells #[Value.int IntKind.i64 sn, Value.slice a2 sl.length c2'] 40)).cell? ⟨wr.heap.size, 1, none⟩ = some (.slice a2 sl.length c2') := by simp
      have hsz1 : wr.heap.size < (wr.alloc (Obj.cells #[Value.int IntKind.i64 sn, Value.slice a2 sl.length c2'] 40)).heap.size := by simp
      by_cases hx : sn = xn
      · have hx2 : (sn != xn) = false := by simpa using hx
        have HN : Hid (fs = butL xn (es.take (k + 1)) ∧ True) := ⟨by rw [hsu, if_pos hx]; exact HST.out.1, trivial⟩
        clear hsu hx HOP
        go_wp2
        go_roundw
        case rel => exact ⟨k + 1, _, fs, by omega, by go_num, HN.out.1, HOP1.out⟩
        case measure => simp [intOf]; omega
      · have hx2 : (sn != xn) = true := by simpa using hx
        have HN : Hid (fs ++ [(⟨sn, a2, c2', sl⟩ : El)] = butL xn (es.take (k + 1)) ∧ True) := ⟨by rw [hsu, if_neg hx, ← HST.out.1], trivial⟩
        clear hsu hx HOP
        go_wp2_with (at_builtin; (refine wpList_append_it rfl (.tmp 26) (.tmp 28) rfl (w.heap.size + 1 + 1 + 1 + 1) (.slice fa fs.length fc) fs (by simp [Act.eval]) (HOP1.out.cp.row.below ((Below.refl _ _).alloc (Nat.le_refl _) _)) (wr.alloc (Obj.cells #[Value.int IntKind.i64 sn, Value.slice a2 sl.length c2'] 40)).heap.size 1 ⟨sn, a2, c2', sl⟩ (by simp [Act.eval]) (newsT (wr.alloc (Obj.cells #[Value.int IntKind.i64 sn, Value.slice a2 sl.length c2'] 40)) sn _ sl.length c2' 40 _ rfl rfl rfl rfl) (by omega) (by simp <;> omega) ?_; intro v3 w3 hov3 hg3; obtain ⟨sa3, sc3, hv3⟩ := hov3.form; rw [List.length_append, List.length_singleton] at hv3; subst hv3; have HM : Hid _ := HOP1.out.more (Below.refl _ _) hov3 hg3; have e2 := keep HM.out.2 (by omega) m2; have h0 := (HM.out.2.frozen (p := ⟨w.heap.size + 1 + 1 + 1, 2, none⟩) (by simp)).trans (HOP1.out.cp.box.f2); clear hov3 hg3))
        have hmo := HM.out.1
        rw [HN.out.1] at hmo
        have HMO : Hid _ := hmo
        clear hmo
        go_roundw
        case rel => exact ⟨k + 1, _, _, by omega, by go_num, rfl, HMO.out⟩
        case measure => simp [intOf]; omega
    · have hkn : k = n := by omega
      subst hkn
      have HAD : Hid (fs ++ [(⟨xn, xa, xc, xl⟩ : El)] = addL es ⟨xn, xa, xc, xl⟩ ∧ True) := ⟨by rw [HST.out.1, List.take_of_length_le (by rw [HLN.out.1]; exact Nat.le_refl _)]; rfl, trivial⟩
      clear hbel HSU HLE
      go_wp2_with (at_builtin; (refine wpList_append_it rfl (.tmp 33) (.tmp 35) rfl (w.heap.size + 1 + 1 + 1 + 1) (.slice fa fs.length fc) fs (by simp [Act.eval]) (HOP.out.cp.row.below ((Below.refl _ _).alloc (Nat.le_refl _) _)) wr.heap.size 1 ⟨xn, xa, xc, xl⟩ (by simp [Act.eval]) (newsT wr xn _ xl.length xc 40 _ rfl rfl rfl rfl) (by omega) (by simp <;> omega) ?_; intro v3 w3 hov3 hg3; obtain ⟨sa3, sc3, hv3⟩ := hov3.form; rw [List.length_append, List.length_singleton] at hv3; subst hv3; have HM : Hid _ := HOP.out.more (Below.refl _ _) hov3 hg3; have e0 := keep HM.out.2 (by omega) c0; have e1 := keep HM.out.2 (by omega) c1; have e2 := keep HM.out.2 (by omega) c2; have s0 := keep HM.out.2 (by omega) r0; have s1 := keep HM.out.2 (by omega) r1; have s2 := keep HM.out.2 (by omega) r2; have h0 := (HM.out.2.frozen (p := ⟨w.heap.size + 1 + 1 + 1, 2, none⟩) (by simp)).trans f2; have h1 := (HM.out.2.frozen (p := ⟨w.heap.size + 1 + 1, 0, none⟩) (by simp <;> omega)).trans g0; have h2 := (HM.out.2.frozen (p := ⟨w.heap.size + 1 + 1, 1, none⟩) (by simp <;> omega)).trans g1; have h3 := (HM.out.2.frozen (p := ⟨w.heap.size + 1 + 1, 2, none⟩) (by simp <;> omega)).trans g2; clear hov3 hg3 c0 c1 c2 r0 r1 r2 f0 f1 f2 g0 g1 g2))
      have hla := HM.out.1
      rw [HAD.out.1] at hla
      refine bodyPost_ret (v := .agg #[.int .i64 E, .int .i64 O, .slice sa3 (fs.length + 1) sc3]) (by simp [results, Tryz.results47, go_sem, s0, s1, s2]) rfl ?_
      exact hla.last

set_option maxRecDepth 20000 in
set_option maxHeartbeats 8000000 in
theorem l7add_any (E O : Int) (a : Option Addr) (cap : Nat) (es : List El) (xn : Int) (xa : Option Addr) (xc : Nat) (xl : List Int) (w : World) (hb : Els true w a es) (hn : es.length ≤ 1000) :
    Calls Tryz.prog 44 #[.agg #[.int .i64 E, .int .i64 O, .slice a es.length cap], .agg #[.int .i64 xn, .slice xa xl.length xc]] w (AdA E O es ⟨xn, xa, xc, xl⟩ w) := by
  have HB : Hid (Els true w a es) := hb
  have HSU : Hid _ := butL_succ xn es
  have HLE : Hid (∀ k, (butL xn (es.take k)).length ≤ es.length) := fun k => Nat.le_trans (butL_len xn _) (by simp; omega)
  clear hb
  generalize hlen : es.length = n at *
  have HLN : Hid (es.length = n ∧ True) := ⟨hlen, trivial⟩
  clear hlen
  have HS0 : Hid _ := AdP.start w E O a n cap ⟨xn, xa, xc, xl⟩ 29 40 29 29
  go_enter Tryz.func44, Tryz.ntmps44
  go_wp2
  go_loopw [6] (fun i wr => ∃ (k : Nat) (u : Value) (fs : List El), k ≤ n ∧ i = .int .i64 k ∧ fs = butL xn (es.take k) ∧ AdP w wr E O a n cap ⟨xn, xa, xc, xl⟩ u fs) (fun i _ => n - (intOf i).toNat)
  case atStart => exact ⟨0, _, [], Nat.zero_le _, rfl, by simp [butL], HS0.out⟩
  case round =>
    clear HS0
    obtain ⟨k, u, fs, hk, rfl, hfs, hop⟩ := hrel
    have HST : Hid (fs = butL xn (es.take k) ∧ fs.length ≤ 1000) := ⟨hfs, by rw [hfs]; have := HLE.out k; omega⟩
    have hk1 := HST.out.2
    clear hfs
    obtain ⟨fa, fc, rfl⟩ := hop.cp.row.form
    have HOP : Hid (AdP w wr E O a n cap ⟨xn, xa, xc, xl⟩ (.slice fa fs.length fc) fs) := hop
    obtain ⟨c0, c1, c2, f0, f1, f2, hlX⟩ := hop.cp.box
    obtain ⟨x0, x1, x2, -, -, -, xbl⟩ := hop.bx
    obtain ⟨q0, q1, -, -, ql⟩ := hop.bq
    obtain ⟨r0, r1, r2, g0, g1, g2, rl⟩ := hop.by'
    simp only at q0 q1
    have hbel := hop.cp.bel
    clear hop
    by_cases hlt : k < n
    · obtain ⟨b, off, rfl, hbl, d0, d1, hby, hrg⟩ := (HB.out.below hbel (Nat.le_refl _)).pen k (by rw [HLN.out.1]; exact hlt)
      have hbw : b < w.heap.size := by
        obtain ⟨b', o', e', h', _⟩ := HB.out.pen k (by rw [HLN.out.1]; exact hlt)
        simp at e'
        omega
      have hsu := HSU.out k hlt
      clear hby hrg hbel
      generalize es.getD k de = s at *
      obtain ⟨sn, a2, c2', sl⟩ := s
      simp only at d0 d1
      by_cases hx : sn = xn
      · have hx2 : (sn != xn) = false := by simpa using hx
        have HN : Hid (fs = butL xn (es.take (k + 1)) ∧ True) := ⟨by rw [hsu, if_pos hx]; exact HST.out.1, trivial⟩
        clear hsu hx
        go_wp2
        go_quiet (fail)
        go_wp2
        go_roundw
        case rel => exact ⟨k + 1, _, fs, by omega, by go_num, HN.out.1, HOP.out.step ⟨rfl, rfl, rfl, Nat.le_refl _, fun _ _ => rfl⟩⟩
        case measure => simp [intOf]; omega
      · have hx2 : (sn != xn) = true := by simpa using hx
        have HN : Hid (fs ++ [(⟨sn, a2, c2', sl⟩ : El)] = butL xn (es.take (k + 1)) ∧ True) := ⟨by rw [hsu, if_neg hx, ← HST.out.1], trivial⟩
        clear hsu hx
        go_wp2
        go_quiet (fail)
        have hbq : Below wr.heap.size wr (wr.drewN nq) := ⟨rfl, rfl, rfl, Nat.le_refl _, fun _ _ => rfl⟩
        have HOP1 : Hid (AdP w (wr.drewN nq) E O (some ⟨b, off, none⟩) n cap ⟨xn, xa, xc, xl⟩ (.slice fa fs.length fc) fs) := HOP.out.step hbq
        have d01 := keep hbq hbl d0
        have d11 := keep hbq hbl d1
        have hbl1 : b < (wr.drewN nq).heap.size := hbl
        clear HOP c0 c1 c2 f0 f1 f2 x0 x1 x2 q0 q1 r0 r1 r2 g0 g1 g2 d0 d1 hbq hlX xbl ql rl hbl
        generalize wr.drewN nq = wr at *
        have HOP := HOP1
        obtain ⟨c0, c1, c2, f0, f1, f2, hlX⟩ := HOP.out.cp.box
        obtain ⟨x0, x1, x2, -, -, -, xbl⟩ := HOP.out.bx
        have d0 := d01
        have d1 := d11
        have hbl := hbl1
        clear HOP1 d01 d11 hbl1
        go_wp2
        refine wp_region_cut (S := fun W => W.cell? ⟨w.heap.size + 1 + 1 + 1, 2, none⟩ = some (.slice fa fs.length fc) ∧ W.cell? ⟨w.heap.size, 2, none⟩ = some (.slice (some ⟨b, off, none⟩) n cap) ∧ W.cell? ⟨b, off + k * 2, none⟩ = some (.int .i64 sn) ∧ W.cell? ⟨b, off + k * 2 + 1, none⟩ = some (.slice a2 sl.length c2')) 9 (by kernel_rfl) (by kernel_rfl) (by exact ⟨c2, x2, d0, d1⟩) (fun hHeld => ?_)
        refine wpAnyH_take (i := 0) (v := ?_) rfl (by kernel_rfl) (by kernel_rfl) (by kernel_rfl) (fun _ _ _ h => h) (Or.inl ⟨by rfl, ?_⟩) (by assumption) ?_
        rotate_left 1
        · (intro w hSw; (try dsimp only at hSw); go_simp; try (with_reducible rfl))
        try simp only [List.getElem_toArray, List.getElem_cons_zero, List.getElem_cons_succ, Act.put, List.setIfInBounds_toArray, List.set_cons_zero, List.set_cons_succ]
        refine wpAnyH_take (i := 1) (v := ?_) rfl (by kernel_rfl) (by kernel_rfl) (by kernel_rfl) (fun _ _ _ h => h) (Or.inl ⟨by rfl, ?_⟩) (by assumption) ?_
        rotate_left 1
        · (intro w hSw; (try dsimp only at hSw); go_simp; try (with_reducible rfl))
        try simp only [List.getElem_toArray, List.getElem_cons_zero, List.getElem_cons_succ, Act.put, List.setIfInBounds_toArray, List.set_cons_zero, List.set_cons_succ]
        refine wpAnyH_take (i := 2) (v := ?_) rfl (by kernel_rfl) (by kernel_rfl) (by kernel_rfl) (fun _ _ _ h => h) (Or.inl ⟨by rfl, ?_⟩) (by assumption) ?_
        rotate_left 1
        · (intro w hSw; (try dsimp only at hSw); go_simp; try (with_reducible rfl))
        try simp only [List.getElem_toArray, List.getElem_cons_zero, List.getElem_cons_succ, Act.put, List.setIfInBounds_toArray, List.set_cons_zero, List.set_cons_succ]
        refine wpAnyH_take (i := 3) (v := ?_) rfl (by kernel_rfl) (by kernel_rfl) (by kernel_rfl) (fun _ _ _ h => h) (Or.inl ⟨by rfl, ?_⟩) (by assumption) ?_
        rotate_left 1
        · (intro w hSw; (try dsimp only at hSw); go_simp; try (with_reducible rfl))
        try simp only [List.getElem_toArray, List.getElem_cons_zero, List.getElem_cons_succ, Act.put, List.setIfInBounds_toArray, List.set_cons_zero, List.set_cons_succ]
        refine wpAnyH_take (i := 4) (v := ?_) rfl (by kernel_rfl) (by kernel_rfl) (by kernel_rfl) (fun _ _ _ h => h) (Or.inl ⟨by rfl, ?_⟩) (by assumption) ?_
        rotate_left 1
        · (intro w hSw; (try dsimp only at hSw); go_simp; try (with_reducible rfl))
        try simp only [List.getElem_toArray, List.getElem_cons_zero, List.getElem_cons_succ, Act.put, List.setIfInBounds_toArray, List.set_cons_zero, List.set_cons_succ]
        refine wpAnyH_take (i := 5) (v := ?_) rfl (by kernel_rfl) (by kernel_rfl) (by kernel_rfl) (fun _ _ _ h => h) (Or.inl ⟨by rfl, ?_⟩) (by assumption) ?_
        rotate_left 1
        · (intro w hSw; (try dsimp only at hSw); go_simp; try (with_reducible rfl))
        try simp only [List.getElem_toArray, List.getElem_cons_zero, List.getElem_cons_succ, Act.put, List.setIfInBounds_toArray, List.set_cons_zero, List.set_cons_succ]
        refine wpAnyH_take (i := 6) (v := ?_) rfl (by kernel_rfl) (by kernel_rfl) (by kernel_rfl) (fun _ _ _ h => h) (Or.inl ⟨by rfl, ?_⟩) (by assumption) ?_
        rotate_left 1
        · (intro w hSw; (try dsimp only at hSw); go_simp; try (with_reducible rfl))
        try simp only [List.getElem_toArray, List.getElem_cons_zero, List.getElem_cons_succ, Act.put, List.setIfInBounds_toArray, List.set_cons_zero, List.set_cons_succ]
        refine wpAnyH_ready (rs := [7]) (by kernel_rfl) (by simp) ?_
        refine AllReadyH.cons rfl (fun K hK => ?_) AllReadyH.nil
        go_simp
        refine hK.out _ _ (by exact ⟨keepA _ hlX c2, keepA _ xbl x2, keepA _ hbl d0, keepA _ hbl d1⟩) (fun hHeld => ?_)
        clear hK K
        try simp only [List.getElem_toArray, List.getElem_cons_zero, List.getElem_cons_succ, Act.put, List.setIfInBounds_toArray, List.set_cons_zero, List.set_cons_succ]
        refine wpAnyH_ready (rs := [8]) (by kernel_rfl) (by simp) ?_
        refine AllReadyH.cons rfl (fun K hK => ?_) AllReadyH.nil
        refine wanted_step rfl (wp_append_it (.tmp 29) (.tmp 35) rfl (w.heap.size + 1 + 1 + 1 + 1) (.slice fa fs.length fc) fs (by simp [Act.eval]) (HOP.out.cp.row.below (Below.drewS ((Below.refl wr.heap.size wr.drew).alloc (Nat.le_refl _) _))) wr.heap.size 1 ⟨sn, a2, c2', sl⟩ (by simp [Act.eval]) (newsT wr.drew sn _ sl.length c2' 40 _ rfl rfl rfl rfl) (by omega) (by simp; omega) ?_)
        intro v3 w3 hov3 hg3
        obtain ⟨sa3, sc3, hv3⟩ := hov3.form
        rw [List.length_append, List.length_singleton] at hv3
        subst hv3
        have HM : Hid _ := HOP.out.more (w2 := wr.drew) ((Below.refl _ _).drew) hov3 hg3
        have e2 := keep HM.out.2 (by omega) c2
        have y3 := keep HM.out.2 (by omega) x2
        have hne : ¬ (Value.slice fa fs.length fc).ownBlock = some b := fun he => by have := (HOP.out.cp.row.blk he).1; omega
        have d3 := (Only.ofGrownT hg3).cell (b := b) (o := off + k * 2) (by simp; omega) hne (keepA _ hbl d0)
        have d4 := (Only.ofGrownT hg3).cell (b := b) (o := off + k * 2 + 1) (by simp; omega) hne (keepA _ hbl d1)
        have h0 := (HM.out.2.frozen (p := ⟨w.heap.size + 1 + 1 + 1, 2, none⟩) (by simp)).trans f2
        clear hov3 hg3
        refine hK.out _ _ (by exact ⟨e2, y3, d3, d4⟩) (fun hHeld => ?_)
        clear hK K
        try simp only [List.getElem_toArray, List.getElem_cons_zero, List.getElem_cons_succ, Act.put, List.setIfInBounds_toArray, List.set_cons_zero, List.set_cons_succ]
        refine wpAnyH_done (by kernel_rfl) ?_ _
        simp only [cutQ, List.drop_succ_cons, List.drop_zero]
        have hmo := HM.out.1
        rw [HN.out.1] at hmo
        have HMO : Hid _ := hmo
        clear hmo
        go_wp2
        go_roundw
        case rel => exact ⟨k + 1, _, _, by omega, by go_num, rfl, HMO.out⟩
        case measure => simp [intOf]; omega
    · have hkn : k = n := by omega
      subst hkn
      have HAD : Hid (fs ++ [(⟨xn, xa, xc, xl⟩ : El)] = addL es ⟨xn, xa, xc, xl⟩ ∧ True) := ⟨by rw [HST.out.1, List.take_of_length_le (by rw [HLN.out.1]; exact Nat.le_refl _)]; rfl, trivial⟩
      clear hbel HSU HLE
      go_wp2_with (at_builtin; (refine wpList_append_it rfl (.tmp 39) (.tmp 41) rfl (w.heap.size + 1 + 1 + 1 + 1) (.slice fa fs.length fc) fs (by simp [Act.eval]) (HOP.out.cp.row.below ((Below.refl _ _).alloc (Nat.le_refl _) _)) wr.heap.size 1 ⟨xn, xa, xc, xl⟩ (by simp [Act.eval]) (newsT wr xn _ xl.length xc 40 _ rfl rfl rfl rfl) (by omega) (by simp <;> omega) ?_; intro v3 w3 hov3 hg3; obtain ⟨sa3, sc3, hv3⟩ := hov3.form; rw [List.length_append, List.length_singleton] at hv3; subst hv3; have HM : Hid _ := HOP.out.more (Below.refl _ _) hov3 hg3; have e0 := keep HM.out.2 (by omega) c0; have e1 := keep HM.out.2 (by omega) c1; have e2 := keep HM.out.2 (by omega) c2; have s0 := keep HM.out.2 (by omega) r0; have s1 := keep HM.out.2 (by omega) r1; have s2 := keep HM.out.2 (by omega) r2; have h0 := (HM.out.2.frozen (p := ⟨w.heap.size + 1 + 1 + 1, 2, none⟩) (by simp)).trans f2; have h1 := (HM.out.2.frozen (p := ⟨w.heap.size + 1 + 1, 0, none⟩) (by simp <;> omega)).trans g0; have h2 := (HM.out.2.frozen (p := ⟨w.heap.size + 1 + 1, 1, none⟩) (by simp <;> omega)).trans g1; have h3 := (HM.out.2.frozen (p := ⟨w.heap.size + 1 + 1, 2, none⟩) (by simp <;> omega)).trans g2; clear hov3 hg3 c0 c1 c2 r0 r1 r2 f0 f1 f2 g0 g1 g2))
      have hla := HM.out.1
      rw [HAD.out.1] at hla
      refine bodyPost_ret (v := .agg #[.int .i64 E, .int .i64 O, .slice sa3 (fs.length + 1) sc3]) (by simp [results, Tryz.results44, go_sem, s0, s1, s2]) rfl ?_
      exact hla.last
end Go.Proofs.YtdkffeemnenhdaaGreatDoor
namespace Go.Proofs.YtdkffeemnenhdaaGreatDoor
open Go.RowKit
set_option linter.unusedVariables false
set_option linter.unusedSimpArgs false

theorem elets_but (x : Int) (es : List El) : elets (butL x es) ≤ elets es := by
  induction es with
  | nil => simp [butL, elets]
  | cons e es ih =>
    unfold butL at *
    rw [List.filter_cons]
    split
    · simp only [elets]; omega
    · simp only [elets]; omega
theorem elets_add (es : List El) (q : El) : elets (addL es q) ≤ elets es + q.ls.length := by
  have := elets_but q.n es
  unfold addL
  rw [elets_app]
  simp only [elets]
  omega
theorem addL_mem {es : List El} {q e : El} (h : e ∈ addL es q) : e ∈ es ∨ e = q := by
  rcases List.mem_append.1 h with h | h
  · exact .inl (List.mem_filter.1 h).1
  · exact .inr (by simpa using h)
theorem addL_len (es : List El) (q : El) : (addL es q).length ≤ es.length + 1 := by
  unfold addL
  rw [List.length_append]
  have := butL_len q.n es
  simp
  exact this
theorem but_ct {es ts : List El} (h : ts.map El.ct = es.map El.ct) (x : Int) : (butL x ts).map El.ct = (butL x es).map El.ct := by
  have key : ∀ l : List El, (butL x l).map El.ct = (l.map El.ct).filter (fun p => p.1 != x) := by
    intro l
    induction l with
    | nil => rfl
    | cons e l ih =>
      unfold butL at *
      rw [List.filter_cons, List.map_cons, List.filter_cons]
      have hc : (El.ct e).1 = e.n := rfl
      rw [hc]
      split
      · rw [List.map_cons, ih]
      · exact ih
  rw [key, key, h]
theorem add_ct {es ts : List El} {q p : El} (h : ts.map El.ct = es.map El.ct) (hq : p.ct = q.ct) : (addL ts p).map El.ct = (addL es q).map El.ct := by
  have hn : p.n = q.n := congrArg Prod.fst hq
  unfold addL
  rw [List.map_append, List.map_append, hn, but_ct h]
  simp [hq]
theorem szP_ct {es ts : List El} (h : ts.map El.ct = es.map El.ct) : szP ts = szP es := by unfold szP; rw [len_ctE h, elets_ct _ _ h]

/-- What PackAdd answers: numbers, items, and whether there is room. -/
def PaP (f : List Int → Option (List Int)) (E O : Int) (es : List El) (q : El) (E' O' : Int) (fs : List El) (R : Bool) : Prop :=
  (¬ (PkR f E O es ∧ itOk f q) ∧ E' = 0 ∧ O' = 0 ∧ fs = [] ∧ R = false) ∨ ((PkR f E O es ∧ itOk f q) ∧ 256 < szP (addL es q) ∧ E' = E ∧ O' = O ∧ fs = es ∧ R = false) ∨ ((PkR f E O es ∧ itOk f q) ∧ szP (addL es q) ≤ 256 ∧ E' = E ∧ O' = O ∧ fs = addL es q ∧ R = true)
theorem PaP.ex (f : List Int → Option (List Int)) (E O : Int) (es : List El) (q : El) : ∃ E' O' fs R, PaP f E O es q E' O' fs R := by
  by_cases h : PkR f E O es ∧ itOk f q
  · by_cases hz : szP (addL es q) ≤ 256
    · exact ⟨_, _, _, _, .inr (.inr ⟨h, hz, rfl, rfl, rfl, rfl⟩)⟩
    · exact ⟨_, _, _, _, .inr (.inl ⟨h, by omega, rfl, rfl, rfl, rfl⟩)⟩
  · exact ⟨_, _, _, _, .inl ⟨h, rfl, rfl, rfl, rfl⟩⟩
theorem PaP.same {f : List Int → Option (List Int)} {E O : Int} {es ts : List El} {q p : El} {E1 O1 E2 O2 : Int} {fs gs : List El} {R S : Bool} (h : PaP f E O ts p E1 O1 fs R) (k : PaP f E O es q E2 O2 gs S) (hc : ts.map El.ct = es.map El.ct) (hq : p.ct = q.ct) : E1 = E2 ∧ O1 = O2 ∧ fs.map El.ct = gs.map El.ct ∧ R = S := by
  have hi : (PkR f E O ts ∧ itOk f p) ↔ (PkR f E O es ∧ itOk f q) := ⟨fun h => ⟨h.1.ct hc, (itOk_ct hq).1 h.2⟩, fun h => ⟨h.1.ct hc.symm, (itOk_ct hq).2 h.2⟩⟩
  have hs : szP (addL ts p) = szP (addL es q) := szP_ct (add_ct hc hq)
  rcases h with ⟨h0, rfl, rfl, rfl, rfl⟩ | ⟨h0, h1, rfl, rfl, rfl, rfl⟩ | ⟨h0, h1, rfl, rfl, rfl, rfl⟩ <;> rcases k with ⟨k0, rfl, rfl, rfl, rfl⟩ | ⟨k0, k1, rfl, rfl, rfl, rfl⟩ | ⟨k0, k1, rfl, rfl, rfl, rfl⟩
  · exact ⟨rfl, rfl, rfl, rfl⟩
  · exact absurd (hi.2 k0) h0
  · exact absurd (hi.2 k0) h0
  · exact absurd (hi.1 h0) k0
  · exact ⟨rfl, rfl, hc, rfl⟩
  · omega
  · exact absurd (hi.1 h0) k0
  · omega
  · exact ⟨rfl, rfl, add_ct hc hq, rfl⟩
def PaA (f : List Int → Option (List Int)) (E O : Int) (es : List El) (q : El) (w : World) (r : Ending) (w' : World) : Prop :=
  (∃ E' O' fs R v ts, PaP f E O es q E' O' fs R ∧ r = .returned (.tuple #[.agg #[.int .i64 E', .int .i64 O', v], .bool R]) ∧ CopT w' w.heap.size v ts fs) ∧ Below w.heap.size w w'
/-- The boxes of the arguments and of the answer. -/
structure PaB (w W : World) (E O : Int) (a : Option Addr) (n cap : Nat) (q : El) : Prop where
  bel : Below w.heap.size w W
  bx : Box3 W w.heap.size (.int .i64 E) (.int .i64 O) (.slice a n cap)
  bq : Box2 W (w.heap.size + 1) (.int .i64 q.n) (.slice q.a q.ls.length q.c)
  by' : Box3 W (w.heap.size + 1 + 1) (.int .i64 0) (.int .i64 0) (.slice none 0 0)
theorem PaB.start (w : World) (E O : Int) (a : Option Addr) (n cap : Nat) (q : El) (T T1 T2 : TypeId) : PaB w (((w.alloc (Obj.cells #[Value.int IntKind.i64 E, Value.int IntKind.i64 O, Value.slice a n cap] T)).alloc (Obj.cells #[Value.int IntKind.i64 q.n, Value.slice q.a q.ls.length q.c] T1)).alloc (Obj.cells #[Value.int IntKind.i64 0, Value.int IntKind.i64 0, Value.slice none 0 0] T2)) E O a n cap q := by
  have h1 := ((Box3.new w (.int .i64 E) (.int .i64 O) (.slice a n cap) T).alloc (Obj.cells #[Value.int IntKind.i64 q.n, Value.slice q.a q.ls.length q.c] T1)).alloc (Obj.cells #[Value.int IntKind.i64 0, Value.int IntKind.i64 0, Value.slice none 0 0] T2)
  have h0 := (Box2.new (w.alloc (Obj.cells #[Value.int IntKind.i64 E, Value.int IntKind.i64 O, Value.slice a n cap] T)) (.int .i64 q.n) (.slice q.a q.ls.length q.c) T1).alloc (Obj.cells #[Value.int IntKind.i64 0, Value.int IntKind.i64 0, Value.slice none 0 0] T2)
  have h2 := Box3.new ((w.alloc (Obj.cells #[Value.int IntKind.i64 E, Value.int IntKind.i64 O, Value.slice a n cap] T)).alloc (Obj.cells #[Value.int IntKind.i64 q.n, Value.slice q.a q.ls.length q.c] T1)) (.int .i64 0) (.int .i64 0) (.slice none 0 0) T2
  simp only [World.size_alloc] at h0 h2
  exact ⟨(((Below.refl _ _).alloc (Nat.le_refl _) _).alloc (by simp) _).alloc (by simp; omega) _, h1, h0, h2⟩
theorem PaB.step {w W W' : World} {E O : Int} {a : Option Addr} {n cap : Nat} {q : El} (h : PaB w W E O a n cap q) (hb : Below W.heap.size W W') : PaB w W' E O a n cap q := ⟨h.bel.trans (hb.mono h.bel.size), h.bx.step hb, h.bq.keep hb h.bq.lt, h.by'.step hb⟩
theorem PaB.last {w W : World} {E O E' O' : Int} {a : Option Addr} {n cap U : Nat} {q : El} {v : Value} {ts fs : List El} (h : PaB w W E O a n cap q) (hc : CopT W U v ts fs) (hU : w.heap.size + 1 + 1 + 1 ≤ U) :
    CopT (((W.setCell ⟨w.heap.size + 1 + 1, 0, none⟩ (.int .i64 E')).setCell ⟨w.heap.size + 1 + 1, 1, none⟩ (.int .i64 O')).setCell ⟨w.heap.size + 1 + 1, 2, none⟩ v) w.heap.size v ts fs ∧ Below w.heap.size w (((W.setCell ⟨w.heap.size + 1 + 1, 0, none⟩ (.int .i64 E')).setCell ⟨w.heap.size + 1 + 1, 1, none⟩ (.int .i64 O')).setCell ⟨w.heap.size + 1 + 1, 2, none⟩ v) := by
  have hon : Only (fun b => b = w.heap.size + 1 + 1) W (((W.setCell ⟨w.heap.size + 1 + 1, 0, none⟩ (.int .i64 E')).setCell ⟨w.heap.size + 1 + 1, 1, none⟩ (.int .i64 O')).setCell ⟨w.heap.size + 1 + 1, 2, none⟩ v) :=
    (((Only.refl (fun b => b = w.heap.size + 1 + 1) W).setCell (p := ⟨w.heap.size + 1 + 1, 0, none⟩) (.inl rfl) _).setCell (p := ⟨w.heap.size + 1 + 1, 1, none⟩) (.inl rfl) _).setCell (p := ⟨w.heap.size + 1 + 1, 2, none⟩) (.inl rfl) _
  exact ⟨(hc.stay hon (fun k hk e => by omega)).weak (by omega), h.bel.trans (hon.below (by have := h.bel.size; omega) (by intro k hk; omega))⟩

set_option maxRecDepth 20000 in
set_option maxHeartbeats 4000000 in
theorem specPackAdd_any (f : List Int → Option (List Int)) (hf : DecF f) (E O : Int) (a : Option Addr) (cap : Nat) (es : List El) (xn : Int) (xa : Option Addr) (xc : Nat) (xl : List Int) (w : World) (hi : ItI w a es) (hx : FewJ es) (hq : Byt w xa xl) (hqc : xl.length ≤ xc) (hql : xl.length ≤ 1048576) (hqr : rE true ⟨xn, xa, xc, xl⟩) :
    Calls Tryz.prog 17 #[.agg #[.int .i64 E, .int .i64 O, .slice a es.length cap], .agg #[.int .i64 xn, .slice xa xl.length xc]] w (PaA f E O es ⟨xn, xa, xc, xl⟩ w) := by
  have hst := PaB.start w E O a es.length cap ⟨xn, xa, xc, xl⟩ 29 40 29
  have HOK := specPackOk_any f hf E O a cap es _ (hi.below hst.bel (Nat.le_refl _)) hx
  have HB : Hid (ItI w a es ∧ FewJ es ∧ Byt w xa xl ∧ rE true ⟨xn, xa, xc, xl⟩ ∧ DecF f) := ⟨hi, hx, hq, hqr, hf⟩
  clear hi hx hq hqr hf
  go_enter Tryz.func17, Tryz.ntmps17
  go_wp2_with fail
  generalize ((w.alloc (Obj.cells #[Value.int IntKind.i64 E, Value.int IntKind.i64 O, Value.slice a es.length cap] 29)).alloc (Obj.cells #[Value.int IntKind.i64 xn, Value.slice xa xl.length xc] 40)).alloc (Obj.cells #[Value.int IntKind.i64 0, Value.int IntKind.i64 0, Value.slice none 0 0] 29) = W0 at *
  refine HOK.mono ?_
  clear HOK
  rintro e w1 ⟨⟨hp, rfl⟩ | ⟨hp, rfl⟩, hb1⟩
  rotate_left 1
  · have hst1 := hst.step hb1
    have HLA : Hid _ := PaB.last (E' := 0) (O' := 0) (v := .slice none 0 0) (ts := []) (fs := []) (U := w.heap.size + 1 + 1 + 1) hst1 ⟨rfl, OVt.nil _ _, Deep.nil _ _, by simp⟩ (Nat.le_refl _)
    have HP : Hid (PaP f E O es ⟨xn, xa, xc, xl⟩ 0 0 [] false) := .inl ⟨fun h => hp h.1, rfl, rfl, rfl, rfl⟩
    obtain ⟨r0, r1, r2, g0, g1, g2, rl⟩ := hst1.by'
    clear hb1 hp hst hst1
    go_wp2
    refine bodyPost_ret (v := .tuple #[.agg #[.int .i64 0, .int .i64 0, .slice none 0 0], .bool false]) (by simp [results, Tryz.results17, go_sem, r0, r1, r2]) rfl ?_
    exact ⟨⟨_, _, _, _, _, _, HP.out, rfl, HLA.out.1⟩, HLA.out.2⟩
  have hst1 := hst.step hb1
  have HIT := l7item_any f HB.out.2.2.2.2 xn xa xc xl w1 (HB.out.2.2.1.below hst1.bel (Nat.le_refl _)) hqc hql
  have HPK : Hid (PkR f E O es) := hp
  have hn16 := hp.n
  have hsz6 := hp.sz
  have HST1 : Hid _ := hst1
  obtain ⟨q0, q1, -, -, ql⟩ := hst1.bq
  simp only at q0 q1
  clear hb1 hp hst hst1
  go_wp2_with fail
  refine HIT.mono ?_
  clear HIT
  rintro e w2 ⟨⟨hok, rfl⟩ | ⟨hok, rfl⟩, hb2⟩
  rotate_left 1
  · have hst1 := HST1.out.step hb2
    have HLA : Hid _ := PaB.last (E' := 0) (O' := 0) (v := .slice none 0 0) (ts := []) (fs := []) (U := w.heap.size + 1 + 1 + 1) hst1 ⟨rfl, OVt.nil _ _, Deep.nil _ _, by simp⟩ (Nat.le_refl _)
    have HP : Hid (PaP f E O es ⟨xn, xa, xc, xl⟩ 0 0 [] false) := .inl ⟨fun h => hok h.2, rfl, rfl, rfl, rfl⟩
    obtain ⟨r0, r1, r2, g0, g1, g2, rl⟩ := hst1.by'
    clear hb2 hok hst1 q0 q1
    go_wp2
    refine bodyPost_ret (v := .tuple #[.agg #[.int .i64 0, .int .i64 0, .slice none 0 0], .bool false]) (by simp [results, Tryz.results17, go_sem, r0, r1, r2]) rfl ?_
    exact ⟨⟨_, _, _, _, _, _, HP.out, rfl, HLA.out.1⟩, HLA.out.2⟩
  have hst2 := HST1.out.step hb2
  have hxl : xl.length ≤ 65 := by
    rcases hok.2 with h | h
    · simp only at h; rw [h]; simp
    · obtain ⟨bs, hbs⟩ := Option.isSome_iff_exists.1 h
      exact ((HB.out.2.2.2.2 xl hql HB.out.2.2.1.1).1 bs hbs).2.2
  have HOK : Hid (itOk f ⟨xn, xa, xc, xl⟩) := hok
  have HAD := l7add_any E O a cap es xn xa xc xl w2 (HB.out.1.els.below hst2.bel (Nat.le_refl _)) (by omega)
  have HST2 : Hid _ := hst2
  obtain ⟨p0, p1, p2, -, -, -, pl⟩ := hst2.bx
  obtain ⟨y0, y1, -, -, yl⟩ := hst2.bq
  simp only at y0 y1
  clear hb2 hok hst2 q0 q1 ql HST1
  go_wp2_with fail
  refine HAD.mono ?_
  clear HAD
  rintro e w3 ⟨⟨v, rfl, hov⟩, hb3⟩
  obtain ⟨va, vc, rfl⟩ := hov.form
  obtain ⟨gs, hgs⟩ : ∃ gs, gs = addL es ⟨xn, xa, xc, xl⟩ := ⟨_, rfl⟩
  rw [← hgs] at hov ⊢
  have hst3 := HST2.out.step hb3
  have hba : Below w3.heap.size w3 (w3.alloc (Obj.cells #[Value.int IntKind.i64 E, Value.int IntKind.i64 O, Value.slice va gs.length vc] 29)) := (Below.refl _ _).alloc (Nat.le_refl _) _
  have hst4 := hst3.step hba
  have hm4 := Box3.new w3 (.int .i64 E) (.int .i64 O) (.slice va gs.length vc) 29
  have hgl : gs.length ≤ 17 := by rw [hgs]; have := addL_len es ⟨xn, xa, xc, xl⟩; omega
  have hge : elets gs ≤ 400 := by rw [hgs]; have := elets_add es ⟨xn, xa, xc, xl⟩; simp only at this; unfold szP at hsz6; omega
  have hel : elets es ≤ 256 := by unfold szP at hsz6; omega
  have hEls : Els true (w3.alloc (Obj.cells #[Value.int IntKind.i64 E, Value.int IntKind.i64 O, Value.slice va gs.length vc] 29)) va gs := by
    refine (hov.below hba).els (fun e he => ?_)
    rw [hgs] at he
    rcases addL_mem he with h | rfl
    · exact ⟨(HB.out.1.els.1 e h).1, (HB.out.1.els.1 e h).2.below hst4.bel (Nat.le_refl _)⟩
    · exact ⟨HB.out.2.2.2.1, HB.out.2.2.1.below hst4.bel (Nat.le_refl _)⟩
  have HGS : Hid (gs = addL es ⟨xn, xa, xc, xl⟩ ∧ True) := ⟨hgs, trivial⟩
  have HSZ := l7size_any E O va vc gs _ hEls (by omega) (by omega)
  have HE4 : Hid (Els true (w3.alloc (Obj.cells #[Value.int IntKind.i64 E, Value.int IntKind.i64 O, Value.slice va gs.length vc] 29)) va gs ∧ PaB w (w3.alloc (Obj.cells #[Value.int IntKind.i64 E, Value.int IntKind.i64 O, Value.slice va gs.length vc] 29)) E O a es.length cap ⟨xn, xa, xc, xl⟩ ∧ Box3 (w3.alloc (Obj.cells #[Value.int IntKind.i64 E, Value.int IntKind.i64 O, Value.slice va gs.length vc] 29)) w3.heap.size (.int .i64 E) (.int .i64 O) (.slice va gs.length vc) ∧ w.heap.size + 1 + 1 + 1 ≤ w3.heap.size) := ⟨hEls, hst4, hm4, hst3.by'.lt⟩
  obtain ⟨m0, m1, m2, -, -, -, ml⟩ := hm4
  clear hov hb3 hst3 hba hst4 hEls p0 p1 p2 pl y0 y1 yl HST2 hgs hsz6
  have hzb : szP gs ≤ 1000 := by unfold szP; omega
  go_wp2_with fail
  generalize w3.alloc (Obj.cells #[Value.int IntKind.i64 E, Value.int IntKind.i64 O, Value.slice va gs.length vc] 29) = W4 at *
  refine HSZ.mono ?_
  clear HSZ
  rintro e w5 ⟨rfl, hb5⟩
  have hst5 := HE4.out.2.1.step hb5
  have hm5 := HE4.out.2.2.1.step hb5
  have hsm : ∀ (l : List El) (B : Nat), elets l ≤ B → ∀ s ∈ l, s.ls.length ≤ B := fun l B h s hs => by have := elets_mem hs; omega
  have hU : w.heap.size + 1 + 1 + 1 ≤ w5.heap.size := by have := hst5.by'.lt; omega
  by_cases hz : szP gs ≤ 256
  · have HP : Hid (PaP f E O es ⟨xn, xa, xc, xl⟩ E O gs true) := .inr (.inr ⟨⟨HPK.out, HOK.out⟩, by rw [← HGS.out.1]; exact hz, rfl, rfl, HGS.out.1, rfl⟩)
    have HOW := l7own_any E O va vc gs w5 (HE4.out.1.below hb5 (Nat.le_refl _)) (by omega) (hsm gs 1000000 (by omega))
    have HST5 : Hid _ := hst5
    obtain ⟨m0, m1, m2, -, -, -, ml⟩ := hm5
    generalize szP gs = Z at *
    have hz2 : ¬ ((256 : Int) < (Z : Int)) := by omega
    clear hb5 hst5 hz hsm
    go_wp2_with fail
    refine HOW.mono ?_
    clear HOW
    rintro e w6 ⟨⟨v6, ts, rfl, hcop⟩, hb6⟩
    have hst6 := HST5.out.step hb6
    obtain ⟨va6, vc6, rfl⟩ := hcop.row.form
    have HLA : Hid _ := PaB.last (E' := E) (O' := O) hst6 hcop hU
    obtain ⟨r0, r1, r2, g0, g1, g2, rl⟩ := hst6.by'
    clear hb6 hst6 hcop m0 m1 m2
    go_wp2
    refine bodyPost_ret (v := .tuple #[.agg #[.int .i64 E, .int .i64 O, .slice va6 ts.length vc6], .bool true]) (by simp [results, Tryz.results17, go_sem, r0, r1, r2]) rfl ?_
    exact ⟨⟨_, _, _, _, _, _, HP.out, rfl, HLA.out.1⟩, HLA.out.2⟩
  · have HP : Hid (PaP f E O es ⟨xn, xa, xc, xl⟩ E O es false) := .inr (.inl ⟨⟨HPK.out, HOK.out⟩, by rw [← HGS.out.1]; omega, rfl, rfl, rfl, rfl⟩)
    have HOW := l7own_any E O a cap es w5 (HB.out.1.els.below hst5.bel (Nat.le_refl _)) (by omega) (hsm es 1000000 (by omega))
    have HST5 : Hid _ := hst5
    obtain ⟨p0, p1, p2, -, -, -, pl⟩ := hst5.bx
    generalize szP gs = Z at *
    have hz2 : (256 : Int) < (Z : Int) := by omega
    clear hb5 hst5 hz hsm hm5
    go_wp2_with fail
    refine HOW.mono ?_
    clear HOW
    rintro e w6 ⟨⟨v6, ts, rfl, hcop⟩, hb6⟩
    have hst6 := HST5.out.step hb6
    obtain ⟨va6, vc6, rfl⟩ := hcop.row.form
    have HLA : Hid _ := PaB.last (E' := E) (O' := O) hst6 hcop hU
    obtain ⟨r0, r1, r2, g0, g1, g2, rl⟩ := hst6.by'
    clear hb6 hst6 hcop p0 p1 p2
    go_wp2
    refine bodyPost_ret (v := .tuple #[.agg #[.int .i64 E, .int .i64 O, .slice va6 ts.length vc6], .bool false]) (by simp [results, Tryz.results17, go_sem, r0, r1, r2]) rfl ?_
    exact ⟨⟨_, _, _, _, _, _, HP.out, rfl, HLA.out.1⟩, HLA.out.2⟩

set_option maxRecDepth 20000 in
set_option maxHeartbeats 4000000 in
theorem implPackAdd_any (f : List Int → Option (List Int)) (hf : DecF f) (E O : Int) (a : Option Addr) (cap : Nat) (es : List El) (xn : Int) (xa : Option Addr) (xc : Nat) (xl : List Int) (w : World) (hi : ItI w a es) (hx : FewJ es) (hq : Byt w xa xl) (hqc : xl.length ≤ xc) (hql : xl.length ≤ 1048576) (hqr : rE true ⟨xn, xa, xc, xl⟩) (hS : SentB w) :
    Calls Tryz.prog 19 #[.agg #[.int .i64 E, .int .i64 O, .slice a es.length cap], .agg #[.int .i64 xn, .slice xa xl.length xc]] w (PaA f E O es ⟨xn, xa, xc, xl⟩ w) := by
  have hst := PaB.start w E O a es.length cap ⟨xn, xa, xc, xl⟩ 29 40 29
  have HOK := implPackOk_any f hf E O a cap es _ (hi.below hst.bel (Nat.le_refl _)) hx (hS.below hst.bel)
  have HB : Hid (ItI w a es ∧ FewJ es ∧ Byt w xa xl ∧ rE true ⟨xn, xa, xc, xl⟩ ∧ DecF f ∧ SentB w) := ⟨hi, hx, hq, hqr, hf, hS⟩
  clear hi hx hq hqr hf hS
  go_enter Tryz.func19, Tryz.ntmps19
  go_wp2_with fail
  generalize ((w.alloc (Obj.cells #[Value.int IntKind.i64 E, Value.int IntKind.i64 O, Value.slice a es.length cap] 29)).alloc (Obj.cells #[Value.int IntKind.i64 xn, Value.slice xa xl.length xc] 40)).alloc (Obj.cells #[Value.int IntKind.i64 0, Value.int IntKind.i64 0, Value.slice none 0 0] 29) = W0 at *
  refine HOK.mono ?_
  clear HOK
  rintro e w1 ⟨⟨hp, rfl⟩ | ⟨hp, rfl⟩, hb1⟩
  rotate_left 1
  · have hst1 := hst.step hb1
    have HLA : Hid _ := PaB.last (E' := 0) (O' := 0) (v := .slice none 0 0) (ts := []) (fs := []) (U := w.heap.size + 1 + 1 + 1) hst1 ⟨rfl, OVt.nil _ _, Deep.nil _ _, by simp⟩ (Nat.le_refl _)
    have HP : Hid (PaP f E O es ⟨xn, xa, xc, xl⟩ 0 0 [] false) := .inl ⟨fun h => hp h.1, rfl, rfl, rfl, rfl⟩
    obtain ⟨r0, r1, r2, g0, g1, g2, rl⟩ := hst1.by'
    clear hb1 hp hst hst1
    go_wp2
    refine bodyPost_ret (v := .tuple #[.agg #[.int .i64 0, .int .i64 0, .slice none 0 0], .bool false]) (by simp [results, Tryz.results19, go_sem, r0, r1, r2]) rfl ?_
    exact ⟨⟨_, _, _, _, _, _, HP.out, rfl, HLA.out.1⟩, HLA.out.2⟩
  have hst1 := hst.step hb1
  have HIT := itemRight_any f HB.out.2.2.2.2.1 xn xa xc xl w1 (HB.out.2.2.1.below hst1.bel (Nat.le_refl _)) hqc hql (HB.out.2.2.2.2.2.below hst1.bel)
  have HPK : Hid (PkR f E O es) := hp
  have hn16 := hp.n
  have hsz6 := hp.sz
  have HST1 : Hid _ := hst1
  obtain ⟨q0, q1, -, -, ql⟩ := hst1.bq
  simp only at q0 q1
  clear hb1 hp hst hst1
  go_wp2_with fail
  refine HIT.mono ?_
  clear HIT
  rintro e w2 ⟨⟨hok, rfl⟩ | ⟨hok, rfl⟩, hb2⟩
  rotate_left 1
  · have hst1 := HST1.out.step hb2
    have HLA : Hid _ := PaB.last (E' := 0) (O' := 0) (v := .slice none 0 0) (ts := []) (fs := []) (U := w.heap.size + 1 + 1 + 1) hst1 ⟨rfl, OVt.nil _ _, Deep.nil _ _, by simp⟩ (Nat.le_refl _)
    have HP : Hid (PaP f E O es ⟨xn, xa, xc, xl⟩ 0 0 [] false) := .inl ⟨fun h => hok h.2, rfl, rfl, rfl, rfl⟩
    obtain ⟨r0, r1, r2, g0, g1, g2, rl⟩ := hst1.by'
    clear hb2 hok hst1 q0 q1
    go_wp2
    refine bodyPost_ret (v := .tuple #[.agg #[.int .i64 0, .int .i64 0, .slice none 0 0], .bool false]) (by simp [results, Tryz.results19, go_sem, r0, r1, r2]) rfl ?_
    exact ⟨⟨_, _, _, _, _, _, HP.out, rfl, HLA.out.1⟩, HLA.out.2⟩
  have hst2 := HST1.out.step hb2
  have hxl : xl.length ≤ 65 := by
    rcases hok.2 with h | h
    · simp only at h; rw [h]; simp
    · obtain ⟨bs, hbs⟩ := Option.isSome_iff_exists.1 h
      exact ((HB.out.2.2.2.2.1 xl hql HB.out.2.2.1.1).1 bs hbs).2.2
  have HOK : Hid (itOk f ⟨xn, xa, xc, xl⟩) := hok
  have HAD := with7_any E O a cap es xn xa xc xl w2 (HB.out.1.els.below hst2.bel (Nat.le_refl _)) (by omega)
  have HST2 : Hid _ := hst2
  obtain ⟨p0, p1, p2, -, -, -, pl⟩ := hst2.bx
  obtain ⟨y0, y1, -, -, yl⟩ := hst2.bq
  simp only at y0 y1
  clear hb2 hok hst2 q0 q1 ql HST1
  go_wp2_with fail
  refine HAD.mono ?_
  clear HAD
  rintro e w3 ⟨⟨v, rfl, hov⟩, hb3⟩
  obtain ⟨va, vc, rfl⟩ := hov.form
  obtain ⟨gs, hgs⟩ : ∃ gs, gs = addL es ⟨xn, xa, xc, xl⟩ := ⟨_, rfl⟩
  rw [← hgs] at hov ⊢
  have hst3 := HST2.out.step hb3
  have hba : Below w3.heap.size w3 (w3.alloc (Obj.cells #[Value.int IntKind.i64 E, Value.int IntKind.i64 O, Value.slice va gs.length vc] 29)) := (Below.refl _ _).alloc (Nat.le_refl _) _
  have hst4 := hst3.step hba
  have hm4 := Box3.new w3 (.int .i64 E) (.int .i64 O) (.slice va gs.length vc) 29
  have hgl : gs.length ≤ 17 := by rw [hgs]; have := addL_len es ⟨xn, xa, xc, xl⟩; omega
  have hge : elets gs ≤ 400 := by rw [hgs]; have := elets_add es ⟨xn, xa, xc, xl⟩; simp only at this; unfold szP at hsz6; omega
  have hel : elets es ≤ 256 := by unfold szP at hsz6; omega
  have hEls : Els true (w3.alloc (Obj.cells #[Value.int IntKind.i64 E, Value.int IntKind.i64 O, Value.slice va gs.length vc] 29)) va gs := by
    refine (hov.below hba).els (fun e he => ?_)
    rw [hgs] at he
    rcases addL_mem he with h | rfl
    · exact ⟨(HB.out.1.els.1 e h).1, (HB.out.1.els.1 e h).2.below hst4.bel (Nat.le_refl _)⟩
    · exact ⟨HB.out.2.2.2.1, HB.out.2.2.1.below hst4.bel (Nat.le_refl _)⟩
  have HGS : Hid (gs = addL es ⟨xn, xa, xc, xl⟩ ∧ True) := ⟨hgs, trivial⟩
  have HSZ := packSizeI_any E O va vc gs _ hEls (by omega) (by omega)
  have HE4 : Hid (Els true (w3.alloc (Obj.cells #[Value.int IntKind.i64 E, Value.int IntKind.i64 O, Value.slice va gs.length vc] 29)) va gs ∧ PaB w (w3.alloc (Obj.cells #[Value.int IntKind.i64 E, Value.int IntKind.i64 O, Value.slice va gs.length vc] 29)) E O a es.length cap ⟨xn, xa, xc, xl⟩ ∧ Box3 (w3.alloc (Obj.cells #[Value.int IntKind.i64 E, Value.int IntKind.i64 O, Value.slice va gs.length vc] 29)) w3.heap.size (.int .i64 E) (.int .i64 O) (.slice va gs.length vc) ∧ w.heap.size + 1 + 1 + 1 ≤ w3.heap.size) := ⟨hEls, hst4, hm4, hst3.by'.lt⟩
  obtain ⟨m0, m1, m2, -, -, -, ml⟩ := hm4
  clear hov hb3 hst3 hba hst4 hEls p0 p1 p2 pl y0 y1 yl HST2 hgs hsz6
  have hzb : szP gs ≤ 1000 := by unfold szP; omega
  go_wp2_with fail
  generalize w3.alloc (Obj.cells #[Value.int IntKind.i64 E, Value.int IntKind.i64 O, Value.slice va gs.length vc] 29) = W4 at *
  refine HSZ.mono ?_
  clear HSZ
  rintro e w5 ⟨rfl, hb5⟩
  have hst5 := HE4.out.2.1.step hb5
  have hm5 := HE4.out.2.2.1.step hb5
  have hsm : ∀ (l : List El) (B : Nat), elets l ≤ B → ∀ s ∈ l, s.ls.length ≤ B := fun l B h s hs => by have := elets_mem hs; omega
  have hU : w.heap.size + 1 + 1 + 1 ≤ w5.heap.size := by have := hst5.by'.lt; omega
  by_cases hz : szP gs ≤ 256
  · have HP : Hid (PaP f E O es ⟨xn, xa, xc, xl⟩ E O gs true) := .inr (.inr ⟨⟨HPK.out, HOK.out⟩, by rw [← HGS.out.1]; exact hz, rfl, rfl, HGS.out.1, rfl⟩)
    have HOW := copied7_any E O va vc gs w5 (HE4.out.1.below hb5 (Nat.le_refl _)) (by omega) (hsm gs 1000000 (by omega))
    have HST5 : Hid _ := hst5
    obtain ⟨m0, m1, m2, -, -, -, ml⟩ := hm5
    generalize szP gs = Z at *
    have hz2 : ¬ ((256 : Int) < (Z : Int)) := by omega
    clear hb5 hst5 hz hsm
    go_wp2_with fail
    refine HOW.mono ?_
    clear HOW
    rintro e w6 ⟨⟨v6, ts, rfl, hcop⟩, hb6⟩
    have hst6 := HST5.out.step hb6
    obtain ⟨va6, vc6, rfl⟩ := hcop.row.form
    have HLA : Hid _ := PaB.last (E' := E) (O' := O) hst6 hcop hU
    obtain ⟨r0, r1, r2, g0, g1, g2, rl⟩ := hst6.by'
    clear hb6 hst6 hcop m0 m1 m2
    go_wp2
    refine bodyPost_ret (v := .tuple #[.agg #[.int .i64 E, .int .i64 O, .slice va6 ts.length vc6], .bool true]) (by simp [results, Tryz.results19, go_sem, r0, r1, r2]) rfl ?_
    exact ⟨⟨_, _, _, _, _, _, HP.out, rfl, HLA.out.1⟩, HLA.out.2⟩
  · have HP : Hid (PaP f E O es ⟨xn, xa, xc, xl⟩ E O es false) := .inr (.inl ⟨⟨HPK.out, HOK.out⟩, by rw [← HGS.out.1]; omega, rfl, rfl, rfl, rfl⟩)
    have HOW := copied7_any E O a cap es w5 (HB.out.1.els.below hst5.bel (Nat.le_refl _)) (by omega) (hsm es 1000000 (by omega))
    have HST5 : Hid _ := hst5
    obtain ⟨p0, p1, p2, -, -, -, pl⟩ := hst5.bx
    generalize szP gs = Z at *
    have hz2 : (256 : Int) < (Z : Int) := by omega
    clear hb5 hst5 hz hsm hm5
    go_wp2_with fail
    refine HOW.mono ?_
    clear HOW
    rintro e w6 ⟨⟨v6, ts, rfl, hcop⟩, hb6⟩
    have hst6 := HST5.out.step hb6
    obtain ⟨va6, vc6, rfl⟩ := hcop.row.form
    have HLA : Hid _ := PaB.last (E' := E) (O' := O) hst6 hcop hU
    obtain ⟨r0, r1, r2, g0, g1, g2, rl⟩ := hst6.by'
    clear hb6 hst6 hcop p0 p1 p2
    go_wp2
    refine bodyPost_ret (v := .tuple #[.agg #[.int .i64 E, .int .i64 O, .slice va6 ts.length vc6], .bool false]) (by simp [results, Tryz.results19, go_sem, r0, r1, r2]) rfl ?_
    exact ⟨⟨_, _, _, _, _, _, HP.out, rfl, HLA.out.1⟩, HLA.out.2⟩
end Go.Proofs.YtdkffeemnenhdaaGreatDoor
