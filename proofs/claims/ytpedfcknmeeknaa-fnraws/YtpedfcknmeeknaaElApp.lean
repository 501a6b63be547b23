/-
  Rows of lists that grow by an append; new lists of zeros; lists copied by an append: at a step of a region that draws its order, and in a plain one.
-/
import Derived.Test.YtpedfcknmeeknaaElW
import Derived.Test.YtpedfcknmeeknaaBApp
namespace Go.Proofs.Ytpedfcknmeeknaa
open Go.RowKit
set_option linter.unusedVariables false

theorem Only.ofGrown {w w' : World} {row : Option Nat} (hg : w.grownBy w' row) : Only (fun k => row = some k) w w' := (Only.refl (fun k => row = some k) w).grown hg (fun k hk => .inl hk)
theorem wanted_step {P : Program} {ops : Array Oper} {o : Oper} {a : Act} {w : World} {K : Act → World → Prop} {Q : Exit → Act → World → Prop} {E : Prop} (hg : o.guard = none) (h : Oper.wp P o a w K Q) :
    if Region.wanted o (yielded ops a.tmps) = true then Oper.wp P o a w K Q else E := by
  rw [if_pos (by simp [Region.wanted, hg])]
  exact h

/-- make([]byte, n), as a region that draws its order leaves it. -/
theorem upon_make_byt {o : Oper} {a : Act} {w : World} {K : Act → World → Prop} {Q : Exit → Act → World → Prop} {L C : Int} (n : Nat) (hl : L = (n : Int)) (hc : C = (n : Int)) (hn : n ≤ 1048576) (zs : List Int) (hzs : zs = List.replicate n 0)
    (h : ∀ w', Own w' w.heap.size w.heap.size n zs → Below w.heap.size w w' → K (a.put o.dst (.slice (some ⟨w.heap.size, 0, none⟩) n n)) w') :
    o.upon Try.prog a K Q ((Sem.run Try.prog (Instr.makeSlice 22 (.int .i64 L) (.int .i64 C)) w).andThen fun a w' => Result.ok (Next.value a) w') := by
  obtain ⟨i0, hi, hz0, hz1, hz2⟩ := info_parts Try.infoU8
  obtain ⟨w', hrun, r1, r2⟩ := run_make_full (P := Try.prog) w w.heap.size 22 5 i0 (.int .u8 0) 1 Try.underlying22 hi hz0 hz1 .i64 .i64 n (by rw [hz2]; omega) (by unfold maxLen; omega) (Nat.le_refl _)
  subst hl hc hzs
  rw [hrun]
  refine h w' ⟨?_, by intro z hz; rw [(List.mem_replicate.1 hz).2]; omega⟩ ((Below.refl _ _).grown r2 (Nat.le_refl _) (by intro k hk; cases hk))
  rw [made_zero] at r1
  simpa using r1

theorem run_make_byt (w : World) (n : Nat) (hn : n ≤ 1048576) (zs : List Int) (hzs : zs = List.replicate n 0) : ∃ w', Sem.run Try.prog (Instr.makeSlice 22 (.int .i64 (n : Int)) (.int .i64 (n : Int))) w = .ok (.slice (some ⟨w.heap.size, 0, none⟩) n n) w' ∧ Own w' w.heap.size w.heap.size n zs ∧ Below w.heap.size w w' := by
  obtain ⟨i0, hi, hz0, hz1, hz2⟩ := info_parts Try.infoU8
  obtain ⟨w', hrun, r1, r2⟩ := run_make_full (P := Try.prog) w w.heap.size 22 5 i0 (.int .u8 0) 1 Try.underlying22 hi hz0 hz1 .i64 .i64 n (by rw [hz2]; omega) (by unfold maxLen; omega) (Nat.le_refl _)
  subst hzs
  refine ⟨w', hrun, ⟨?_, by intro z hz; rw [(List.mem_replicate.1 hz).2]; omega⟩, (Below.refl _ _).grown r2 (Nat.le_refl _) (by intro k hk; cases hk)⟩
  rw [made_zero] at r1
  simpa using r1

theorem oneCellE (p : Bool) (e : El) : ∀ u ∈ e.cells p, u.oneCell' = true := by
  intro u hu
  cases p <;> simp [El.cells] at hu
  · subst hu; rfl
  · rcases hu with rfl | rfl <;> rfl
/-- The one element of a new array of one. -/
theorem newsS (w : World) (a : Option Addr) (L c : Nat) (T : TypeId) (e : El) (h1 : e.a = a) (h2 : e.ls.length = L) (h3 : e.c = c) : ∀ j u, (e.cells false)[j]? = some u → (w.alloc (Obj.cells #[.slice a L c] T)).cell? ⟨w.heap.size, j, none⟩ = some u := by
  intro j u hu
  subst h1 h2 h3
  cases j with
  | zero => simp [El.cells] at hu; simp [hu]
  | succ j => simp [El.cells] at hu
theorem newsP (w : World) (n : Int) (a : Option Addr) (L c : Nat) (T : TypeId) (e : El) (h0 : e.n = n) (h1 : e.a = a) (h2 : e.ls.length = L) (h3 : e.c = c) : ∀ j u, (e.cells true)[j]? = some u → (w.alloc (Obj.cells #[.int .i64 n, .slice a L c] T)).cell? ⟨w.heap.size, j, none⟩ = some u := by
  intro j u hu
  subst h0 h1 h2 h3
  cases j with
  | zero => simp [El.cells] at hu; simp [hu]
  | succ j =>
    cases j with
    | zero => simp [El.cells] at hu; simp [hu]
    | succ j => simp [El.cells] at hu
theorem infoE (p : Bool) : ∃ i z b, Try.prog.info? (eT p) = some i ∧ i.zero = some z ∧ i.size = eW p ∧ i.bytes = b ∧ z.cells.size = eW p ∧ b ≤ 32 := by
  cases p
  · obtain ⟨i0, hi, hz0, hz1, hz2⟩ := info_parts Try.infoBs
    exact ⟨i0, _, 24, hi, hz0, hz1, hz2, rfl, by omega⟩
  · obtain ⟨i0, hi, hz0, hz1, hz2⟩ := info_parts Try.infoPend
    exact ⟨i0, _, 32, hi, hz0, hz1, hz2, rfl, by omega⟩
/-- The type of a row of them. -/
def eS (p : Bool) : TypeId := cond p 24 23
theorem undE (p : Bool) : Try.prog.underlying (eS p) = some (.slice (eT p)) := by
  cases p
  · exact Try.underlying23
  · exact Try.underlying24

/-- append(s, e): one more. -/
theorem wp_append_el (p : Bool) {o : Oper} {a : Act} {w : World} {K : Act → World → Prop} {Q : Exit → Act → World → Prop} (s x : Operand) (ho : o.op = .call { callee := .builtin .append, args := #[s, x], argTypes := #[eS p, eS p] })
    (B : Nat) (v : Value) (es : List El) (hs : a.eval s = v) (hown : OVr p w B v es) (X c : Nat) (e : El) (hx : a.eval x = .slice (some ⟨X, 0, none⟩) 1 c) (hX : ∀ j u, (e.cells p)[j]? = some u → w.cell? ⟨X, j, none⟩ = some u) (hb1 : es.length ≤ 1000000) (hbase : B ≤ w.heap.size)
    (h : ∀ v' w', OVr p w' B v' (es ++ [e]) → w.grownBy w' v.ownBlock → K (a.put o.dst v') w') : o.wp Try.prog a w K Q := by
  obtain ⟨i0, z0, b0, hi, hz0, hz1, hz2, hz3, hb0⟩ := infoE p
  obtain ⟨v', w', hr, h2, h3, _, _⟩ := run_append_own_at (P := Try.prog) w B (eS p) o.type (eT p) i0 z0 (eW p) b0 (undE p) hi hz0 hz1 hz2 hz3 (by cases p <;> simp [eW]) v es.length _ hown.own ⟨X, 0, none⟩ 1 c (e.cells p) (by rw [cells_lenE, Nat.one_mul]) (fun j u hu => by rw [addr_add, Nat.zero_add]; exact hX j u hu) (oneCellE p e) (by unfold maxLen; omega) (Nat.le_trans (Nat.mul_le_mul (show es.length + 1 ≤ 1000001 by omega) hb0) (by omega)) hbase
  unfold Oper.wp execOp
  simp only [ho, resolve, invoke, builtin, Sem.run_bind, Sem.run_pure, Result.andThen_ok, List.map_toArray, List.map_cons, List.map_nil, hs, hx, hr]
  refine h v' w' ⟨?_⟩ h3
  rw [List.length_append, List.flatMap_append]
  simpa using h2
/-- append(s, e): one more, and where it lies. -/
theorem wp_append_el_at (p : Bool) {o : Oper} {a : Act} {w : World} {K : Act → World → Prop} {Q : Exit → Act → World → Prop} (s x : Operand) (ho : o.op = .call { callee := .builtin .append, args := #[s, x], argTypes := #[eS p, eS p] })
    (B : Nat) (v : Value) (es : List El) (hs : a.eval s = v) (hown : OVr p w B v es) (X c : Nat) (e : El) (hx : a.eval x = .slice (some ⟨X, 0, none⟩) 1 c) (hX : ∀ j u, (e.cells p)[j]? = some u → w.cell? ⟨X, j, none⟩ = some u) (hb1 : es.length ≤ 1000000) (hbase : B ≤ w.heap.size)
    (h : ∀ v' w', OVr p w' B v' (es ++ [e]) → w.grownBy w' v.ownBlock → (v'.ownBlock = v.ownBlock ∨ v'.ownBlock = some w.heap.size) → K (a.put o.dst v') w') : o.wp Try.prog a w K Q := by
  obtain ⟨i0, z0, b0, hi, hz0, hz1, hz2, hz3, hb0⟩ := infoE p
  obtain ⟨v', w', hr, h2, h3, _, h5⟩ := run_append_own_at (P := Try.prog) w B (eS p) o.type (eT p) i0 z0 (eW p) b0 (undE p) hi hz0 hz1 hz2 hz3 (by cases p <;> simp [eW]) v es.length _ hown.own ⟨X, 0, none⟩ 1 c (e.cells p) (by rw [cells_lenE, Nat.one_mul]) (fun j u hu => by rw [addr_add, Nat.zero_add]; exact hX j u hu) (oneCellE p e) (by unfold maxLen; omega) (Nat.le_trans (Nat.mul_le_mul (show es.length + 1 ≤ 1000001 by omega) hb0) (by omega)) hbase
  unfold Oper.wp execOp
  simp only [ho, resolve, invoke, builtin, Sem.run_bind, Sem.run_pure, Result.andThen_ok, List.map_toArray, List.map_cons, List.map_nil, hs, hx, hr]
  refine h v' w' ⟨?_⟩ h3 h5
  rw [List.length_append, List.flatMap_append]
  simpa using h2
theorem appE_below {p : Bool} {w0 wr w1 : World} {B : Nat} {v : Value} {es : List El} (hbel : Below B w0 wr) (hB : B ≤ wr.heap.size) (h : OVr p wr B v es) (hg : wr.grownBy w1 v.ownBlock) : Below B w0 w1 :=
  hbel.grown hg hB (fun k hk => (h.blk hk).1)
theorem Deep.grown {p : Bool} {w w' : World} {B : Nat} {v : Value} {es fs : List El} (hd : Deep w B fs) (h : OVr p w B v es) (hg : w.grownBy w' v.ownBlock) : Deep w' B fs :=
  hd.stay (Only.ofGrown hg) (fun x hx k hk e => h.other (hd.mine x hx) e hk)
end Go.Proofs.Ytpedfcknmeeknaa
