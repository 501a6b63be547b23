/-
  Rows of items that grow by an append; packs in the making.
-/
import Derived.Test.YtjeippleimlljaaGreatDoorPkB
import Derived.Test.YtjeippleimlljaaGreatDoorPkM
import Derived.Test.YtjeippleimlljaaGreatDoorUs3
import Derived.Test.YtjeippleimlljaaGreatDoorBRep
namespace Go.Proofs.YtjeippleimlljaaGreatDoor
open Go.RowKit
set_option linter.unusedVariables false

/-- How many bytes the item k of a sector tells of, where its bytes begin, and the item. -/
def cN (zs : List Int) (k : Nat) : Nat := (zs.getD (7 + 2 * k) 0).toNat
def aP (zs : List Int) (m : Nat) : Nat → Nat
  | 0 => 6 + 2 * m
  | k + 1 => aP zs m k + cN zs k
def itE (zs : List Int) (m k : Nat) : El := ⟨zs.getD (6 + 2 * k) 0, none, 0, (zs.drop (aP zs m k)).take (cN zs k)⟩
def itL (zs : List Int) (m : Nat) : Nat → List El
  | 0 => []
  | k + 1 => itL zs m k ++ [itE zs m k]
theorem itL_len (zs : List Int) (m k : Nat) : (itL zs m k).length = k := by
  induction k with
  | zero => rfl
  | succ k ih => simp [itL, ih]
theorem aP_mono (zs : List Int) (m k : Nat) : aP zs m k ≤ aP zs m (k + 1) := by simp [aP]
theorem aP_le (zs : List Int) (m : Nat) {j k : Nat} (h : j ≤ k) : aP zs m j ≤ aP zs m k := by
  induction k with
  | zero => obtain rfl : j = 0 := by omega
            exact Nat.le_refl _
  | succ k ih =>
    rcases Nat.lt_or_ge j (k + 1) with h1 | h1
    · exact Nat.le_trans (ih (by omega)) (aP_mono zs m k)
    · obtain rfl : j = k + 1 := by omega
      exact Nat.le_refl _
theorem aP_lo (zs : List Int) (m k : Nat) : 6 + 2 * m ≤ aP zs m k := aP_le zs m (Nat.zero_le k)
theorem itE_len {zs : List Int} {m k : Nat} (h : aP zs m (k + 1) ≤ zs.length) : (itE zs m k).ls.length = cN zs k := by
  simp only [aP] at h
  simp only [itE, List.length_take, List.length_drop]
  omega
theorem itL_lets {zs : List Int} {m k : Nat} (h : aP zs m k ≤ zs.length) : elets (itL zs m k) + (6 + 2 * m) = aP zs m k := by
  induction k with
  | zero => simp [itL, elets, aP]
  | succ k ih =>
    have h1 := ih (Nat.le_trans (aP_mono zs m k) h)
    rw [itL, elets_app]
    simp only [elets, itE_len h]
    simp only [aP]
    omega
theorem itL_sz {zs : List Int} {m : Nat} (h : aP zs m m ≤ zs.length) : szP (itL zs m m) = aP zs m m := by
  have := itL_lets h
  unfold szP
  rw [itL_len]
  omega
theorem itL_B {zs : List Int} {m k : Nat} (h : aP zs m k ≤ zs.length) : pbB (itL zs m k) = (zs.drop (6 + 2 * m)).take (aP zs m k - (6 + 2 * m)) := by
  induction k with
  | zero => simp [itL, pbB, aP]
  | succ k ih =>
    have h0 := aP_lo zs m k
    rw [itL, pbB_app, ih (Nat.le_trans (aP_mono zs m k) h)]
    have h1 : aP zs m (k + 1) - (6 + 2 * m) = (aP zs m k - (6 + 2 * m)) + cN zs k := by simp only [aP]; omega
    rw [h1, List.take_add, List.drop_drop]
    have h2 : 6 + 2 * m + (aP zs m k - (6 + 2 * m)) = aP zs m k := by omega
    rw [h2]
    simp [pbB, itE]
theorem take2 (zs : List Int) (i : Nat) (h : i + 1 < zs.length) : (zs.drop i).take 2 = [zs.getD i 0, zs.getD (i + 1) 0] := by
  have h1 : zs.drop i = zs[i] :: zs.drop (i + 1) := List.drop_eq_getElem_cons (by omega)
  have h2 : zs.drop (i + 1) = zs[i + 1] :: zs.drop (i + 1 + 1) := List.drop_eq_getElem_cons h
  rw [h1, h2, List.getD_eq_getElem?_getD, List.getD_eq_getElem?_getD, List.getElem?_eq_getElem h, List.getElem?_eq_getElem (show i < zs.length by omega)]
  rfl
theorem itL_I {zs : List Int} {m k : Nat} (hb : ∀ z ∈ zs, 0 ≤ z ∧ z ≤ 255) (hk : k ≤ m) (h : aP zs m k ≤ zs.length) : pbI (itL zs m k) = (zs.drop 6).take (2 * k) := by
  induction k with
  | zero => simp [itL, pbI]
  | succ k ih =>
    have h0 := aP_lo zs m k
    have h1 := aP_mono zs m k
    rw [itL, pbI_app, ih (by omega) (by omega), show 2 * (k + 1) = 2 * k + 2 by omega, List.take_add, List.drop_drop, take2 zs (6 + 2 * k) (by omega)]
    have h2 : (itE zs m k).ls.length = cN zs k := itE_len h
    have h3 : ((cN zs k : Nat) : Int) = zs.getD (7 + 2 * k) 0 := by
      have : 7 + 2 * k < zs.length := by omega
      have h4 := (hb (zs.getD (7 + 2 * k) 0) (by rw [List.getD_eq_getElem?_getD, List.getElem?_eq_getElem this]; exact List.getElem_mem this)).1
      unfold cN
      omega
    have h5 : (itE zs m k).n = zs.getD (6 + 2 * k) 0 := rfl
    have h6 : 6 + 2 * k + 1 = 7 + 2 * k := by omega
    simp [pbI, h2, h3, h5, h6]
/-- The numbers at the head of a sector. -/
def rpM (zs : List Int) : Nat := (zs.getD 5 0).toNat
def rpE (zs : List Int) : Int := zs.getD 1 0 * 256 + zs.getD 2 0
def rpO (zs : List Int) : Int := zs.getD 3 0 * 256 + zs.getD 4 0
theorem take6 {zs : List Int} (h : 6 ≤ zs.length) : zs.take 6 = [zs.getD 0 0, zs.getD 1 0, zs.getD 2 0, zs.getD 3 0, zs.getD 4 0, zs.getD 5 0] := by
  match zs, h with
  | a :: b :: c :: d :: e :: f :: r, _ => simp [List.getD_eq_getElem?_getD]
theorem pbH_take {zs : List Int} (hb : ∀ z ∈ zs, 0 ≤ z ∧ z ≤ 255) (h : 6 ≤ zs.length) (h0 : zs.getD 0 0 = 80) : pbH (rpE zs) (rpO zs) (rpM zs) = zs.take 6 := by
  have h1 := getD_rng hb 1
  have h2 := getD_rng hb 2
  have h3 := getD_rng hb 3
  have h4 := getD_rng hb 4
  have h5 := getD_rng hb 5
  rw [take6 h, h0]
  unfold pbH rpE rpO rpM
  have e1 : (zs.getD 1 0 * 256 + zs.getD 2 0) / 256 = zs.getD 1 0 := by omega
  have e2 : (zs.getD 1 0 * 256 + zs.getD 2 0) % 256 = zs.getD 2 0 := by omega
  have e3 : (zs.getD 3 0 * 256 + zs.getD 4 0) / 256 = zs.getD 3 0 := by omega
  have e4 : (zs.getD 3 0 * 256 + zs.getD 4 0) % 256 = zs.getD 4 0 := by omega
  have e5 : (((zs.getD 5 0).toNat : Nat) : Int) = zs.getD 5 0 := by omega
  rw [e1, e2, e3, e4, e5]
/-- What a pack that is read has as its bytes: just the sector, where nothing is behind it. -/
theorem pkL_back {zs : List Int} (hb : ∀ z ∈ zs, 0 ≤ z ∧ z ≤ 255) (h : zs.length = 256) (h0 : zs.getD 0 0 = 80) (ha : aP zs (rpM zs) (rpM zs) ≤ 256) :
    pkL (rpE zs) (rpO zs) (itL zs (rpM zs) (rpM zs)) = zs ↔ ∀ z ∈ zs.drop (aP zs (rpM zs) (rpM zs)), z = 0 := by
  have hl : aP zs (rpM zs) (rpM zs) ≤ zs.length := by omega
  have hlo := aP_lo zs (rpM zs) (rpM zs)
  unfold pkL
  rw [itL_len, pbH_take hb (by omega) h0, itL_I hb (Nat.le_refl _) hl, itL_B hl, itL_sz hl]
  have e1 : zs.take 6 ++ (zs.drop 6).take (2 * rpM zs) = zs.take (6 + 2 * rpM zs) := by rw [List.take_add]
  have e2 : zs.take (6 + 2 * rpM zs) ++ (zs.drop (6 + 2 * rpM zs)).take (aP zs (rpM zs) (rpM zs) - (6 + 2 * rpM zs)) = zs.take (aP zs (rpM zs) (rpM zs)) := by
    rw [← List.take_add]
    congr 1
    omega
  rw [e1, e2]
  generalize aP zs (rpM zs) (rpM zs) = q at *
  constructor
  · intro hz z hm
    have h3 : zs.drop q = List.replicate (256 - q) 0 := by
      conv => lhs; rw [← hz]
      rw [List.drop_append_of_le_length (by simp; omega)]
      have : (zs.take q).drop q = [] := by simp
      rw [this]; rfl
    rw [h3] at hm
    exact (List.mem_replicate.1 hm).2
  · intro hz
    have h3 : zs.drop q = List.replicate (256 - q) 0 := List.eq_replicate_iff.2 ⟨by simp; omega, hz⟩
    rw [← h3, List.take_append_drop]
end Go.Proofs.YtjeippleimlljaaGreatDoor
namespace Go.Proofs.YtjeippleimlljaaGreatDoor
open Go.RowKit
set_option linter.unusedVariables false

theorem Only.ofGrownT {w w' : World} {row : Option Nat} (hg : w.grownBy w' row) : Only (fun k => row = some k) w w' := (Only.refl (fun k => row = some k) w).grown hg (fun k hk => .inl hk)
theorem newsT (w : World) (n : Int) (a : Option Addr) (L c : Nat) (T : TypeId) (e : El) (h0 : e.n = n) (h1 : e.a = a) (h2 : e.ls.length = L) (h3 : e.c = c) : ∀ j u, (e.cells true)[j]? = some u → (w.alloc (Obj.cells #[.int .i64 n, .slice a L c] T)).cell? ⟨w.heap.size, j, none⟩ = some u := by
  intro j u hu
  subst h0 h1 h2 h3
  cases j with
  | zero => simp [El.cells] at hu; simp [hu]
  | succ j =>
    cases j with
    | zero => simp [El.cells] at hu; simp [hu]
    | succ j => simp [El.cells] at hu

/-- append(s, e): one more. -/
theorem wp_append_it {o : Oper} {a : Act} {w : World} {K : Act → World → Prop} {Q : Exit → Act → World → Prop} (s x : Operand) (ho : o.op = .call { callee := .builtin .append, args := #[s, x], argTypes := #[23, 23] })
    (B : Nat) (v : Value) (es : List El) (hs : a.eval s = v) (hown : OVt w B v es) (X c : Nat) (e : El) (hx : a.eval x = .slice (some ⟨X, 0, none⟩) 1 c) (hX : ∀ j u, (e.cells true)[j]? = some u → w.cell? ⟨X, j, none⟩ = some u) (hb1 : es.length ≤ 1000000) (hbase : B ≤ w.heap.size)
    (h : ∀ v' w', OVt w' B v' (es ++ [e]) → w.grownBy w' v.ownBlock → K (a.put o.dst v') w') : o.wp Tryz.prog a w K Q := by
  obtain ⟨i0, hi, hz0, hz1, hz2⟩ := info_parts Tryz.infoItem
  obtain ⟨v', w', hr, h2, h3, _, _⟩ := run_append_own_at (P := Tryz.prog) w B 23 o.type 36 i0 _ (eW true) 32 Tryz.underlying23 hi hz0 hz1 hz2 rfl (by simp [eW]) v es.length _ hown.own ⟨X, 0, none⟩ 1 c (e.cells true) (by rw [cells_lenE, Nat.one_mul]) (fun j u hu => by rw [addr_add, Nat.zero_add]; exact hX j u hu) (by
    intro u hu
    simp [El.cells] at hu
    rcases hu with rfl | rfl <;> rfl) (by unfold maxLen; omega) (by omega) hbase
  unfold Oper.wp execOp
  simp only [ho, resolve, invoke, builtin, Sem.run_bind, Sem.run_pure, Result.andThen_ok, List.map_toArray, List.map_cons, List.map_nil, hs, hx, hr]
  refine h v' w' ⟨?_⟩ h3
  rw [List.length_append, List.flatMap_append]
  simpa using h2
theorem wpList_append_it {ops : Array Oper} {rest : List Oper} {o : Oper} {a : Act} {Q : Exit → Act → World → Prop} {w : World} (hgd : o.guard = none) (s x : Operand) (ho : o.op = .call { callee := .builtin .append, args := #[s, x], argTypes := #[23, 23] })
    (B : Nat) (v : Value) (es : List El) (hs : a.eval s = v) (hown : OVt w B v es) (X c : Nat) (e : El) (hx : a.eval x = .slice (some ⟨X, 0, none⟩) 1 c) (hX : ∀ j u, (e.cells true)[j]? = some u → w.cell? ⟨X, j, none⟩ = some u) (hb1 : es.length ≤ 1000000) (hbase : B ≤ w.heap.size)
    (h : ∀ v' w', OVt w' B v' (es ++ [e]) → w.grownBy w' v.ownBlock → wpList Tryz.prog ops Q rest (a.put o.dst v') w') : wpList Tryz.prog ops Q (o :: rest) a w := by
  refine wpList_plain hgd fun K hK' => ?_
  exact wp_append_it s x ho B v es hs hown X c e hx hX hb1 hbase (fun v' w' h1 h2 => hK' _ _ (h v' w' h1 h2))

theorem Box3.set2 {W : World} {b : Nat} {x y z : Value} (h : Box3 W b x y z) (u : Value) : Box3 (W.setCell ⟨b, 2, none⟩ u) b x y u := by
  obtain ⟨h0, h1, h2, h3, h4, h5, h6⟩ := h
  exact ⟨(World.cell?_setCell_other W _ _ _ (by simp)).trans h0, (World.cell?_setCell_other W _ _ _ (by simp)).trans h1, World.cell?_setCell_same W _ _ h2, by simp [h3], by simp [h4], by simp [h5], by simpa using h6⟩
theorem Box3.other {W : World} {b : Nat} {x y z : Value} (h : Box3 W b x y z) {p : Addr} (hp : p.block ≠ b) (u : Value) : Box3 (W.setCell p u) b x y z := by
  obtain ⟨h0, h1, h2, h3, h4, h5, h6⟩ := h
  have ne : ∀ o : Nat, p ≠ ⟨b, o, none⟩ := fun o e => hp (by rw [e])
  exact ⟨(World.cell?_setCell_other W _ _ _ (ne 0)).trans h0, (World.cell?_setCell_other W _ _ _ (ne 1)).trans h1, (World.cell?_setCell_other W _ _ _ (ne 2)).trans h2, by simpa using h3, by simpa using h4, by simpa using h5, by simpa using h6⟩

/-- A pack in the making, in the variable's block X: the items fs. -/
structure CpP (w W : World) (X : Nat) (E O : Int) (u : Value) (fs : List El) : Prop where
  bel : Below w.heap.size w W
  hX : w.heap.size ≤ X
  row : OVt W (X + 1) u fs
  box : Box3 W X (.int .i64 E) (.int .i64 O) u
section
variable {w W W' w2 w3 : World} {X : Nat} {E O : Int} {u v' : Value} {fs : List El} {e : El} {ob : Obj}
theorem CpP.step (h : CpP w W X E O u fs) (hb : Below W.heap.size W W') : CpP w W' X E O u fs := ⟨h.bel.trans (hb.mono h.bel.size), h.hX, h.row.below hb, h.box.step hb⟩
theorem CpP.mid (h : CpP w W X E O u fs) (hb : Below W.heap.size W w2) : Below W.heap.size W (w2.alloc ob) ∧ X + 1 ≤ (w2.alloc ob).heap.size := by
  have hba : Below w2.heap.size w2 (w2.alloc ob) := (Below.refl _ _).alloc (Nat.le_refl _) _
  have hlt := h.box.lt
  have hs2 := hb.size
  exact ⟨hb.trans (hba.mono hs2), by simp; omega⟩
theorem CpP.more (h : CpP w W X E O u fs) (hb : Below W.heap.size W w2) (hov : OVt w3 (X + 1) v' (fs ++ [e])) (hg : (w2.alloc ob).grownBy w3 u.ownBlock) :
    CpP w (w3.setCell ⟨X, 2, none⟩ v') X E O v' (fs ++ [e]) ∧ Below (X + 1) W w3 := by
  obtain ⟨hb2, hx2⟩ := h.mid (ob := ob) hb
  have hx := h.hX
  have hlt := h.box.lt
  have hr2 := h.row.below hb2
  have hbw : Below (X + 1) W w3 := (hb2.mono (by omega)).grown hg hx2 (fun k hk => (hr2.blk hk).1)
  have hon : Only (fun b => b = X) w3 (w3.setCell ⟨X, 2, none⟩ v') := (Only.refl (fun b => b = X) w3).setCell (p := ⟨X, 2, none⟩) (.inl rfl) _
  exact ⟨⟨(h.bel.trans (hbw.mono (by omega))).setCell (p := ⟨X, 2, none⟩) hx _, hx, hov.stay hon (fun b hb e => by have := (hov.blk hb).1; omega), (h.box.keep hbw (by omega)).set2 _⟩, hbw⟩
theorem CpP.deep (h : CpP w W X E O u fs) (hd : Deep W (X + 1) fs) (hb : Below W.heap.size W w2) (hm : Mine w2 W.heap.size w2.heap.size e.a e.c e.ls) (hg : (w2.alloc ob).grownBy w3 u.ownBlock) :
    Deep (w3.setCell ⟨X, 2, none⟩ v') (X + 1) (fs ++ [e]) := by
  obtain ⟨hb2, hx2⟩ := h.mid (ob := ob) hb
  have hba : Below w2.heap.size w2 (w2.alloc ob) := (Below.refl _ _).alloc (Nat.le_refl _) _
  have hlt := h.box.lt
  have hd2 : Deep (w2.alloc ob) (X + 1) (fs ++ [e]) := ((hd.below hb).snoc (U := W.heap.size) hm (fun x hx k hk => hd.lt x hx k hk) (by omega)).below hba
  have hr2 := h.row.below hb2
  have hd3 : Deep w3 (X + 1) (fs ++ [e]) := hd2.stay (Only.ofGrownT hg) (fun x hx k hk e => hr2.other (hd2.mine x hx) e hk)
  have hon : Only (fun b => b = X) w3 (w3.setCell ⟨X, 2, none⟩ v') := (Only.refl (fun b => b = X) w3).setCell (p := ⟨X, 2, none⟩) (.inl rfl) _
  exact hd3.stay hon (fun x hx b hb e => by have := ((hd3.mine x hx).rowE hb).1; omega)
end
theorem rE_ctT {ss ts : List El} (h : ts.map El.ct = ss.map El.ct) (hr : ∀ e ∈ ss, rE true e) : ∀ e ∈ ts, rE true e := by
  intro e he
  obtain ⟨i, hi, rfl⟩ := memE_get he
  have hl := len_ctE h
  have h1 := ctE_get h i
  have h2 := hr _ (getD_memE (es := ss) (k := i) (by omega))
  have hn : (ts.getD i de).n = (ss.getD i de).n := congrArg Prod.fst h1
  have hls : (ts.getD i de).ls = (ss.getD i de).ls := congrArg Prod.snd h1
  exact ⟨by rw [hn]; exact h2.lo, by rw [hn]; exact h2.hi, by rw [hls]; exact h2.len, by simp⟩
end Go.Proofs.YtjeippleimlljaaGreatDoor
