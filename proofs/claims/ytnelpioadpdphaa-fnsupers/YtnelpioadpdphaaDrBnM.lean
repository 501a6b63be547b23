/-
  A drawn map that may be bent: the model's l8bent. (Typed by wip/mkbn8.py.)
-/
import Derived.Test.YtnelpioadpdphaaDrMap
import Derived.Test.YtnelpioadpdphaaMpSp
namespace Go.Proofs.Ytnelpioadpdphaa
open Go.RowKit
set_option linter.unusedVariables false
set_option linter.unusedSimpArgs false

theorem ins_new8 (W : World) (T : TypeId) (zs : List Int) (hr : ∀ z ∈ zs, -9223372036854775808 ≤ z ∧ z ≤ 9223372036854775807) : Ins (W.alloc (.cells (zs.map (Value.int .i64)).toArray T)) (some ⟨W.heap.size, 0, none⟩) zs := by
  refine ⟨hr, fun hp => ⟨W.heap.size, 0, rfl, by simp, fun i hi => ?_⟩⟩
  rw [Nat.zero_add, cell_of_row _ W.heap.size i _ T (0, 0) (heap_alloc_new W _)]
  simp [hi]
theorem ins5 (W : World) (T : TypeId) : Ins (W.alloc (.cells #[.int .i64 0, .int .i64 1, .int .i64 2, .int .i64 23, .int .i64 24] T)) (some ⟨W.heap.size, 0, none⟩) [0, 1, 2, 23, 24] := by
  have := ins_new8 W T [0, 1, 2, 23, 24] (by intro z hz; simp at hz; omega)
  simpa using this
theorem ins4 (W : World) (T : TypeId) : Ins (W.alloc (.cells #[.int .i64 0, .int .i64 15, .int .i64 16, .int .i64 (-1)] T)) (some ⟨W.heap.size, 0, none⟩) [0, 15, 16, -1] := by
  have := ins_new8 W T [0, 15, 16, -1] (by intro z hz; simp at hz; omega)
  simpa using this
theorem ins_only {S : Nat → Prop} {W W' : World} {b o : Nat} {zs : List Int} (h : Ins W (some ⟨b, o, none⟩) zs) (ho : Only S W W') (hb : ¬ S b) : Ins W' (some ⟨b, o, none⟩) zs := by
  refine ⟨h.1, fun hp => ?_⟩
  obtain ⟨b', o', e, hl, hc⟩ := h.2 hp
  obtain ⟨rfl, rfl⟩ : b = b' ∧ o = o' := by simpa using e
  exact ⟨b, o, rfl, Nat.lt_of_lt_of_le hl ho.size, fun i hi => ho.cell hl hb (hc i hi)⟩

/-- While a map is bent: v, what its box X has, owns the places ps. -/
structure DN (w0 w W : World) (B R X : Nat) (a : Option Addr) (bs : List Int) (cap : Nat) (v : Value) (ps : List (Int × Int)) : Prop where
  dr : Dr w0 W B R a bs cap
  only : Only (fun k => k = R) w W
  own : OVp W w.heap.size v ps
  apart : ∀ k, v.ownBlock = some k → k ≠ X ∧ k ≠ w.heap.size
  box : W.cell? ⟨X, 0, none⟩ = some v
  fz : W.frozen? ⟨X, 0, none⟩ = false
  res : W.cell? ⟨w.heap.size, 0, none⟩ = some (.slice none 0 0)
  rfz : W.frozen? ⟨w.heap.size, 0, none⟩ = false
  ne : w.heap.size < X ∧ X < W.heap.size ∧ R < w.heap.size ∧ B ≤ R
  len : ps.length ≤ 20
section
variable {w0 w W W' : World} {B R X : Nat} {a : Option Addr} {bs : List Int} {cap : Nat} {v : Value} {ps : List (Int × Int)}
theorem DN.rlt (h : DN w0 w W B R X a bs cap v ps) : R < W.heap.size ∧ w.heap.size ≤ W.heap.size := by have := h.ne; omega
theorem DN.still {S : Nat → Prop} (h : DN w0 w W B R X a bs cap v ps) (hd : Dr w0 W' B R a bs cap) (ho : Only S W W') (hS : ∀ k, w.heap.size ≤ k → ¬ S k) (hw : Only (fun k => k = R) w W') : DN w0 w W' B R X a bs cap v ps := by
  have hn := h.ne; have hs := ho.size
  exact ⟨hd, hw, OVp.stay h.own ho (fun k hk => hS k (h.own.blk hk).1), h.apart, ho.cell (by omega) (hS X (by omega)) h.box, (frozM ho (by omega) (hS X (by omega))).trans h.fz, ho.cell (by omega) (hS _ (Nat.le_refl _)) h.res, (frozM ho (by omega) (hS _ (Nat.le_refl _))).trans h.rfz, by omega, h.len⟩
theorem DN.cur (h : DN w0 w W B R X a bs cap v ps) (hd : Dr w0 W' B R a bs cap) (ho : Only (fun k => k = R) W W') : DN w0 w W' B R X a bs cap v ps :=
  h.still hd ho (fun k hk e => by have := h.ne; omega) (h.only.trans ho)
theorem DN.al (h : DN w0 w W B R X a bs cap v ps) (o : Obj) : DN w0 w (W.alloc o) B R X a bs cap v ps :=
  h.still (S := fun _ => False) (h.dr.other (S := fun _ => False) ((Only.refl _ W).alloc o) (by simp) (by simp)) ((Only.refl _ W).alloc o) (by simp) (h.only.alloc o)
theorem DN.drew (h : DN w0 w W B R X a bs cap v ps) : DN w0 w W.drew B R X a bs cap v ps :=
  h.still (S := fun _ => False) (h.dr.other (S := fun _ => False) (Only.drew (Only.refl _ W)) (by simp) (by simp)) (Only.drew (Only.refl _ W)) (by simp) h.only.drew
/-- Another slice in the box. -/
theorem DN.setBox {v' : Value} {ps' : List (Int × Int)} (h : DN w0 w W B R X a bs cap v ps) (ho : OVp W w.heap.size v' ps') (hap : ∀ k, v'.ownBlock = some k → k ≠ X ∧ k ≠ w.heap.size) (hl : ps'.length ≤ 20) : DN w0 w (W.setCell ⟨X, 0, none⟩ v') B R X a bs cap v' ps' := by
  have hn := h.ne
  have hon : Only (fun b => b = X) W (W.setCell ⟨X, 0, none⟩ v') := (Only.refl (fun b => b = X) W).setCell (p := ⟨X, 0, none⟩) (.inl rfl) _
  have hs := hon.size
  exact ⟨h.dr.other hon (by omega) (fun k hk => by omega), h.only.setCell (p := ⟨X, 0, none⟩) (.inr (by simp only; omega)) _, OVp.stay ho hon (fun k hk e => (hap k hk).1 e), hap, World.cell?_setCell_same _ _ _ h.box, by simp [h.fz], hon.cell (by omega) (by omega) h.res, (frozM hon (by omega) (by omega)).trans h.rfz, by omega, hl⟩
/-- The first place is written anew. -/
theorem DN.put0 {g : Nat} (h : DN w0 w W B R X a bs cap v ps) (hv : v = .slice (some ⟨g, 0, none⟩) ps.length ps.length) (hl : 0 < ps.length) (x y : Int) (hr : rP (x, y)) :
    DN w0 w ((W.setCell ⟨g, 0, none⟩ (.int .i64 x)).setCell ⟨g, 1, none⟩ (.int .i64 y)) B R X a bs cap v (ps.set 0 (x, y)) ∧ ∃ ox oy, W.cell? ⟨g, 0, none⟩ = some (.int .i64 ox) ∧ W.cell? ⟨g, 1, none⟩ = some (.int .i64 oy) ∧ W.frozen? ⟨g, 0, none⟩ = false ∧ W.frozen? ⟨g, 1, none⟩ = false := by
  subst hv
  have hn := h.ne
  have hg := h.own.blk (k := g) rfl
  have hap := h.apart g rfl
  have how : OwP W w.heap.size g ps.length ps := h.own
  have hst := how.store 0 hl (x, y) hr
  have hc := how.cell 0 hl
  have hon : Only (fun b => b = g) W ((W.setCell ⟨g, 0, none⟩ (.int .i64 x)).setCell ⟨g, 1, none⟩ (.int .i64 y)) := ((Only.refl (fun b => b = g) W).setCell (p := ⟨g, 0, none⟩) (.inl rfl) _).setCell (p := ⟨g, 1, none⟩) (.inl rfl) _
  have hs := hon.size
  have hlen : (ps.set 0 (x, y)).length = ps.length := by simp
  refine ⟨⟨h.dr.other hon (by omega) (fun k hk => by omega), (h.only.setCell (p := ⟨g, 0, none⟩) (.inr hg.1) _).setCell (p := ⟨g, 1, none⟩) (.inr hg.1) _, ?_, h.apart, hon.cell (by omega) (by omega) h.box, (frozM hon (by omega) (by omega)).trans h.fz, hon.cell (by omega) (by omega) h.res, (frozM hon (by omega) (by omega)).trans h.rfz, by omega, by rw [hlen]; exact h.len⟩, _, _, hc.1, hc.2, how.frozen 0, how.frozen 1⟩
  have h9 : OVp ((W.setCell ⟨g, 0 * 2, none⟩ (.int .i64 x)).setCell ⟨g, 0 * 2 + 1, none⟩ (.int .i64 y)) w.heap.size (.slice (some ⟨g, 0, none⟩) (ps.set 0 (x, y)).length ps.length) (ps.set 0 (x, y)) := hst
  rw [hlen] at h9
  simpa using h9
/-- One place more, at the end. -/
theorem DN.app {g : Nat} {o : Obj} {v1 : Value} {w5 : World} {q : Int × Int} (h : DN w0 w W B R X a bs cap (.slice (some ⟨g, 0, none⟩) ps.length ps.length) ps) (ho : OVp w5 w.heap.size v1 (ps ++ [q])) (hg : (W.alloc o).grownBy w5 (some g)) (hloc : v1.ownBlock = some g ∨ v1.ownBlock = some (W.heap.size + 1)) (hl : ps.length ≤ 19) :
    w5.cell? ⟨X, 0, none⟩ = some (.slice (some ⟨g, 0, none⟩) ps.length ps.length) ∧ w5.frozen? ⟨X, 0, none⟩ = false ∧ DN w0 w (w5.setCell ⟨X, 0, none⟩ v1) B R X a bs cap v1 (ps ++ [q]) := by
  have hn := h.ne
  have hgb := h.own.blk (k := g) rfl
  have hap := h.apart g rfl
  have hon : Only (fun k => k = g) W w5 := ((Only.refl (fun k => k = g) W).alloc o).grown hg (fun k hk => .inl (by simpa using hk.symm))
  have hs := hon.size
  have bx : w5.cell? ⟨X, 0, none⟩ = some (.slice (some ⟨g, 0, none⟩) ps.length ps.length) := hon.cell (by omega) (by omega) h.box
  have fx : w5.frozen? ⟨X, 0, none⟩ = false := (frozM hon (by omega) (by omega)).trans h.fz
  have hap1 : ∀ k, v1.ownBlock = some k → k ≠ X ∧ k ≠ w.heap.size := by
    intro k hk
    rcases hloc with h1 | h1
    · rw [h1] at hk
      have e : g = k := by simpa using hk
      rw [← e]; exact hap
    · rw [h1] at hk
      have e : W.heap.size + 1 = k := by simpa using hk
      omega
  have hon2 : Only (fun k => k = g ∨ k = X) W (w5.setCell ⟨X, 0, none⟩ v1) := (hon.mono (fun k _ hk => .inl hk)).setCell (p := ⟨X, 0, none⟩) (.inl (.inr rfl)) _
  have honX : Only (fun k => k = X) w5 (w5.setCell ⟨X, 0, none⟩ v1) := (Only.refl (fun k => k = X) w5).setCell (p := ⟨X, 0, none⟩) (.inl rfl) _
  refine ⟨bx, fx, ⟨h.dr.other hon2 (by omega) (fun k hk => by omega), ?_, OVp.stay ho honX (fun k hk e => (hap1 k hk).1 e), hap1, World.cell?_setCell_same _ _ _ bx, by simp [fx], hon2.cell (by omega) (by omega) h.res, (frozM hon2 (by omega) (by omega)).trans h.rfz, by have := honX.size; omega, by simp; omega⟩⟩
  exact ((h.only.alloc o).grown hg (fun k hk => .inr (by
    have e : g = k := by simpa using hk
    omega))).setCell (p := ⟨X, 0, none⟩) (.inr (by simp only; omega)) _
/-- The answer. -/
theorem DN.fin (h : DN w0 w W B R X a bs cap v ps) : ∃ va vc, v = .slice va ps.length vc ∧ MinP (W.setCell ⟨w.heap.size, 0, none⟩ v) w.heap.size (W.setCell ⟨w.heap.size, 0, none⟩ v).heap.size va vc ps ∧ Dr w0 (W.setCell ⟨w.heap.size, 0, none⟩ v) B R a bs cap ∧ Only (fun k => k = R) w (W.setCell ⟨w.heap.size, 0, none⟩ v) := by
  have hn := h.ne
  have hon : Only (fun k => k = w.heap.size) W (W.setCell ⟨w.heap.size, 0, none⟩ v) := (Only.refl (fun k => k = w.heap.size) W).setCell (p := ⟨w.heap.size, 0, none⟩) (.inl rfl) _
  have hov := OVp.stay h.own hon (fun k hk e => (h.apart k hk).2 e)
  obtain ⟨va, vc, e, hm⟩ := hov.mine
  exact ⟨va, vc, e, hm, h.dr.other hon (by omega) (fun k hk => by omega), h.only.setCell (p := ⟨w.heap.size, 0, none⟩) (.inr (Nat.le_refl _)) _⟩
end
theorem wp_append_p1L {o : Oper} {a : Act} {w : World} {K : Act → World → Prop} {Q : Exit → Act → World → Prop} (s x : Operand) (ho : o.op = .call { callee := .builtin .append, args := #[s, x], argTypes := #[23, 23] })
    (B : Nat) (v : Value) (ps : List (Int × Int)) (hs : a.eval s = v) (hown : OVp w B v ps) (X : Nat) (y z : Int) (hx : a.eval x = .slice (some ⟨X, 0, none⟩) 1 1) (hX0 : w.cell? ⟨X, 0, none⟩ = some (.int .i64 y)) (hX1 : w.cell? ⟨X, 1, none⟩ = some (.int .i64 z)) (hr : rP (y, z)) (hb1 : ps.length ≤ 1000000) (hbase : B ≤ w.heap.size)
    (h : ∀ v' w', OVp w' B v' (ps ++ [(y, z)]) → w.grownBy w' v.ownBlock → (v'.ownBlock = v.ownBlock ∨ v'.ownBlock = some w.heap.size) → K (a.put o.dst v') w') : o.wp Try.prog a w K Q := by
  obtain ⟨i0, hi, hz0', hz1', hz2⟩ := info_parts Try.infoPl
  obtain ⟨v', w', hr', h2, h3, _, h5⟩ := run_append_own_at (P := Try.prog) w B 23 o.type 49 i0 (.agg #[.int .i64 0, .int .i64 0]) 2 16 Try.underlying23 hi hz0' hz1' hz2 rfl (by decide) v ps.length _ hown.1 ⟨X, 0, none⟩ 1 1 [.int .i64 y, .int .i64 z] rfl (by
    intro j u hu
    match j with
    | 0 => simp at hu; subst hu; simpa [Addr.add] using hX0
    | 1 => simp at hu; subst hu; simpa [Addr.add] using hX1
    | j + 2 => simp at hu) (by simp [Value.oneCell']) (by unfold maxLen; omega) (by omega) hbase
  have hrun : (Builtin.append_ #[23, 23] o.type #[v, .slice (some ⟨X, 0, none⟩) 1 1]).run Try.prog w = .ok v' w' := hr'
  unfold Oper.wp execOp
  simp only [ho, resolve, invoke, builtin, Sem.run_bind, Sem.run_pure, Result.andThen_ok, List.map_toArray, List.map_cons, List.map_nil, hs, hx, hrun]
  refine h v' w' ⟨?_, fun q hq => ?_⟩ h3 h5
  · rw [List.length_append, List.flatMap_append]
    exact h2
  · rcases List.mem_append.1 hq with hq | hq
    · exact hown.2 q hq
    · simp at hq
      rw [hq]
      exact hr

set_option maxRecDepth 20000 in
set_option maxHeartbeats 16000000 in
theorem Dr.bentM {w0 w : World} {B R : Nat} {a : Option Addr} {bs : List Int} {cap : Nat} (h : Dr w0 w B R a bs cap) :
    Calls Try.prog 15 #[.pointer (some ⟨R, 0, none⟩)] w fun e w' => ∃ (va : Option Addr) (vc : Nat) (ps : List (Int × Int)), e = .returned (.agg #[.slice va ps.length vc]) ∧ ps.length ≤ 20 ∧ MinP w' w.heap.size w'.heap.size va vc ps ∧ Dr w0 w' B R a bs cap ∧ Only (fun k => k = R) w w' := by
  obtain ⟨i0, hi, hz0, hz1, hz2⟩ := info_parts Try.infoPl
  have hRB := h.cur.lt
  have e1 : (w.alloc (Obj.cells #[.slice none 0 0] 25)).heap.size = w.heap.size + 1 := by simp
  have HR0 : Hid (Dr w0 (w.alloc (Obj.cells #[.slice none 0 0] 25)) B R a bs cap ∧ Only (fun k => k = R) w (w.alloc (Obj.cells #[.slice none 0 0] 25)) ∧ (w.alloc (Obj.cells #[.slice none 0 0] 25)).cell? ⟨w.heap.size, 0, none⟩ = some (.slice none 0 0) ∧ (w.alloc (Obj.cells #[.slice none 0 0] 25)).frozen? ⟨w.heap.size, 0, none⟩ = false ∧ (w.alloc (Obj.cells #[.slice none 0 0] 25)).heap.size = w.heap.size + 1) :=
    ⟨h.other (S := fun _ => False) ((Only.refl _ w).alloc _) (by simp) (by simp), (Only.refl _ w).alloc _, by simp, by simp, e1⟩
  clear h e1
  go_enter Try.func15, Try.ntmps15
  go_wp2_with fail
  generalize w.alloc (Obj.cells #[.slice none 0 0] 25) = W0 at *
  refine HR0.out.1.map.mono ?_
  rintro e w1 ⟨g, ps, rfl, hp1, hp9, hbp, how, hd, ho⟩
  have HN2 : Hid (DN w0 w (w1.alloc (Obj.cells #[.slice (some ⟨g, 0, none⟩) ps.length ps.length] 25)) B R w1.heap.size a bs cap (.slice (some ⟨g, 0, none⟩) ps.length ps.length) ps) := by
    have h5 := HR0.out.2.2.2.2
    have hgl := how.lt
    have hs := ho.size
    have hoa : Only (fun _ => False) w1 (w1.alloc (Obj.cells #[.slice (some ⟨g, 0, none⟩) ps.length ps.length] 25)) := (Only.refl _ w1).alloc _
    have r1 : w1.cell? ⟨w.heap.size, 0, none⟩ = some (.slice none 0 0) := ho.cell (by omega) (by omega) HR0.out.2.2.1
    have r2 : w1.frozen? ⟨w.heap.size, 0, none⟩ = false := (frozM ho (by omega) (by omega)).trans HR0.out.2.2.2.1
    refine ⟨hd.other hoa (by simp) (by simp), (HR0.out.2.1.trans ho).alloc _, (OVp.stay how hoa (by simp)).weak (by omega), fun k hk => ?_, by simp, by simp, hoa.cell (by omega) (by simp) r1, (frozM hoa (by omega) (by simp)).trans r2, by simp; omega, by omega⟩
    have e : g = k := by simpa [Value.ownBlock] using hk
    omega
  have hl0 : 0 < ps.length := by omega
  clear how hd ho HR0 hbp
  go_wp2_with fail
  generalize w1.alloc (Obj.cells #[.slice (some ⟨g, 0, none⟩) ps.length ps.length] 25) = w2 at *
  generalize w1.heap.size = X at *
  refine (HN2.out.dr.once 8 (by omega) (by omega)).mono ?_
  rintro e wb ⟨⟨bb, rfl⟩, hdb, hob⟩
  have HNB : Hid (DN w0 w wb B R X a bs cap (.slice (some ⟨g, 0, none⟩) ps.length ps.length) ps) := HN2.out.cur hdb hob
  clear hdb hob HN2
  cases bb with
  | false =>
    obtain ⟨va, vc, ev, hmf, hdf, hof⟩ := HNB.out.fin
    have HF : Hid _ := And.intro hmf (And.intro hdf hof)
    have b0 := HNB.out.box
    have r0 := HNB.out.res
    have rz := HNB.out.rfz
    have hXn : ¬ X = w.heap.size := by have := HNB.out.ne; omega
    obtain ⟨rfl, -, rfl⟩ : some ⟨g, 0, none⟩ = va ∧ ps.length = ps.length ∧ ps.length = vc := by simpa using ev
    clear hmf hdf hof ev HNB
    go_wp2
    exact bodyPost_ret (v := .agg #[.slice (some ⟨g, 0, none⟩) ps.length ps.length]) (by simp [results, Try.results15, go_sem, r0]) rfl ⟨_, _, ps, rfl, by omega, HF.out.1, HF.out.2.1, HF.out.2.2⟩
  | true =>
    go_wp2_with fail
    refine (HNB.out.dr.below 4 (by omega) (by omega)).mono ?_
    rintro e w3 ⟨⟨kk, hk1, hk2, rfl⟩, hd3, ho3⟩
    have HM3 : Hid (DN w0 w w3 B R X a bs cap (.slice (some ⟨g, 0, none⟩) ps.length ps.length) ps) := HNB.out.cur hd3 ho3
    clear hd3 ho3 HNB
    have hXn : ¬ X = w.heap.size := by have := HM3.out.ne; omega
    have key : kk = 0 ∨ kk = 1 ∨ kk = 2 ∨ kk = 3 := by omega
    clear hk1 hk2
    rcases key with rfl | rfl | rfl | rfl
    · have HMD : Hid (DN w0 w w3.drew B R X a bs cap (.slice (some ⟨g, 0, none⟩) ps.length ps.length) ps) := HM3.out.drew
      have r00 := HM3.out.res
      have hgX : ¬ g = X ∧ ¬ g = w.heap.size := HM3.out.apart g rfl
      have hR3 : R < w3.heap.size := HM3.out.rlt.1
      obtain ⟨hg1, hg2⟩ := hgX
      clear HM3
      go_wp2
      refine wp_region_cut (S := fun W => W.cell? ⟨X, 0, none⟩ = some (.slice (some ⟨g, 0, none⟩) ps.length ps.length)) 10 (by kernel_rfl) (by kernel_rfl) (by exact HMD.out.box) (fun hHeld => ?_)
      refine wpAnyH_take (i := 0) (v := ?_) rfl (by kernel_rfl) (by kernel_rfl) (by kernel_rfl) (fun _ _ _ h => h) (Or.inl ⟨by rfl, ?_⟩) (by assumption) ?_
      rotate_left 1
      · (intro w hSw; (try dsimp only at hSw); go_simp; try (with_reducible rfl))
      try simp only [List.getElem_toArray, List.getElem_cons_zero, List.getElem_cons_succ, Act.put, List.setIfInBounds_toArray, List.set_cons_zero, List.set_cons_succ]
      refine wpAnyH_take (i := 1) (v := ?_) rfl (by kernel_rfl) (by kernel_rfl) (by kernel_rfl) (fun _ _ _ h => h) (Or.inl ⟨by rfl, ?_⟩) (by assumption) ?_
      rotate_left 1
      · (intro w hSw; (try dsimp only at hSw); go_simp; try (with_reducible rfl))
      try simp only [List.getElem_toArray, List.getElem_cons_zero, List.getElem_cons_succ, Act.put, List.setIfInBounds_toArray, List.set_cons_zero, List.set_cons_succ]
      refine wpAnyH_take (i := 2) (v := ?_) rfl (by kernel_rfl) (by kernel_rfl) (by kernel_rfl) (fun _ _ _ h => h) (Or.inl ⟨by rfl, ?_⟩) (by assumption) ?_
      rotate_left 1
      · (intro w hSw; (try dsimp only at hSw); go_simp; try (with_reducible rfl))
      try simp only [List.getElem_toArray, List.getElem_cons_zero, List.getElem_cons_succ, Act.put, List.setIfInBounds_toArray, List.set_cons_zero, List.set_cons_succ]
      refine wpAnyH_take (i := 5) (v := ?_) rfl (by kernel_rfl) (by kernel_rfl) (by kernel_rfl) (fun _ _ _ h => h) (Or.inl ⟨by rfl, ?_⟩) (by assumption) ?_
      rotate_left 1
      · (intro w hSw; (try dsimp only at hSw); go_simp; try (with_reducible rfl))
      try simp only [List.getElem_toArray, List.getElem_cons_zero, List.getElem_cons_succ, Act.put, List.setIfInBounds_toArray, List.set_cons_zero, List.set_cons_succ]
      refine wpAnyH_ready (rs := [3, 6]) (by kernel_rfl) (by simp) ?_
      refine AllReadyH.cons rfl (fun K hK => ?_) (AllReadyH.cons rfl (fun K hK => ?_) AllReadyH.nil)
      · skip
        go_simp
        have HMA : Hid (DN w0 w (w3.drew.alloc (Obj.cells #[.int .i64 0, .int .i64 1, .int .i64 2, .int .i64 23, .int .i64 24] 3)) B R X a bs cap (.slice (some ⟨g, 0, none⟩) ps.length ps.length) ps) := HMD.out.al _
        refine hK.out _ _ (by exact HMA.out.box) (fun hHeld => ?_)
        clear hK K
        try simp only [List.getElem_toArray, List.getElem_cons_zero, List.getElem_cons_succ, Act.put, List.setIfInBounds_toArray, List.set_cons_zero, List.set_cons_succ]
        have HMa : Hid _ := HMA.out
        clear HMA
        refine wpAnyH_ready (rs := [4, 6]) (by kernel_rfl) (by simp) ?_
        refine AllReadyH.cons rfl (fun K hK => ?_) (AllReadyH.cons rfl (fun K hK => ?_) AllReadyH.nil)
        · skip
          go_simp
          refine (HMa.out.dr.pick w3.heap.size 5 [0, 1, 2, 23, 24] (by exact ins5 _ _) (by omega) (by simp) (by simp)).mono ?_
          rintro e wc ⟨⟨x, xm, rfl⟩, hdc, hoc⟩
          have HMwc : Hid (DN w0 w wc B R X a bs cap (.slice (some ⟨g, 0, none⟩) ps.length ps.length) ps) := HMa.out.cur hdc hoc
          clear hdc hoc
          dsimp only
          refine hK.out _ _ (by exact HMwc.out.box) (fun hHeld => ?_)
          clear hK K
          try simp only [List.getElem_toArray, List.getElem_cons_zero, List.getElem_cons_succ, Act.put, List.setIfInBounds_toArray, List.set_cons_zero, List.set_cons_succ]
          refine wpAnyH_ready (rs := [6]) (by kernel_rfl) (by simp) ?_
          refine AllReadyH.cons rfl (fun K hK => ?_) AllReadyH.nil
          go_simp
          have HMA : Hid (DN w0 w (wc.alloc (Obj.cells #[.int .i64 0, .int .i64 15, .int .i64 16, .int .i64 (-1)] 3)) B R X a bs cap (.slice (some ⟨g, 0, none⟩) ps.length ps.length) ps) := HMwc.out.al _
          refine hK.out _ _ (by exact HMA.out.box) (fun hHeld => ?_)
          clear hK K
          try simp only [List.getElem_toArray, List.getElem_cons_zero, List.getElem_cons_succ, Act.put, List.setIfInBounds_toArray, List.set_cons_zero, List.set_cons_succ]
          have HMb : Hid _ := HMA.out
          clear HMA
          refine wpAnyH_ready (rs := [7]) (by kernel_rfl) (by simp) ?_
          refine AllReadyH.cons rfl (fun K hK => ?_) AllReadyH.nil
          go_simp
          refine (HMb.out.dr.pick wc.heap.size 4 [0, 15, 16, -1] (by exact ins4 _ _) (by have := HMwc.out.rlt; omega) (by simp) (by simp)).mono ?_
          rintro e wd ⟨⟨y, ym, rfl⟩, hdc, hoc⟩
          have HMwd : Hid (DN w0 w wd B R X a bs cap (.slice (some ⟨g, 0, none⟩) ps.length ps.length) ps) := HMb.out.cur hdc hoc
          clear hdc hoc
          dsimp only
          refine hK.out _ _ (by exact HMwd.out.box) (fun hHeld => ?_)
          clear hK K
          try simp only [List.getElem_toArray, List.getElem_cons_zero, List.getElem_cons_succ, Act.put, List.setIfInBounds_toArray, List.set_cons_zero, List.set_cons_succ]
          refine wpAnyH_take (i := 8) (v := ?_) rfl (by kernel_rfl) (by kernel_rfl) (by kernel_rfl) (fun _ _ _ h => h) (Or.inl ⟨by rfl, ?_⟩) (by assumption) ?_
          rotate_left 1
          · (intro w hSw; (try dsimp only at hSw); go_simp; try (with_reducible rfl))
          try simp only [List.getElem_toArray, List.getElem_cons_zero, List.getElem_cons_succ, Act.put, List.setIfInBounds_toArray, List.set_cons_zero, List.set_cons_succ]
          refine wpAnyH_take (i := 9) (v := ?_) rfl (by kernel_rfl) (by kernel_rfl) (by kernel_rfl) (fun _ _ _ h => h) (Or.inl ⟨by rfl, ?_⟩) (by assumption) ?_
          rotate_left 1
          · (intro w hSw; (try dsimp only at hSw); go_simp; try (with_reducible rfl))
          try simp only [List.getElem_toArray, List.getElem_cons_zero, List.getElem_cons_succ, Act.put, List.setIfInBounds_toArray, List.set_cons_zero, List.set_cons_succ]
          refine wpAnyH_done (by kernel_rfl) ?_ _
          simp only [cutQ, List.drop_succ_cons, List.drop_zero]
          have hxr : rP (x, y) := ⟨by simp at xm; simp only; omega, by simp at ym; simp only; omega⟩
          obtain ⟨HST, ox, oy, q0, q1, z0, z1⟩ := HMwd.out.put0 rfl hl0 x y hxr
          have HST' : Hid _ := HST
          have b6 := HST.box
          have r6 := HST.res
          have rz6 := HST.rfz
          clear HST xm ym
          go_wp2
          obtain ⟨va, vc, ev, hmf, hdf, hof⟩ := HST'.out.fin
          obtain ⟨rfl, -, rfl⟩ : some ⟨g, 0, none⟩ = va ∧ ps.length = ps.length ∧ ps.length = vc := by simpa using ev
          have HF : Hid _ := And.intro hmf (And.intro hdf hof)
          exact bodyPost_ret (v := .agg #[.slice (some ⟨g, 0, none⟩) ps.length ps.length]) (by simp [results, Try.results15, go_sem, r6]) rfl ⟨_, _, ps.set 0 (x, y), by simp, by simp; omega, HF.out.1, HF.out.2.1, HF.out.2.2⟩
        · skip
          go_simp
          have HMA : Hid (DN w0 w ((w3.drew.alloc (Obj.cells #[.int .i64 0, .int .i64 1, .int .i64 2, .int .i64 23, .int .i64 24] 3)).alloc (Obj.cells #[.int .i64 0, .int .i64 15, .int .i64 16, .int .i64 (-1)] 3)) B R X a bs cap (.slice (some ⟨g, 0, none⟩) ps.length ps.length) ps) := HMa.out.al _
          refine hK.out _ _ (by exact HMA.out.box) (fun hHeld => ?_)
          clear hK K
          try simp only [List.getElem_toArray, List.getElem_cons_zero, List.getElem_cons_succ, Act.put, List.setIfInBounds_toArray, List.set_cons_zero, List.set_cons_succ]
          have HMb : Hid _ := HMA.out
          clear HMA
          refine wpAnyH_ready (rs := [4]) (by kernel_rfl) (by simp) ?_
          refine AllReadyH.cons rfl (fun K hK => ?_) AllReadyH.nil
          go_simp
          refine (HMb.out.dr.pick w3.heap.size 5 [0, 1, 2, 23, 24] (by exact (ins5 _ _).alloc _) (by omega) (by simp) (by simp)).mono ?_
          rintro e wc ⟨⟨x, xm, rfl⟩, hdc, hoc⟩
          have hinB : Ins wc (some ⟨w3.heap.size + 1, 0, none⟩) [0, 15, 16, -1] := by
            have h9 := ins4 (w3.drew.alloc (Obj.cells #[.int .i64 0, .int .i64 1, .int .i64 2, .int .i64 23, .int .i64 24] 3)) 3
            have h8 := ins_only h9 hoc (by first | omega | (simp; omega))
            simpa using h8
          have HMwc : Hid (DN w0 w wc B R X a bs cap (.slice (some ⟨g, 0, none⟩) ps.length ps.length) ps) := HMb.out.cur hdc hoc
          clear hdc hoc
          dsimp only
          refine hK.out _ _ (by exact HMwc.out.box) (fun hHeld => ?_)
          clear hK K
          try simp only [List.getElem_toArray, List.getElem_cons_zero, List.getElem_cons_succ, Act.put, List.setIfInBounds_toArray, List.set_cons_zero, List.set_cons_succ]
          refine wpAnyH_ready (rs := [7]) (by kernel_rfl) (by simp) ?_
          refine AllReadyH.cons rfl (fun K hK => ?_) AllReadyH.nil
          go_simp
          refine (HMwc.out.dr.pick (w3.heap.size + 1) 4 [0, 15, 16, -1] hinB (by omega) (by simp) (by simp)).mono ?_
          rintro e wd ⟨⟨y, ym, rfl⟩, hdc, hoc⟩
          have HMwd : Hid (DN w0 w wd B R X a bs cap (.slice (some ⟨g, 0, none⟩) ps.length ps.length) ps) := HMwc.out.cur hdc hoc
          clear hdc hoc
          dsimp only
          refine hK.out _ _ (by exact HMwd.out.box) (fun hHeld => ?_)
          clear hK K
          try simp only [List.getElem_toArray, List.getElem_cons_zero, List.getElem_cons_succ, Act.put, List.setIfInBounds_toArray, List.set_cons_zero, List.set_cons_succ]
          refine wpAnyH_take (i := 8) (v := ?_) rfl (by kernel_rfl) (by kernel_rfl) (by kernel_rfl) (fun _ _ _ h => h) (Or.inl ⟨by rfl, ?_⟩) (by assumption) ?_
          rotate_left 1
          · (intro w hSw; (try dsimp only at hSw); go_simp; try (with_reducible rfl))
          try simp only [List.getElem_toArray, List.getElem_cons_zero, List.getElem_cons_succ, Act.put, List.setIfInBounds_toArray, List.set_cons_zero, List.set_cons_succ]
          refine wpAnyH_take (i := 9) (v := ?_) rfl (by kernel_rfl) (by kernel_rfl) (by kernel_rfl) (fun _ _ _ h => h) (Or.inl ⟨by rfl, ?_⟩) (by assumption) ?_
          rotate_left 1
          · (intro w hSw; (try dsimp only at hSw); go_simp; try (with_reducible rfl))
          try simp only [List.getElem_toArray, List.getElem_cons_zero, List.getElem_cons_succ, Act.put, List.setIfInBounds_toArray, List.set_cons_zero, List.set_cons_succ]
          refine wpAnyH_done (by kernel_rfl) ?_ _
          simp only [cutQ, List.drop_succ_cons, List.drop_zero]
          have hxr : rP (x, y) := ⟨by simp at xm; simp only; omega, by simp at ym; simp only; omega⟩
          obtain ⟨HST, ox, oy, q0, q1, z0, z1⟩ := HMwd.out.put0 rfl hl0 x y hxr
          have HST' : Hid _ := HST
          have b6 := HST.box
          have r6 := HST.res
          have rz6 := HST.rfz
          clear HST xm ym
          go_wp2
          obtain ⟨va, vc, ev, hmf, hdf, hof⟩ := HST'.out.fin
          obtain ⟨rfl, -, rfl⟩ : some ⟨g, 0, none⟩ = va ∧ ps.length = ps.length ∧ ps.length = vc := by simpa using ev
          have HF : Hid _ := And.intro hmf (And.intro hdf hof)
          exact bodyPost_ret (v := .agg #[.slice (some ⟨g, 0, none⟩) ps.length ps.length]) (by simp [results, Try.results15, go_sem, r6]) rfl ⟨_, _, ps.set 0 (x, y), by simp, by simp; omega, HF.out.1, HF.out.2.1, HF.out.2.2⟩
      · skip
        go_simp
        have HMA : Hid (DN w0 w (w3.drew.alloc (Obj.cells #[.int .i64 0, .int .i64 15, .int .i64 16, .int .i64 (-1)] 3)) B R X a bs cap (.slice (some ⟨g, 0, none⟩) ps.length ps.length) ps) := HMD.out.al _
        refine hK.out _ _ (by exact HMA.out.box) (fun hHeld => ?_)
        clear hK K
        try simp only [List.getElem_toArray, List.getElem_cons_zero, List.getElem_cons_succ, Act.put, List.setIfInBounds_toArray, List.set_cons_zero, List.set_cons_succ]
        have HMa : Hid _ := HMA.out
        clear HMA
        refine wpAnyH_ready (rs := [3]) (by kernel_rfl) (by simp) ?_
        refine AllReadyH.cons rfl (fun K hK => ?_) AllReadyH.nil
        go_simp
        have HMA : Hid (DN w0 w ((w3.drew.alloc (Obj.cells #[.int .i64 0, .int .i64 15, .int .i64 16, .int .i64 (-1)] 3)).alloc (Obj.cells #[.int .i64 0, .int .i64 1, .int .i64 2, .int .i64 23, .int .i64 24] 3)) B R X a bs cap (.slice (some ⟨g, 0, none⟩) ps.length ps.length) ps) := HMa.out.al _
        refine hK.out _ _ (by exact HMA.out.box) (fun hHeld => ?_)
        clear hK K
        try simp only [List.getElem_toArray, List.getElem_cons_zero, List.getElem_cons_succ, Act.put, List.setIfInBounds_toArray, List.set_cons_zero, List.set_cons_succ]
        have HMb : Hid _ := HMA.out
        clear HMA
        refine wpAnyH_ready (rs := [4]) (by kernel_rfl) (by simp) ?_
        refine AllReadyH.cons rfl (fun K hK => ?_) AllReadyH.nil
        go_simp
        refine (HMb.out.dr.pick (w3.heap.size + 1) 5 [0, 1, 2, 23, 24] (by have h9 := ins5 (w3.drew.alloc (Obj.cells #[.int .i64 0, .int .i64 15, .int .i64 16, .int .i64 (-1)] 3)) 3; simpa using h9) (by omega) (by simp) (by simp)).mono ?_
        rintro e wc ⟨⟨x, xm, rfl⟩, hdc, hoc⟩
        have hinB : Ins wc (some ⟨w3.heap.size, 0, none⟩) [0, 15, 16, -1] := by
          have h9 := (ins4 w3.drew 3).alloc (Obj.cells #[.int .i64 0, .int .i64 1, .int .i64 2, .int .i64 23, .int .i64 24] 3)
          exact ins_only h9 hoc (by first | omega | (simp; omega))
        have HMwc : Hid (DN w0 w wc B R X a bs cap (.slice (some ⟨g, 0, none⟩) ps.length ps.length) ps) := HMb.out.cur hdc hoc
        clear hdc hoc
        dsimp only
        refine hK.out _ _ (by exact HMwc.out.box) (fun hHeld => ?_)
        clear hK K
        try simp only [List.getElem_toArray, List.getElem_cons_zero, List.getElem_cons_succ, Act.put, List.setIfInBounds_toArray, List.set_cons_zero, List.set_cons_succ]
        refine wpAnyH_ready (rs := [7]) (by kernel_rfl) (by simp) ?_
        refine AllReadyH.cons rfl (fun K hK => ?_) AllReadyH.nil
        go_simp
        refine (HMwc.out.dr.pick w3.heap.size 4 [0, 15, 16, -1] hinB (by omega) (by simp) (by simp)).mono ?_
        rintro e wd ⟨⟨y, ym, rfl⟩, hdc, hoc⟩
        have HMwd : Hid (DN w0 w wd B R X a bs cap (.slice (some ⟨g, 0, none⟩) ps.length ps.length) ps) := HMwc.out.cur hdc hoc
        clear hdc hoc
        dsimp only
        refine hK.out _ _ (by exact HMwd.out.box) (fun hHeld => ?_)
        clear hK K
        try simp only [List.getElem_toArray, List.getElem_cons_zero, List.getElem_cons_succ, Act.put, List.setIfInBounds_toArray, List.set_cons_zero, List.set_cons_succ]
        refine wpAnyH_take (i := 8) (v := ?_) rfl (by kernel_rfl) (by kernel_rfl) (by kernel_rfl) (fun _ _ _ h => h) (Or.inl ⟨by rfl, ?_⟩) (by assumption) ?_
        rotate_left 1
        · (intro w hSw; (try dsimp only at hSw); go_simp; try (with_reducible rfl))
        try simp only [List.getElem_toArray, List.getElem_cons_zero, List.getElem_cons_succ, Act.put, List.setIfInBounds_toArray, List.set_cons_zero, List.set_cons_succ]
        refine wpAnyH_take (i := 9) (v := ?_) rfl (by kernel_rfl) (by kernel_rfl) (by kernel_rfl) (fun _ _ _ h => h) (Or.inl ⟨by rfl, ?_⟩) (by assumption) ?_
        rotate_left 1
        · (intro w hSw; (try dsimp only at hSw); go_simp; try (with_reducible rfl))
        try simp only [List.getElem_toArray, List.getElem_cons_zero, List.getElem_cons_succ, Act.put, List.setIfInBounds_toArray, List.set_cons_zero, List.set_cons_succ]
        refine wpAnyH_done (by kernel_rfl) ?_ _
        simp only [cutQ, List.drop_succ_cons, List.drop_zero]
        have hxr : rP (x, y) := ⟨by simp at xm; simp only; omega, by simp at ym; simp only; omega⟩
        obtain ⟨HST, ox, oy, q0, q1, z0, z1⟩ := HMwd.out.put0 rfl hl0 x y hxr
        have HST' : Hid _ := HST
        have b6 := HST.box
        have r6 := HST.res
        have rz6 := HST.rfz
        clear HST xm ym
        go_wp2
        obtain ⟨va, vc, ev, hmf, hdf, hof⟩ := HST'.out.fin
        obtain ⟨rfl, -, rfl⟩ : some ⟨g, 0, none⟩ = va ∧ ps.length = ps.length ∧ ps.length = vc := by simpa using ev
        have HF : Hid _ := And.intro hmf (And.intro hdf hof)
        exact bodyPost_ret (v := .agg #[.slice (some ⟨g, 0, none⟩) ps.length ps.length]) (by simp [results, Try.results15, go_sem, r6]) rfl ⟨_, _, ps.set 0 (x, y), by simp, by simp; omega, HF.out.1, HF.out.2.1, HF.out.2.2⟩
    · have HST' : Hid _ := HM3.out.setBox (v' := .slice none 0 0) (ps' := []) (OVp.nil _ _) (by simp [Value.ownBlock]) (by simp)
      obtain ⟨va, vc, ev, hmf, hdf, hof⟩ := HST'.out.fin
      have HF : Hid _ := And.intro hmf (And.intro hdf hof)
      have b3 := HM3.out.box
      have f3 := HM3.out.fz
      have b0 := HST'.out.box
      have r0 := HST'.out.res
      have rz := HST'.out.rfz
      have r00 := HM3.out.res
      have rz0 := HM3.out.rfz
      obtain ⟨rfl, rfl⟩ : none = va ∧ 0 = vc := by simpa using ev
      clear hmf hdf hof ev HM3 HST'
      go_wp2
      exact bodyPost_ret (v := .agg #[.slice none 0 0]) (by simp [results, Try.results15, go_sem, r00, r0]) rfl ⟨_, _, [], rfl, by simp, HF.out.1, HF.out.2.1, HF.out.2.2⟩
    · have HMD : Hid (DN w0 w w3.drew B R X a bs cap (.slice (some ⟨g, 0, none⟩) ps.length ps.length) ps) := HM3.out.drew
      have bx := HM3.out.box
      have how : OwP w3 w.heap.size g ps.length ps := HM3.out.own
      obtain ⟨q0, q1⟩ := how.cell 0 hl0
      simp only [Nat.zero_mul, Nat.zero_add] at q0 q1
      have HXY : Hid (rP (ps.getD 0 dp)) := how.2 _ (getD_memP hl0)
      have hXl : X < w3.heap.size := HM3.out.ne.2.1
      generalize ps.getD 0 dp = q at *
      obtain ⟨x, y⟩ := q
      simp only at q0 q1
      clear how HM3
      go_wp2
      refine wp_region_cut (S := fun W => W.cell? ⟨X, 0, none⟩ = some (.slice (some ⟨g, 0, none⟩) ps.length ps.length)) 9 (by kernel_rfl) (by kernel_rfl) (by exact bx) (fun hHeld => ?_)
      refine wpAnyH_take (i := 0) (v := ?_) rfl (by kernel_rfl) (by kernel_rfl) (by kernel_rfl) (fun _ _ _ h => h) (Or.inl ⟨by rfl, ?_⟩) (by assumption) ?_
      rotate_left 1
      · (intro w hSw; (try dsimp only at hSw); go_simp; try (with_reducible rfl))
      try simp only [List.getElem_toArray, List.getElem_cons_zero, List.getElem_cons_succ, Act.put, List.setIfInBounds_toArray, List.set_cons_zero, List.set_cons_succ]
      refine wpAnyH_take (i := 1) (v := ?_) rfl (by kernel_rfl) (by kernel_rfl) (by kernel_rfl) (fun _ _ _ h => h) (Or.inl ⟨by rfl, ?_⟩) (by assumption) ?_
      rotate_left 1
      · (intro w hSw; (try dsimp only at hSw); go_simp; try (with_reducible rfl))
      try simp only [List.getElem_toArray, List.getElem_cons_zero, List.getElem_cons_succ, Act.put, List.setIfInBounds_toArray, List.set_cons_zero, List.set_cons_succ]
      refine wpAnyH_take (i := 2) (v := ?_) rfl (by kernel_rfl) (by kernel_rfl) (by kernel_rfl) (fun _ _ _ h => h) (Or.inl ⟨by rfl, ?_⟩) (by assumption) ?_
      rotate_left 1
      · (intro w hSw; (try dsimp only at hSw); go_simp; try (with_reducible rfl))
      try simp only [List.getElem_toArray, List.getElem_cons_zero, List.getElem_cons_succ, Act.put, List.setIfInBounds_toArray, List.set_cons_zero, List.set_cons_succ]
      refine wpAnyH_take (i := 3) (v := ?_) rfl (by kernel_rfl) (by kernel_rfl) (by kernel_rfl) (fun _ _ _ h => h) (Or.inl ⟨by rfl, ?_⟩) (by assumption) ?_
      rotate_left 1
      · (intro w hSw; (try dsimp only at hSw); go_simp; try (with_reducible rfl))
      try simp only [List.getElem_toArray, List.getElem_cons_zero, List.getElem_cons_succ, Act.put, List.setIfInBounds_toArray, List.set_cons_zero, List.set_cons_succ]
      refine wpAnyH_take (i := 4) (v := ?_) rfl (by kernel_rfl) (by kernel_rfl) (by kernel_rfl) (fun _ _ _ h => h) (Or.inl ⟨by rfl, ?_⟩) (by assumption) ?_
      rotate_left 1
      · (intro w hSw; (try dsimp only at hSw); go_simp; try (with_reducible rfl))
      try simp only [List.getElem_toArray, List.getElem_cons_zero, List.getElem_cons_succ, Act.put, List.setIfInBounds_toArray, List.set_cons_zero, List.set_cons_succ]
      refine wpAnyH_ready (rs := [5]) (by kernel_rfl) (by simp) ?_
      refine AllReadyH.cons rfl (fun K hK => ?_) AllReadyH.nil
      go_simp
      refine hK.out _ _ (by exact bx) (fun hHeld => ?_)
      clear hK K
      try simp only [List.getElem_toArray, List.getElem_cons_zero, List.getElem_cons_succ, Act.put, List.setIfInBounds_toArray, List.set_cons_zero, List.set_cons_succ]
      refine wpAnyH_ready (rs := [6]) (by kernel_rfl) (by simp) ?_
      refine AllReadyH.cons rfl (fun K hK => ?_) AllReadyH.nil
      go_simp
      refine hK.out _ _ (by exact keepA _ (by exact hXl) bx) (fun hHeld => ?_)
      clear hK K
      try simp only [List.getElem_toArray, List.getElem_cons_zero, List.getElem_cons_succ, Act.put, List.setIfInBounds_toArray, List.set_cons_zero, List.set_cons_succ]
      refine wpAnyH_ready (rs := [7]) (by kernel_rfl) (by simp) ?_
      refine AllReadyH.cons rfl (fun K hK => ?_) AllReadyH.nil
      refine wanted_step rfl (wp_append_p1L (.tmp 33) (.tmp 38) rfl w.heap.size (.slice (some ⟨g, 0, none⟩) ps.length ps.length) ps (by simp [Act.eval]) (by exact OVp.stay HMD.out.own ((Only.refl (fun _ => False) _).alloc _) (by simp)) w3.heap.size x y (by simp [Act.eval]) (by simp) (by simp) HXY.out (by omega) (by have h8 := HMD.out.rlt.2; have h9 : w3.drew.heap.size = w3.heap.size := rfl; simp; omega) ?_)
      intro v1 w5 hov1 hg1 hloc1
      have hm5 := HMD.out.app (o := Obj.cells #[.int .i64 x, .int .i64 y] 49) hov1 (by exact hg1) (hloc1.imp (fun h => h) (fun h => by rw [h]; simp)) (by omega)
      obtain ⟨b5, f5, hn5⟩ := hm5
      obtain ⟨va1, vc1, hv1⟩ := hov1.form
      have hln : (ps ++ [(x, y)]).length = ps.length + 1 := by simp
      rw [hln] at hv1
      clear hln
      subst hv1
      have HN5 : Hid _ := hn5
      clear hov1 hg1 hn5 hloc1
      refine hK.out _ _ (by exact b5) (fun hHeld => ?_)
      clear hK K
      try simp only [List.getElem_toArray, List.getElem_cons_zero, List.getElem_cons_succ, Act.put, List.setIfInBounds_toArray, List.set_cons_zero, List.set_cons_succ]
      refine wpAnyH_take (i := 8) (v := ?_) rfl (by kernel_rfl) (by kernel_rfl) (by kernel_rfl) (fun _ _ _ h => h) (Or.inl ⟨by rfl, ?_⟩) (by assumption) ?_
      rotate_left 1
      · (intro w hSw; (try dsimp only at hSw); go_simp; try (with_reducible rfl))
      try simp only [List.getElem_toArray, List.getElem_cons_zero, List.getElem_cons_succ, Act.put, List.setIfInBounds_toArray, List.set_cons_zero, List.set_cons_succ]
      refine wpAnyH_done (by kernel_rfl) ?_ _
      simp only [cutQ, List.drop_succ_cons, List.drop_zero]
      obtain ⟨va, vc, ev, hmf, hdf, hof⟩ := HN5.out.fin
      obtain ⟨rfl, rfl⟩ : va1 = va ∧ vc1 = vc := by simpa using ev
      have HF : Hid _ := And.intro hmf (And.intro hdf hof)
      have b6 := HN5.out.box
      have r6 := HN5.out.res
      have rz6 := HN5.out.rfz
      clear hmf hdf hof ev HMD hHeld
      go_wp2
      exact bodyPost_ret (v := .agg #[.slice va1 (ps.length + 1) vc1]) (by simp [results, Try.results15, go_sem, r6]) rfl ⟨va1, vc1, ps ++ [(x, y)], by simp, by simp; omega, HF.out.1, HF.out.2.1, HF.out.2.2⟩
    · go_wp2_with fail
      refine (HM3.out.dr.below 2 (by omega) (by omega)).mono ?_
      rintro e w4 ⟨⟨z, hz1', hz2', rfl⟩, hd4, ho4⟩
      have HM4 : Hid (DN w0 w w4 B R X a bs cap (.slice (some ⟨g, 0, none⟩) ps.length ps.length) ps) := HM3.out.cur hd4 ho4
      obtain ⟨z, rfl⟩ := Int.eq_ofNat_of_zero_le hz1'
      clear hd4 ho4 HM3 hz1'
      have e1 : (16 : Int) + (z : Nat) = ((16 + z : Nat) : Int) := by simp
      have hn1 : 16 + z ≤ 17 := by omega
      clear hz2'
      generalize 16 + z = m at *
      have hs4 : w.heap.size ≤ w4.heap.size := HM4.out.rlt.2
      go_wp2_with (at_make; refine wpList_make_full _ rfl _ _ 23 rfl w.heap.size 49 i0 (.agg #[.int .i64 0, .int .i64 0]) 2 Try.underlying23 hi hz0 hz1 .i64 .i64 _ _ m (by simp [Act.eval]; try omega) rfl rfl rfl (by rw [hz2]; omega) (by unfold maxLen; omega) hs4 ?_; intro w5 hown hgrow; have honly5 : Only (fun _ => False) w4 w5 := Only.grown (Only.refl _ w4) hgrow (fun k hk => by cases hk); have HM5 : Hid (DN w0 w w5 B R X a bs cap (.slice (some ⟨g, 0, none⟩) ps.length ps.length) ps) := HM4.out.still (S := fun _ => False) (HM4.out.dr.other honly5 (by simp) (by simp)) honly5 (by simp) (HM4.out.only.trans (honly5.mono (by simp))); have hmade := OwP.made hown; have HS6 : Hid (DN w0 w (w5.setCell ⟨X, 0, none⟩ (.slice (some ⟨w4.heap.size, 0, none⟩) m m)) B R X a bs cap (.slice (some ⟨w4.heap.size, 0, none⟩) m m) (List.replicate m dp)) := HM5.out.setBox (by have h9 : OVp w5 w.heap.size (.slice (some ⟨w4.heap.size, 0, none⟩) (List.replicate m dp).length m) (List.replicate m dp) := hmade; simpa using h9) (fun k hk => by have e9 : w4.heap.size = k := (by simpa [Value.ownBlock] using hk); have := HM4.out.ne; omega) (by simp; omega); have b5 := HM5.out.box; have f5 := HM5.out.fz; have b6 := HS6.out.box; have r6 := HS6.out.res; have rz6 := HS6.out.rfz; clear hown hgrow hmade honly5)
      obtain ⟨va, vc, ev, hmf, hdf, hof⟩ := HS6.out.fin
      obtain ⟨rfl, -, rfl⟩ : some ⟨w4.heap.size, 0, none⟩ = va ∧ m = m ∧ m = vc := by simpa using ev
      have HF : Hid _ := And.intro hmf (And.intro hdf hof)
      clear hmf hdf hof ev
      exact bodyPost_ret (v := .agg #[.slice (some ⟨w4.heap.size, 0, none⟩) m m]) (by simp [results, Try.results15, go_sem, r6]) rfl ⟨_, _, List.replicate m dp, by simp, by simp; omega, HF.out.1, HF.out.2.1, HF.out.2.2⟩
end Go.Proofs.Ytnelpioadpdphaa
