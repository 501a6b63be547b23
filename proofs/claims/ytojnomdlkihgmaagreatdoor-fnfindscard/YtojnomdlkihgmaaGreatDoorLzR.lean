/-
  The places that are offered, in numbers.
-/
import Derived.Test.YtojnomdlkihgmaaGreatDoorCodes2
import Derived.Test.YtojnomdlkihgmaaGreatDoorPcP
import Derived.Test.YtojnomdlkihgmaaGreatDoorLzF
namespace Go.Proofs.YtojnomdlkihgmaaGreatDoor
open Go.RowKit
set_option linter.unusedVariables false
set_option linter.unusedSimpArgs false

theorem zeros_list (m : Nat) : Builtin.zeroCells (Value.int .i64 0).cells m = ((List.replicate m (0 : Int)).map (Value.int .i64)).toArray := by
  apply Array.ext'
  simp only [Builtin.zeroCells, Value.cells, Array.toList_map, Array.toList_range, List.map_replicate]
  rw [List.eq_replicate_iff]
  refine ⟨by simp, fun b hb => ?_⟩
  simp only [List.mem_map] at hb
  obtain ⟨i, _, rfl⟩ := hb
  simp [Nat.mod_one]
theorem run_append_zer {P : Program} (w : World) (base : Nat) (t tn ty e : TypeId) (i : TypeInfo) (k kn : IntKind) (ht : P.underlying t = some (.slice e)) (htn : P.underlying tn = some (.int kn)) (hi : P.info? e = some i) (hz : i.zero = some (.int .i64 0))
    (hsize : i.size = 1) (hby : i.bytes ≤ 8) (v : Value) (n : Nat) (hn : 0 < n) (xs : List Value) (hown : w.ownsRow base e 1 v n xs) (m : Nat) (hnm : n + m ≤ 1000000) (hbase : base ≤ w.heap.size) :
    ∃ v' w', (Builtin.append_ #[t, tn] ty #[v, .int k m]).run P w = .ok v' w' ∧ w'.ownsRow base e 1 v' (n + m) (xs ++ (List.replicate m (0 : Int)).map (Value.int .i64)) ∧ w.grownBy w' v.ownBlock := by
  have hl : ((List.replicate m (0 : Int)).map (Value.int .i64)).length = m := by simp
  have hZ := zeros_list m
  have h1 : ∀ u ∈ (List.replicate m (0 : Int)).map (Value.int .i64), u.oneCell' = true := by
    intro u hu
    simp only [List.mem_map] at hu
    obtain ⟨z, _, rfl⟩ := hu
    rfl
  generalize (List.replicate m (0 : Int)).map (Value.int .i64) = news at *
  have hlen : (xs ++ news).length = n + m := by rw [List.length_append, hown.1, hl]; omega
  have hw : IntKind.i64.wrap (m : Int) = m := by rw [IntKind.wrap_i64]; omega
  have hneg : ¬ ((m : Int) < 0) := by omega
  have hmb : m * i.bytes ≤ m * 8 := Nat.mul_le_mul_left _ hby
  have h48i : ¬ (281474976710656 < (m : Int) * (i.bytes : Int)) := by
    rw [← Int.natCast_mul]
    omega
  rcases hown.2 with ⟨rfl, rfl⟩ | ⟨g, cap, cur, rfl, hbg, hg, hnc, hcm, hcs, htake⟩
  · omega
  · by_cases hroom : n + m ≤ cap
    · have hst := run_storeCells_at P g n e news 0 cur w hg (by simp [hl]; omega) h1
      simp only [Nat.add_zero] at hst
      have hr : (Builtin.append_ #[t, tn] ty #[.slice (some ⟨g, 0, none⟩) n cap, .int k m]).run P w = .ok (.slice (some ⟨g, 0, none⟩) (n + m) cap) (w.setRow g (cur.toList.take n ++ news ++ cur.toList.drop (n + news.length)).toArray) := by
        by_cases hm0 : m = 0
        · subst hm0
          have hn0 : news = [] := List.eq_nil_of_length_eq_zero hl
          subst hn0
          have hw0 : IntKind.i64.wrap 0 = 0 := by decide
          simp [Addr.add_lit] at hst
          simp [Builtin.append_, run_underlying ht, run_underlying htn, sizeOf, typeInfo, zeroValue, hi, hz, hsize, asInt, asIntOf, hw0, Addr.add_lit, hnc, hst]
        · simp [Builtin.append_, run_underlying ht, run_underlying htn, sizeOf, typeInfo, zeroValue, hi, hz, hsize, asInt, asIntOf, hw, hneg, h48i, hroom, hm0, hZ, Addr.add_lit, hst]
      refine ⟨_, _, hr, ⟨by rw [hlen, Nat.mul_one], .inr ⟨g, cap, _, rfl, hbg, setRow_heap w g cur _ e _ hg, hroom, hcm, ?_, ?_⟩⟩, ⟨rfl, rfl, rfl, by simp, fun k _ hk => setRow_other w g k _ (fun e => hk (by simp [Value.ownBlock, e]))⟩⟩
      · simp only [List.size_toArray, List.length_append, List.length_take, List.length_drop, Array.length_toList]
        omega
      · rw [Nat.mul_one] at htake ⊢
        rw [htake, ← hlen]
        exact List.take_left
    · have holds : ∀ j u, xs[j]? = some u → w.cell? ((⟨g, 0, none⟩ : Addr).add j) = some u := hown.cells (g := g) rfl
      have hm0 : ¬ m = 0 := by omega
      have h63' : ¬ (9223372036854775807 < ((n : Int) + (m : Int))) := by omega
      have hfit := growslice_fits (need := n + m) (old := cap) (bytes := i.bytes) (by omega) (by have := Nat.mul_le_mul_left (n + m) hby; omega)
      have h48' : ¬ (281474976710656 < Builtin.nextslicecap (n + m) cap * i.bytes) := by omega
      have hfo := run_firstCells_some (P := P) w.drew 1 n ⟨g, 0, none⟩ n cap xs hown.1 (by simpa using holds)
      have hr : (Builtin.append_ #[t, tn] ty #[.slice (some ⟨g, 0, none⟩) n cap, .int k m]).run P w = .ok (.slice (some ⟨w.heap.size, 0, none⟩) (n + m) (grownCap w (n + m) cap e))
          (w.drew.alloc (.cells (xs.toArray ++ news.toArray ++ Builtin.zeroCells (Value.int .i64 0).cells (grownCap w (n + m) cap e - (n + m))) e)) := by
        simp [Builtin.append_, run_underlying ht, run_underlying htn, sizeOf, typeInfo, zeroValue, hi, hz, hsize, asInt, asIntOf, hw, hneg, h48i, hroom, hm0, hZ, h63', h48', Question.forced, hfo, newRow, grownCap]
        congr 2
        apply Array.ext'
        simp [List.append_assoc]
      have hge := grownCap_ge w (n + m) cap e
      have hcm2 : grownCap w (n + m) cap e ≤ maxLen := grownCap_le_maxLen w (n + m) cap e (by unfold maxLen; omega)
      refine ⟨_, _, hr, ⟨by rw [hlen, Nat.mul_one], .inr ⟨w.heap.size, _, _, rfl, hbase, heap_alloc_new w.drew _, hge, hcm2, ?_, ?_⟩⟩, ⟨rfl, rfl, rfl, by simp, fun j hj _ => heap_alloc_old w.drew _ hj⟩⟩
      · have hx := hown.1
        simp only [Array.size_append, List.size_toArray, size_zeroCells, hl, Value.cells]
        simp
        omega
      · rw [Nat.mul_one]
        simp only [Array.toList_append, List.append_assoc]
        rw [← List.append_assoc, ← hlen]
        exact List.take_left

theorem OVI.appZ {w w' : World} {B : Nat} {v v' : Value} {zs : List Int} {n m : Nat} (h : OVI w B v zs) (hn : zs.length = n) (h2 : w'.ownsRow B 3 1 v' (n + m) (zs.map (Value.int .i64) ++ (List.replicate m (0 : Int)).map (Value.int .i64))) : OVI w' B v' (zs ++ List.replicate m 0) := by
  refine ⟨?_, ?_⟩
  · rw [List.length_append, List.length_replicate, hn, List.map_append]
    exact h2
  · intro z hz
    rcases List.mem_append.1 hz with hz | hz
    · exact h.2 z hz
    · have := List.eq_of_mem_replicate hz
      omega
theorem wpList_append_zer {ops : Array Oper} {rest : List Oper} {o : Oper} {a : Act} {Q : Exit → Act → World → Prop} {w : World} (hgd : o.guard = none) (s x : Operand)
    (ho : o.op = .call { callee := .builtin .append, args := #[s, x], argTypes := #[42, 3] })
    (B : Nat) (v : Value) (zs : List Int) (hs : a.eval s = v) (hown : OVI w B v zs) (m : Nat) (hx : a.eval x = .int .i64 (m : Nat)) (hp : 0 < zs.length) (hb1 : zs.length + m ≤ 1000000) (hbase : B ≤ w.heap.size)
    (h : ∀ v' w', OVI w' B v' (zs ++ List.replicate m 0) → w.grownBy w' v.ownBlock → wpList Tryz.prog ops Q rest (a.put o.dst v') w') : wpList Tryz.prog ops Q (o :: rest) a w := by
  obtain ⟨i0, hi, hz0, hz1, hz2⟩ := info_parts Tryz.infoI64
  obtain ⟨v', w', hr, h2, h3⟩ := run_append_zer (P := Tryz.prog) w B 42 3 o.type 3 i0 .i64 .i64 Tryz.underlying42 Tryz.underlying3 hi hz0 hz1 (by rw [hz2]; omega) v zs.length hp _ hown.1 m hb1 hbase
  refine wpList_plain hgd fun K hK' => ?_
  unfold Oper.wp execOp
  simp only [ho, resolve, invoke, builtin, Sem.run_bind, Sem.run_pure, Result.andThen_ok, List.map_toArray, List.map_cons, List.map_nil, hs, hx, hr]
  exact hK' _ _ (h v' w' (hown.appZ rfl h2) h3)
theorem appI_below {w0 wr w1 : World} {B : Nat} {v : Value} {zs : List Int} (hbel : Below B w0 wr) (hB : B ≤ wr.heap.size) (h : OVI wr B v zs) (hg : wr.grownBy w1 v.ownBlock) : Below B w0 w1 :=
  hbel.grown hg hB (fun k hk => h.blk hk)
theorem OVI.blk_ne {w : World} {B : Nat} {v : Value} {zs : List Int} (h : OVI w B v zs) {Q : Nat} {cur : Array Value} {T : TypeId} (hQ : w.heap[Q]? = some (.cells cur T (0, 0))) (hT : T ≠ 3) : some Q ≠ v.ownBlock := by
  rcases h.1.2 with ⟨rfl, h0⟩ | ⟨g, cap, cur', rfl, hg, hh, _⟩
  · simp [Value.ownBlock]
  · simp only [Value.ownBlock, ne_eq, Option.some.injEq]
    rintro rfl
    rw [hQ] at hh
    simp at hh
    exact hT hh.2
theorem grown_blkI {w w' : World} {row : Option Nat} (hg : w.grownBy w' row) {Q : Nat} {o : Obj} (hQ : w.heap[Q]? = some o) (hne : some Q ≠ row) : w'.heap[Q]? = some o := (hg.block Q (Array.getElem?_eq_some_iff.1 hQ).1 hne).trans hQ
theorem OVI.ins {w : World} {B : Nat} {a : Option Addr} {n c : Nat} {zs : List Int} (h : OVI w B (.slice a n c) zs) : Ins w a zs := by
  obtain ⟨a', c', e, hm⟩ := h.mine
  obtain ⟨rfl, -, -⟩ : a = a' ∧ n = zs.length ∧ c = c' := by simpa using e
  exact hm.byt
theorem OVI.below {w w' : World} {B : Nat} {v : Value} {zs : List Int} (h : OVI w B v zs) (hb : Below w.heap.size w w') : OVI w' B v zs := h.only (Only.ofBelow (S := fun _ => False) hb (Nat.le_refl _)) (by simp)
end Go.Proofs.YtojnomdlkihgmaaGreatDoor
namespace Go.Proofs.YtojnomdlkihgmaaGreatDoor
open Go.RowKit Go.Maps
set_option linter.unusedVariables false
set_option linter.unusedSimpArgs false

def tri (ys : List Int) (p : Nat) : Int × Int × Int := (ys.getD p 0, ys.getD (p + 1) 0, ys.getD (p + 2) 0)
/-- The places below k where these letters are. -/
def lpl (ys : List Int) : Nat → Int × Int × Int → List Int
  | 0, _ => []
  | k + 1, q => if k + 3 ≤ ys.length ∧ q = tri ys k then lpl ys k q ++ [(k : Int)] else lpl ys k q
theorem lpl_len (ys : List Int) (k : Nat) (q : Int × Int × Int) : (lpl ys k q).length ≤ k := by
  induction k with
  | zero => simp [lpl]
  | succ k ih =>
    simp only [lpl]
    split
    · simp; omega
    · omega
theorem tri_R {ys : List Int} (hr : ∀ z ∈ ys, 0 ≤ z ∧ z ≤ 255) (p : Nat) : lkR (tri ys p) := by
  have h : ∀ i, 0 ≤ ys.getD i 0 ∧ ys.getD i 0 ≤ 255 := fun i => by
    rw [List.getD_eq_getElem?_getD]
    cases he : ys[i]? with
    | none => simp
    | some z => exact hr z (List.mem_of_getElem? he)
  exact ⟨h _, h _, h _⟩

set_option maxRecDepth 20000 in
set_option maxHeartbeats 8000000 in
theorem historyOf_any (a : Option Addr) (c : Nat) (ys : List Int) (w : World) (hb : Byt w a ys) (hn : ys.length ≤ 64) (hcap : ys.length ≤ c) :
    Calls Tryz.prog 17 #[.slice a ys.length c] w fun e w' => ∃ R M, e = .returned (.pointer (some ⟨R, 0, none⟩)) ∧ w.heap.size ≤ M ∧ w.heap.size ≤ R ∧ Hst w' R M a ys.length c ∧ LivL w' M ys.length (lpl ys ys.length) ∧ Below w.heap.size w w' := by
  have HBY : Hid (Byt w a ys) := hb
  have HT : Hid (∀ p, lkR (tri ys p)) := tri_R hb.1
  have HP1 : Hid (∀ k, k + 3 ≤ ys.length → ∀ q, lpl ys (k + 1) q = if q = tri ys k then lpl ys k q ++ [(k : Int)] else lpl ys k q) := fun k hk q => by
    simp only [lpl]
    by_cases hq : q = tri ys k
    · rw [if_pos ⟨hk, hq⟩, if_pos hq]
    · rw [if_neg (fun h => hq h.2), if_neg hq]
  have HP0 : Hid (∀ k, ¬ k + 3 ≤ ys.length → ∀ q, lpl ys k q = lpl ys (k + 1) q) := fun k hk q => by
    simp only [lpl]
    rw [if_neg (fun h => hk h.1)]
  have HLN : Hid (∀ k q, (lpl ys k q).length ≤ k) := lpl_len ys
  have HLA : Hid (∀ (k : Nat) (W : World), k ≤ ys.length → Below w.heap.size w W → Calls Tryz.prog 28 #[.slice a ys.length c, .int .i64 k] W fun e w' => (∃ x y z : Int, e = .returned (.tuple #[.agg #[.int .u8 x, .int .u8 y, .int .u8 z], .bool (decide (k + 3 ≤ ys.length))]) ∧ LtA ys k x y z) ∧ Below W.heap.size W w') := fun k W hk hW => lettersAt_any a c ys k W (hb.below hW (Nat.le_refl _)) hn hk hcap
  clear hb hcap
  generalize hL : ys.length = n at *
  have HL : Hid (ys.length = n ∧ True) := ⟨hL, trivial⟩
  clear hL
  have hmm := @run_makeMap Tryz.prog
  go_enter Tryz.func17, Tryz.ntmps17
  go_wp2
  clear hmm
  have HM0 : Hid (LivL ((w.alloc (.map #[] 0)).alloc (Obj.cells #[.slice a n c, .map (some w.heap.size)] 59)) w.heap.size 0 (lpl ys 0)) := ((LivL.made w).below ((Below.refl _ _).alloc (Nat.le_refl _) _)).congr (fun q => rfl)
  have HH0 : Hid (Hst ((w.alloc (.map #[] 0)).alloc (Obj.cells #[.slice a n c, .map (some w.heap.size)] 59)) (w.heap.size + 1) w.heap.size a n c) := ⟨by
    have := heap_alloc_new (w.alloc (.map #[] 0)) (Obj.cells #[.slice a n c, .map (some w.heap.size)] 59)
    rw [World.size_alloc] at this
    exact this⟩
  have HB0 : Hid (Below w.heap.size w ((w.alloc (.map #[] 0)).alloc (Obj.cells #[.slice a n c, .map (some w.heap.size)] 59))) := ((Below.refl _ _).alloc (Nat.le_refl _) _).alloc (by simp) _
  go_loopw [13] (fun i W => ∃ k : Nat, k ≤ n ∧ i = .int .i64 k ∧ LivL W w.heap.size k (lpl ys k) ∧ Hst W (w.heap.size + 1) w.heap.size a n c ∧ Below w.heap.size w W) (fun i _ => n - (intOf i).toNat)
  case atStart => exact ⟨0, by omega, rfl, HM0.out, HH0.out, HB0.out⟩
  case round =>
    obtain ⟨k, hk, rfl, hm, hh, hbel⟩ := hrel
    clear HM0 HH0 HB0
    have HW : Hid (LivL wr w.heap.size k (lpl ys k) ∧ Hst wr (w.heap.size + 1) w.heap.size a n c ∧ Below w.heap.size w wr) := ⟨hm, hh, hbel⟩
    have hRl := hh.lt
    have hsz := hbel.size
    clear hm hh hbel
    by_cases hlt : k < n
    · have hlt2 : (k : Int) < (n : Int) := by omega
      have HLA1 := HLA.out k wr (by omega) HW.out.2.2
      by_cases h3 : k + 3 ≤ n
      · rw [decide_eq_true h3] at HLA1
        go_wp2_with fail
        refine HLA1.mono ?_
        clear HLA1
        rintro e w1 ⟨⟨x, y, z, rfl, hla⟩, hb1⟩
        go_wp2_with fail
        have hq : (x, y, z) = tri ys k := by
          obtain ⟨e1, e2, e3⟩ := hla.1 (by rw [HL.out.1]; exact h3)
          rw [e1, e2, e3]
          rfl
        have HQ : Hid ((x, y, z) = tri ys k ∧ lkR (x, y, z)) := ⟨hq, by rw [hq]; exact HT.out k⟩
        have HV : Hid (LivL (w1.alloc (Obj.cells #[Value.int IntKind.u8 x, Value.int IntKind.u8 y, Value.int IntKind.u8 z] 61)) w.heap.size k (lpl ys k) ∧ Hst (w1.alloc (Obj.cells #[Value.int IntKind.u8 x, Value.int IntKind.u8 y, Value.int IntKind.u8 z] 61)) (w.heap.size + 1) w.heap.size a n c ∧ Below w.heap.size w (w1.alloc (Obj.cells #[Value.int IntKind.u8 x, Value.int IntKind.u8 y, Value.int IntKind.u8 z] 61))) :=
          ⟨(HW.out.1.below hb1).below ((Below.refl _ _).alloc (Nat.le_refl _) _), (HW.out.2.1.below hb1).below ((Below.refl _ _).alloc (Nat.le_refl _) _), (HW.out.2.2.trans (hb1.mono hsz)).alloc (by have := hb1.size; omega) _⟩
        have HBK : Hid ((w1.alloc (Obj.cells #[Value.int IntKind.u8 x, Value.int IntKind.u8 y, Value.int IntKind.u8 z] 61)).heap[w1.heap.size]? = some (.cells #[.int .u8 x, .int .u8 y, .int .u8 z] 61 (0, 0)) ∧ w1.heap.size < (w1.alloc (Obj.cells #[Value.int IntKind.u8 x, Value.int IntKind.u8 y, Value.int IntKind.u8 z] 61)).heap.size) := ⟨heap_alloc_new w1 _, by simp⟩
        have hMB : w.heap.size < w1.heap.size := by have := HW.out.1.lt; have := hb1.size; omega
        clear hb1 hla hq
        generalize w1.heap.size = B at *
        generalize w1.alloc (Obj.cells #[Value.int IntKind.u8 x, Value.int IntKind.u8 y, Value.int IntKind.u8 z] 61) = V at *
        have a1 := HV.out.2.1.c1
        have b0 : V.cell? ⟨B, 0, none⟩ = some (.int .u8 x) := blk_cellI HBK.out.1 rfl
        have b1 : V.cell? ⟨B, 1, none⟩ = some (.int .u8 y) := blk_cellI HBK.out.1 rfl
        have b2 : V.cell? ⟨B, 2, none⟩ = some (.int .u8 z) := blk_cellI HBK.out.1 rfl
        have hVd : Below V.heap.size V V.drew := ⟨rfl, rfl, rfl, Nat.le_refl _, fun _ _ => rfl⟩
        have hlx := HLN.out k (x, y, z)
        have hVl := HV.out.1.lt
        have hRV := HV.out.2.1.lt
        have hBV := HBK.out.2
        refine wp_region_cut (S := fun W => W.cell? ⟨w.heap.size + 1, 1, none⟩ = some (.map (some w.heap.size)) ∧ W.cell? ⟨B, 0, none⟩ = some (.int .u8 x) ∧ W.cell? ⟨B, 1, none⟩ = some (.int .u8 y) ∧ W.cell? ⟨B, 2, none⟩ = some (.int .u8 z)) 11 (by kernel_rfl) (by kernel_rfl) (by exact ⟨a1, b0, b1, b2⟩) (fun hHeld => ?_)
        refine tk 0 (v := ?_) ?_ ?_
        rotate_left 1
        · (intro w hSw; (try dsimp only at hSw); go_simp; try (with_reducible rfl))
        try simp only [tkS]
        refine tk 1 (v := ?_) ?_ ?_
        rotate_left 1
        · (intro w hSw; (try dsimp only at hSw); go_simp; try (with_reducible rfl))
        try simp only [tkS]
        refine tk 2 (v := ?_) ?_ ?_
        rotate_left 1
        · (intro w hSw; (try dsimp only at hSw); go_simp; try (with_reducible rfl))
        try simp only [tkS]
        refine tk 3 (v := ?_) ?_ ?_
        rotate_left 1
        · (intro w hSw; (try dsimp only at hSw); go_simp; try (with_reducible rfl))
        try simp only [tkS]
        refine tk 4 (v := ?_) ?_ ?_
        rotate_left 1
        · (intro w hSw; (try dsimp only at hSw); go_simp; try (with_reducible rfl))
        try simp only [tkS]
        refine tk 5 (v := ?_) ?_ ?_
        rotate_left 1
        · (intro w hSw; (try dsimp only at hSw); go_simp; try (with_reducible rfl))
        try simp only [tkS]
        refine wpAnyH_ready (rs := [6]) (by kernel_rfl) (by simp) ?_
        refine AllReadyH.cons rfl (fun K hK => ?_) AllReadyH.nil
        go_simp
        refine hK.out _ _ (by exact ⟨keepA _ hRV a1, keepA _ hBV b0, keepA _ hBV b1, keepA _ hBV b2⟩) (fun hHeld => ?_)
        clear hK K
        try simp only [tkS]
        refine wpAnyH_ready (rs := [7]) (by kernel_rfl) (by simp) ?_
        refine AllReadyH.cons rfl (fun K hK => ?_) AllReadyH.nil
        have hVa : Below V.heap.size V (V.alloc (Obj.cells #[Value.int IntKind.i64 k] 3)).drew := (((Below.refl _ _).alloc (Nat.le_refl _) _)).drew
        obtain ⟨v, st, w0, hme, hg0, hs0, hov, hlen, hput⟩ := (HV.out.1.below hVa).entry (by omega) (x, y, z) HQ.out.2
        obtain ⟨va, vc, rfl⟩ := hov.form
        have hme2 : Sem.run Tryz.prog (Instr.mapEntry 57 (.map (some w.heap.size)) (.agg #[.int .u8 x, .int .u8 y, .int .u8 z])) (V.alloc (Obj.cells #[Value.int IntKind.i64 k] 3)).drew = .ok (.tuple #[.slice va (lpl ys k (x, y, z)).length vc, .int .i64 st]) w0 := hme
        have hX0 : (V.alloc (Obj.cells #[Value.int IntKind.i64 k] 3)).drew.heap[V.heap.size]? = some (.cells #[.int .i64 k] 3 (0, 0)) := heap_alloc_new V _
        have hXM : some V.heap.size ≠ some w.heap.size := by simp; omega
        have HX1 : Hid (w0.heap[V.heap.size]? = some (.cells #[.int .i64 k] 3 (0, 0))) := grown_blkI hg0 hX0 hXM
        have HR1 : Hid (w0.heap[w.heap.size + 1]? = some (.cells #[.slice a n c, .map (some w.heap.size)] 59 (0, 0))) := grown_blkI hg0 ((hVa.block _ hRV).trans HV.out.2.1.blk) (by simp)
        have HB1 : Hid (w0.heap[B]? = some (.cells #[.int .u8 x, .int .u8 y, .int .u8 z] 61 (0, 0))) := grown_blkI hg0 ((hVa.block _ hBV).trans HBK.out.1) (by simp; omega)
        have HPUT : Hid _ := hput
        have HBW : Hid (Below w.heap.size w w0) := (HV.out.2.2.trans (hVa.mono HV.out.2.2.size)).grown hg0 (by have := HV.out.2.2.size; simp; omega) (fun j hj => by cases hj; exact Nat.le_refl _)
        have HOV : Hid (OVI w0 (w.heap.size + 1) (.slice va (lpl ys k (x, y, z)).length vc) (lpl ys k (x, y, z))) := hov
        have HS0 : Hid (w0.heap.size = (V.alloc (Obj.cells #[Value.int IntKind.i64 k] 3)).drew.heap.size) := hs0
        clear hme hput hov hX0 hXM hg0 hs0
        go_simp
        refine hK.out _ _ (by exact ⟨blk_cellI HR1.out rfl, blk_cellI HB1.out rfl, blk_cellI HB1.out rfl, blk_cellI HB1.out rfl⟩) (fun hHeld => ?_)
        clear hK K hme2
        try simp only [tkS]
        refine tk 8 (v := ?_) ?_ ?_
        rotate_left 1
        · (intro w hSw; (try dsimp only at hSw); go_simp; try (with_reducible rfl))
        try simp only [tkS]
        refine tk 10 (v := ?_) ?_ ?_
        rotate_left 1
        · (intro w hSw; (try dsimp only at hSw); go_simp; try (with_reducible rfl))
        try simp only [tkS]
        refine wpAnyH_ready (rs := [9]) (by kernel_rfl) (by simp) ?_
        refine AllReadyH.cons rfl (fun K hK => ?_) AllReadyH.nil
        refine wanted_step8 rfl (wp_append_i1 (.tmp 28) (.tmp 30) rfl (w.heap.size + 1) (.slice va (lpl ys k (x, y, z)).length vc) (lpl ys k (x, y, z)) (by simp [Act.eval]) HOV.out V.heap.size (k : Int) (by simp [Act.eval]) (blk_cellI HX1.out rfl) (by omega) (by omega) (by omega) (by rw [HS0.out]; simp; omega) ?_)
        intro v1 w2 hov1 hg1 hat1
        obtain ⟨w3, hr3, hl3, hg3⟩ := HPUT.out w2 v1 k hg1 hov1 (hat1.imp id (fun h => ⟨_, h, by rw [HS0.out]; exact Nat.le_refl _⟩))
        obtain ⟨va1, vc1, hv1⟩ := hov1.form
        have hln : (lpl ys k (x, y, z) ++ [(k : Int)]).length = (lpl ys k (x, y, z)).length + 1 := by simp
        rw [hln] at hv1
        clear hln
        subst hv1
        have A1 := grown_blkI hg1 HR1.out (HOV.out.blk_ne HR1.out (by decide))
        have B1 := grown_blkI hg1 HB1.out (HOV.out.blk_ne HB1.out (by decide))
        have HEND : Hid (LivL w3 w.heap.size (k + 1) (lpl ys (k + 1)) ∧ Hst w3 (w.heap.size + 1) w.heap.size a n c ∧ Below w.heap.size w w3) := by
          refine ⟨hl3.congr fun q => ?_, ⟨grown_blkI hg3 A1 (by simp)⟩, HBW.out.trans (set_below hg1 hg3 HBW.out.size HOV.out)⟩
          rw [HP1.out k h3 q]
          rw [← HQ.out.1]
          by_cases hq : q = (x, y, z)
          · rw [if_pos hq, if_pos hq, hq]
          · rw [if_neg hq, if_neg hq]
        have hr3' : Sem.run Tryz.prog (Instr.entryStore 57 (.map (some w.heap.size)) (.int .i64 st) (.slice va1 ((lpl ys k (x, y, z)).length + 1) vc1)) w2 = .ok () w3 := hr3
        refine hK.out _ _ (by exact ⟨blk_cellI A1 rfl, blk_cellI B1 rfl, blk_cellI B1 rfl, blk_cellI B1 rfl⟩) (fun hHeld => ?_)
        clear hK K
        try simp only [tkS]
        refine wpAnyH_done (by kernel_rfl) ?_ _
        simp only [cutQ, List.drop_succ_cons, List.drop_zero]
        clear hHeld hl3 hg3 hg1 hov1 hat1 hr3 A1 B1
        go_wp2
        go_roundw
        case rel => exact ⟨k + 1, by omega, by go_num, HEND.out.1, HEND.out.2.1, HEND.out.2.2⟩
        case measure => simp [intOf]; omega
      · rw [decide_eq_false h3] at HLA1
        go_wp2_with fail
        refine HLA1.mono ?_
        clear HLA1
        rintro e w1 ⟨⟨x, y, z, rfl, hla⟩, hb1⟩
        have HW1 : Hid (LivL w1 w.heap.size (k + 1) (lpl ys (k + 1)) ∧ Hst w1 (w.heap.size + 1) w.heap.size a n c ∧ Below w.heap.size w w1) := ⟨((HW.out.1.below hb1).congr (HP0.out k h3)).mono (by omega), HW.out.2.1.below hb1, HW.out.2.2.trans (hb1.mono hsz)⟩
        clear hb1
        go_wp2
        go_roundw
        case rel => exact ⟨k + 1, by omega, by go_num, HW1.out.1.below ((Below.refl _ _).alloc (Nat.le_refl _) _), HW1.out.2.1.below ((Below.refl _ _).alloc (Nat.le_refl _) _), HW1.out.2.2.alloc HW1.out.2.2.size _⟩
        case measure => simp [intOf]; omega
    · have hkn : k = n := by omega
      subst hkn
      have hlt2 : ¬ (k : Int) < (k : Int) := by omega
      go_wp2
      go_ret
      exact ⟨_, rfl, _, Nat.le_refl _, Nat.le_succ _, HW.out.2.1, HW.out.1, HW.out.2.2⟩
/-- The best one behind the offer of the place p. -/
def ofr (ys : List Int) (at_ p : Nat) (b : Nat × Nat) : Nat × Nat := if b.1 ≤ alk ys p at_ then (alk ys p at_, at_ - p) else b

set_option maxRecDepth 20000 in
set_option maxHeartbeats 4000000 in
theorem offer_any (R M P Q T : Nat) (a : Option Addr) (c : Nat) (ys : List Int) (p q x y : Nat) (w : World) (hH : Hst w R M a ys.length c) (hb : Byt w a ys) (hn : ys.length ≤ 64) (hp : p < q) (hq : q < ys.length)
    (hP : w.cell? ⟨P, 0, none⟩ = some (.pointer (some ⟨R, 0, none⟩))) (hQ : w.cell? ⟨Q, 0, none⟩ = some (.int .i64 q)) (hT : w.heap[T]? = some (.cells #[.int .i64 x, .int .i64 y] 46 (0, 0))) (hPl : P < w.heap.size) (hQl : Q < w.heap.size) (hQT : Q ≠ T) :
    Calls Tryz.prog 29 #[.int .i64 p, .pointer (some ⟨P, 0, none⟩), .pointer (some ⟨Q, 0, none⟩), .pointer (some ⟨T, 0, none⟩)] w fun e w' =>
      e = .returned (.tuple #[]) ∧ w'.heap[T]? = some (.cells #[.int .i64 (ofr ys q p (x, y)).1, .int .i64 (ofr ys q p (x, y)).2] 46 (0, 0)) ∧ Only (fun k => k = T) w w' := by
  have HAF : Hid (∀ W, Below w.heap.size w W → Calls Tryz.prog 30 #[.pointer (some ⟨R, 0, none⟩), .int .i64 p, .int .i64 q] W fun e w' => e = .returned (.int .i64 (alk ys p q)) ∧ Below W.heap.size W w') := fun W hW => alikeFrom_any R M a c ys p q W (hH.below hW) (hb.below hW (Nat.le_refl _)) hn hp hq
  have hTl : T < w.heap.size := (Array.getElem?_eq_some_iff.1 hT).1
  have HT : Hid (w.heap[T]? = some (.cells #[.int .i64 x, .int .i64 y] 46 (0, 0))) := hT
  have HO : Hid (ofr ys q p (x, y) = if x ≤ alk ys p q then (alk ys p q, q - p) else (x, y)) := rfl
  have hal := alk_le ys p q
  clear hH hb hT
  generalize alk ys p q = m at *
  have hm64 : m ≤ 64 := by omega
  clear hal
  have hAF := HAF.out w (Below.refl _ _)
  go_enter Tryz.func29, Tryz.ntmps29
  go_wp2_with fail
  refine hAF.mono ?_
  clear hAF HAF
  rintro e w1 ⟨rfl, hb1⟩
  have HB1 : Hid (Below w.heap.size w w1) := hb1
  have HT1 : Hid (w1.heap[T]? = some (.cells #[.int .i64 x, .int .i64 y] 46 (0, 0))) := (hb1.block T hTl).trans HT.out
  have t0 : w1.cell? ⟨T, 0, none⟩ = some (.int .i64 x) := blk_cellI HT1.out rfl
  have t1 : w1.cell? ⟨T, 1, none⟩ = some (.int .i64 y) := blk_cellI HT1.out rfl
  have q1 := keep hb1 hQl hQ
  have f0 := frozen_of_row w1 T 0 _ _ HT1.out
  have f1 := frozen_of_row w1 T 1 _ _ HT1.out
  clear hb1
  by_cases hc : x ≤ m
  · have hc2 : (x : Int) ≤ (m : Int) := by omega
    have HO1 : Hid (ofr ys q p (x, y) = (m, q - p)) := by unfold Hid; rw [HO.out, if_pos hc]
    go_wp2
    go_end0
    refine ⟨rfl, ?_, ((Only.ofBelow (S := fun k => k = T) HB1.out (Nat.le_refl _)).setCell (p := ⟨T, 0, none⟩) (.inl rfl) _).setCell (p := ⟨T, 1, none⟩) (.inl rfl) _⟩
    rw [HO1.out, heap_setCell_same _ T 1 _ _ _ (heap_setCell_same _ T 0 _ _ _ HT1.out)]
    simp
    omega
  · have hc2 : ¬ (x : Int) ≤ (m : Int) := by omega
    have HO1 : Hid (ofr ys q p (x, y) = (x, y)) := by unfold Hid; rw [HO.out, if_neg hc]
    go_wp2
    go_end0
    rw [HO1.out]
    exact ⟨rfl, HT1.out, Only.ofBelow HB1.out (Nat.le_refl _)⟩
end Go.Proofs.YtojnomdlkihgmaaGreatDoor
namespace Go.Proofs.YtojnomdlkihgmaaGreatDoor
open Go.RowKit
set_option linter.unusedVariables false

def ofrs (ys : List Int) (q : Nat) (l : List Int) : Nat × Nat := l.foldl (fun b p => ofr ys q p.toNat b) (0, 0)
theorem ofrs_snoc (ys : List Int) (q : Nat) (l : List Int) (p : Nat) : ofrs ys q (l ++ [(p : Int)]) = ofr ys q p (ofrs ys q l) := by
  simp [ofrs]
theorem lzP_short (ys : List Int) (q : Nat) (h : ¬ q + 3 ≤ ys.length) : ∀ k, lzP ys q k = (0, 0)
  | 0 => rfl
  | k + 1 => by
    have := alk_le ys k q
    rw [lzP, if_neg (by omega)]
    exact lzP_short ys q h k
theorem ofrs_lzP (ys : List Int) (q : Nat) (h : q + 3 ≤ ys.length) : ∀ k, k ≤ q → ofrs ys q (lpl ys k (tri ys q)) = lzP ys q k
  | 0, _ => rfl
  | k + 1, hk => by
    have ih := ofrs_lzP ys q h k (by omega)
    have h3 := alk_three ys k q h
    have ht : tri ys q = tri ys k ↔ 3 ≤ alk ys k q := by
      rw [h3]
      simp only [tri, Prod.mk.injEq]
      constructor
      · rintro ⟨a, b, c⟩; exact ⟨a.symm, b.symm, c.symm⟩
      · rintro ⟨a, b, c⟩; exact ⟨a.symm, b.symm, c.symm⟩
    simp only [lpl, lzP]
    by_cases hc : tri ys q = tri ys k
    · rw [if_pos ⟨by omega, hc⟩, ofrs_snoc, ih]
      unfold ofr
      have h4 := ht.1 hc
      by_cases hd : (lzP ys q k).1 ≤ alk ys k q
      · rw [if_pos hd, if_pos ⟨h4, hd⟩]
      · rw [if_neg hd, if_neg (fun h => hd h.2)]
    · rw [if_neg (fun h => hc h.2), if_neg (fun h => hc (ht.2 h.1)), ih]
theorem lpl_mem (ys : List Int) (k : Nat) (q : Int × Int × Int) : ∀ z ∈ lpl ys k q, 0 ≤ z ∧ z < k := by
  induction k with
  | zero => simp [lpl]
  | succ k ih =>
    intro z hz
    simp only [lpl] at hz
    split at hz
    · rcases List.mem_append.1 hz with hz | hz
      · have := ih z hz; omega
      · simp at hz; omega
    · have := ih z hz; omega
theorem lpl_app (ys : List Int) (q : Nat) (Q : Int × Int × Int) : ∀ d, ∃ r, lpl ys (q + d) Q = lpl ys q Q ++ r ∧ ∀ z ∈ r, (q : Int) ≤ z
  | 0 => ⟨[], by simp, by simp⟩
  | d + 1 => by
    obtain ⟨r, h1, h2⟩ := lpl_app ys q Q d
    rw [← Nat.add_assoc]
    simp only [lpl]
    split
    · refine ⟨r ++ [((q + d : Nat) : Int)], by rw [h1, List.append_assoc], fun z hz => ?_⟩
      rcases List.mem_append.1 hz with hz | hz
      · exact h2 z hz
      · simp at hz; omega
    · exact ⟨r, h1, h2⟩
/-- The list that is gone through: those ahead of q, then q or more. -/
theorem lpl_parts (ys : List Int) (q : Nat) (hq : q + 3 ≤ ys.length) : ∃ l r : List Int, lpl ys ys.length (tri ys q) = l ++ r ∧ 1 ≤ r.length ∧ (∀ z ∈ l, 0 ≤ z ∧ z < q) ∧ (∀ z ∈ r, (q : Int) ≤ z) ∧ ofrs ys q l = lzP ys q q := by
  obtain ⟨r, h1, h2⟩ := lpl_app ys (q + 1) (tri ys q) (ys.length - (q + 1))
  rw [show q + 1 + (ys.length - (q + 1)) = ys.length by omega] at h1
  have h3 : lpl ys (q + 1) (tri ys q) = lpl ys q (tri ys q) ++ [(q : Int)] := by simp only [lpl]; rw [if_pos ⟨hq, trivial⟩]
  refine ⟨lpl ys q (tri ys q), (q : Int) :: r, by rw [h1, h3, List.append_assoc]; rfl, by simp, lpl_mem ys q _, fun z hz => ?_, ofrs_lzP ys q hq q (Nat.le_refl _)⟩
  · rcases List.mem_cons.1 hz with hz | hz
    · omega
    · have := h2 z hz; omega
end Go.Proofs.YtojnomdlkihgmaaGreatDoor
