/-
  LensOk of the model: sums over lengths.
-/
import Derived.Test.YtapdejphceflaaaGreatDoorLPutM
import Derived.Test.YtapdejphceflaaaGreatDoorOnly
import Derived.Test.YtapdejphceflaaaGreatDoorOpen1
namespace Go.Proofs.YtapdejphceflaaaGreatDoor
open Go.RowKit
set_option linter.unusedVariables false

theorem Tryz.infoI64 : (Tryz.prog.info? 3).map (fun i => (i.zero, i.size, i.bytes)) = some (some (.int .i64 0), 1, 8) := by kernel_rfl

theorem made_zeroI (n : Nat) : (madeCells (Value.int .i64 0).cells (n * 1)).toList = (List.replicate n (0 : Int)).map (Value.int .i64) := by
  simp only [madeCells, Value.cells, Nat.mul_one, Array.toList_map, Array.toList_range, List.map_replicate]
  rw [List.eq_replicate_iff]
  refine ⟨by simp, fun b hb => ?_⟩
  simp only [List.mem_map] at hb
  obtain ⟨x, _, rfl⟩ := hb
  simp [Nat.mod_one]



theorem OwI.only {S : Nat → Prop} {w w' : World} {B g cap : Nat} {zs : List Int} (h : OwI w B g cap zs) (ho : Only S w w') (hs : ¬ S g) : OwI w' B g cap zs := by
  refine ⟨⟨h.1.1, ?_⟩, h.2⟩
  have hlt := h.lt.2
  rcases h.1.2 with ⟨h', _⟩ | ⟨g', cap', cur, h', hg, hh, r⟩
  · simp at h'
  · have e : g' = g := by simp at h'; exact h'.1.symm
    subst e
    exact .inr ⟨g', cap', cur, h', hg, by rw [ho.block g' hlt hs]; exact hh, r⟩

/-- The numbers of an answer: nothing, or a row of its own between two blocks. -/
def MinI (w : World) (B U : Nat) (a : Option Addr) (cap : Nat) (zs : List Int) : Prop :=
  (a = none ∧ zs = [] ∧ cap = 0) ∨ ∃ g, a = some ⟨g, 0, none⟩ ∧ B ≤ g ∧ g < U ∧ OwI w B g cap zs

theorem MinI.byt {w : World} {B U : Nat} {a : Option Addr} {cap : Nat} {zs : List Int} (h : MinI w B U a cap zs) : Ins w a zs := by
  rcases h with ⟨rfl, rfl, rfl⟩ | ⟨g, rfl, _, _, h⟩
  · exact ⟨by simp, by simp⟩
  · exact h.byt
theorem MinI.only {S : Nat → Prop} {w w' : World} {B U : Nat} {a : Option Addr} {cap : Nat} {zs : List Int} (h : MinI w B U a cap zs) (ho : Only S w w') (hs : ∀ k, B ≤ k → k < U → ¬ S k) : MinI w' B U a cap zs := by
  rcases h with h | ⟨g, rfl, h1, h2, h⟩
  · exact .inl h
  · exact .inr ⟨g, rfl, h1, h2, h.only ho (hs g h1 h2)⟩
theorem MinI.below {w w' : World} {B U : Nat} {a : Option Addr} {cap : Nat} {zs : List Int} (h : MinI w B U a cap zs) (ho : Below w.heap.size w w') : MinI w' B U a cap zs := h.only (Only.ofBelow (S := fun _ => False) ho (Nat.le_refl _)) (by simp)
theorem MinI.mono {w : World} {B U B' U' : Nat} {a : Option Addr} {cap : Nat} {zs : List Int} (h : MinI w B U a cap zs) (h1 : B' ≤ B) (h2 : U ≤ U') : MinI w B' U' a cap zs := by
  rcases h with h | ⟨g, rfl, g1, g2, h⟩
  · exact .inl h
  · exact .inr ⟨g, rfl, by omega, by omega, h.mono h1⟩
theorem OwI.mine {w : World} {B g cap : Nat} {zs : List Int} (h : OwI w B g cap zs) : MinI w B w.heap.size (some ⟨g, 0, none⟩) cap zs := .inr ⟨g, rfl, h.lt.1, h.lt.2, h⟩

end Go.Proofs.YtapdejphceflaaaGreatDoor
namespace Go.Proofs.YtapdejphceflaaaGreatDoor
open Go.RowKit
set_option linter.unusedVariables false

/-- A slice value (nil, or a row of the call's own from block B on) that has the numbers zs. -/
def OVI (w : World) (B : Nat) (v : Value) (zs : List Int) : Prop := w.ownsRow B 3 1 v zs.length (zs.map (Value.int .i64)) ∧ ∀ z ∈ zs, -9223372036854775808 ≤ z ∧ z ≤ 9223372036854775807

theorem OVI.nil (w : World) (B : Nat) : OVI w B (.slice none 0 0) [] := ⟨⟨rfl, .inl ⟨rfl, rfl⟩⟩, by simp⟩
theorem OVI.form {w : World} {B : Nat} {v : Value} {zs : List Int} (h : OVI w B v zs) : ∃ (a : Option Addr) (c : Nat), v = .slice a zs.length c := by
  rcases h.1.2 with ⟨rfl, h0⟩ | ⟨g, cap, cur, rfl, _⟩
  · exact ⟨none, 0, by rw [h0]⟩
  · exact ⟨_, _, rfl⟩
theorem OVI.blk {w : World} {B : Nat} {v : Value} {zs : List Int} (h : OVI w B v zs) {k : Nat} (hk : v.ownBlock = some k) : B ≤ k := by
  rcases h.1.2 with ⟨rfl, h0⟩ | ⟨g, cap, cur, rfl, hg, _⟩
  · simp [Value.ownBlock] at hk
  · simp [Value.ownBlock] at hk
    omega
theorem OVI.mine {w : World} {B : Nat} {v : Value} {zs : List Int} (h : OVI w B v zs) : ∃ (a : Option Addr) (cp : Nat), v = .slice a zs.length cp ∧ MinI w B w.heap.size a cp zs := by
  rcases h.1.2 with ⟨rfl, h0⟩ | ⟨g, cap, cur, rfl, hg, hh, r⟩
  · exact ⟨none, 0, by rw [h0], .inl ⟨rfl, List.eq_nil_of_length_eq_zero h0, rfl⟩⟩
  · exact ⟨some ⟨g, 0, none⟩, cap, rfl, OwI.mine (cap := cap) h⟩
theorem OVI.app {w1 : World} {B g cap n : Nat} {zs : List Int} {x : Int} (hl : zs.length = n) (hr : ∀ z ∈ zs, -9223372036854775808 ≤ z ∧ z ≤ 9223372036854775807) (hx : -9223372036854775808 ≤ x ∧ x ≤ 9223372036854775807)
    (hown : w1.ownsRow B 3 1 (.slice (some ⟨g, 0, none⟩) (n + 1) cap) (n + 1) (zs.map (Value.int .i64) ++ [.int .i64 x])) : OVI w1 B (.slice (some ⟨g, 0, none⟩) (n + 1) cap) (zs ++ [x]) := by
  refine ⟨?_, ?_⟩
  · have e : (zs ++ [x]).length = n + 1 := by simp [hl]
    rw [e]
    simpa using hown
  · intro z hz
    simp only [List.mem_append, List.mem_singleton] at hz
    rcases hz with hz | rfl
    · exact hr z hz
    · exact hx
theorem app_below {w0 wr w1 : World} {B : Nat} {o : Obj} {v : Value} {zs : List Int} (hbel : Below B w0 wr) (hB : B ≤ wr.heap.size) (h : OVI wr B v zs) (hg : (wr.alloc o).grownBy w1 v.ownBlock) : Below B w0 w1 :=
  (hbel.alloc hB o).grown hg (by simp; omega) (fun k hk => h.blk hk)
theorem OVI.only {S : Nat → Prop} {w w' : World} {B : Nat} {v : Value} {zs : List Int} (h : OVI w B v zs) (ho : Only S w w') (hs : ∀ k, B ≤ k → ¬ S k) : OVI w' B v zs := by
  refine ⟨⟨h.1.1, ?_⟩, h.2⟩
  rcases h.1.2 with h' | ⟨g, cap, cur, h', hg, hh, r⟩
  · exact .inl h'
  · exact .inr ⟨g, cap, cur, h', hg, (ho.block g (Array.getElem?_eq_some_iff.1 hh).1 (hs g hg)).trans hh, r⟩
end Go.Proofs.YtapdejphceflaaaGreatDoor
namespace Go.Proofs.YtapdejphceflaaaGreatDoor
open Go.RowKit
set_option linter.unusedVariables false
set_option linter.unusedSimpArgs false

theorem zeros_list (m : Nat) : Builtin.zeroCells (Value.int .i64 0).cells m = ((List.replicate m (0 : Int)).map (Value.int .i64)).toArray := by
  apply Array.ext'
  simp only [Builtin.zeroCells, Value.cells, Array.toList_map, Array.toList_range, List.map_replicate]
  rw [List.eq_replicate_iff]
  refine ⟨by simp, fun b hb => ?_⟩
  simp only [List.mem_map] at hb
  obtain ⟨i, _, rfl⟩ := hb
  simp [Nat.mod_one]
theorem run_append_zer {P : Program} (w : World) (base : Nat) (t tn ty e : TypeId) (i : TypeInfo) (k kn : IntKind) (ht : P.underlying t = some (.slice e)) (htn : P.underlying tn = some (.int kn)) (hi : P.info? e = some i) (hz : i.zero = some (.int .i64 0))
    (hsize : i.size = 1) (hby : i.bytes ≤ 8) (v : Value) (n : Nat) (hn : 0 < n) (xs : List Value) (hown : w.ownsRow base e 1 v n xs) (m : Nat) (hnm : n + m ≤ 1000000) (hbase : base ≤ w.heap.size) :
    ∃ v' w', (Builtin.append_ #[t, tn] ty #[v, .int k m]).run P w = .ok v' w' ∧ w'.ownsRow base e 1 v' (n + m) (xs ++ (List.replicate m (0 : Int)).map (Value.int .i64)) ∧ w.grownBy w' v.ownBlock := by
  have hl : ((List.replicate m (0 : Int)).map (Value.int .i64)).length = m := by simp
  have hZ := zeros_list m
  have h1 : ∀ u ∈ (List.replicate m (0 : Int)).map (Value.int .i64), u.oneCell' = true := by
    intro u hu
    simp only [List.mem_map] at hu
    obtain ⟨z, _, rfl⟩ := hu
    rfl
  generalize (List.replicate m (0 : Int)).map (Value.int .i64) = news at *
  have hlen : (xs ++ news).length = n + m := by rw [List.length_append, hown.1, hl]; omega
  have hw : IntKind.i64.wrap (m : Int) = m := by rw [IntKind.wrap_i64]; omega
  have hneg : ¬ ((m : Int) < 0) := by omega
  have hmb : m * i.bytes ≤ m * 8 := Nat.mul_le_mul_left _ hby
  have h48i : ¬ (281474976710656 < (m : Int) * (i.bytes : Int)) := by
    rw [← Int.natCast_mul]
    omega
  rcases hown.2 with ⟨rfl, rfl⟩ | ⟨g, cap, cur, rfl, hbg, hg, hnc, hcm, hcs, htake⟩
  · omega
  · by_cases hroom : n + m ≤ cap
    · have hst := run_storeCells_at P g n e news 0 cur w hg (by simp [hl]; omega) h1
      simp only [Nat.add_zero] at hst
      have hr : (Builtin.append_ #[t, tn] ty #[.slice (some ⟨g, 0, none⟩) n cap, .int k m]).run P w = .ok (.slice (some ⟨g, 0, none⟩) (n + m) cap) (w.setRow g (cur.toList.take n ++ news ++ cur.toList.drop (n + news.length)).toArray) := by
        by_cases hm0 : m = 0
        · subst hm0
          have hn0 : news = [] := List.eq_nil_of_length_eq_zero hl
          subst hn0
          have hw0 : IntKind.i64.wrap 0 = 0 := by decide
          simp [Addr.add_lit] at hst
          simp [Builtin.append_, run_underlying ht, run_underlying htn, sizeOf, typeInfo, zeroValue, hi, hz, hsize, asInt, asIntOf, hw0, Addr.add_lit, hnc, hst]
        · simp [Builtin.append_, run_underlying ht, run_underlying htn, sizeOf, typeInfo, zeroValue, hi, hz, hsize, asInt, asIntOf, hw, hneg, h48i, hroom, hm0, hZ, Addr.add_lit, hst]
      refine ⟨_, _, hr, ⟨by rw [hlen, Nat.mul_one], .inr ⟨g, cap, _, rfl, hbg, setRow_heap w g cur _ e _ hg, hroom, hcm, ?_, ?_⟩⟩, ⟨rfl, rfl, rfl, by simp, fun k _ hk => setRow_other w g k _ (fun e => hk (by simp [Value.ownBlock, e]))⟩⟩
      · simp only [List.size_toArray, List.length_append, List.length_take, List.length_drop, Array.length_toList]
        omega
      · rw [Nat.mul_one] at htake ⊢
        rw [htake, ← hlen]
        exact List.take_left
    · have holds : ∀ j u, xs[j]? = some u → w.cell? ((⟨g, 0, none⟩ : Addr).add j) = some u := hown.cells (g := g) rfl
      have hm0 : ¬ m = 0 := by omega
      have h63' : ¬ (9223372036854775807 < ((n : Int) + (m : Int))) := by omega
      have hfit := growslice_fits (need := n + m) (old := cap) (bytes := i.bytes) (by omega) (by have := Nat.mul_le_mul_left (n + m) hby; omega)
      have h48' : ¬ (281474976710656 < Builtin.nextslicecap (n + m) cap * i.bytes) := by omega
      have hfo := run_firstCells_some (P := P) w.drew 1 n ⟨g, 0, none⟩ n cap xs hown.1 (by simpa using holds)
      have hr : (Builtin.append_ #[t, tn] ty #[.slice (some ⟨g, 0, none⟩) n cap, .int k m]).run P w = .ok (.slice (some ⟨w.heap.size, 0, none⟩) (n + m) (grownCap w (n + m) cap e))
          (w.drew.alloc (.cells (xs.toArray ++ news.toArray ++ Builtin.zeroCells (Value.int .i64 0).cells (grownCap w (n + m) cap e - (n + m))) e)) := by
        simp [Builtin.append_, run_underlying ht, run_underlying htn, sizeOf, typeInfo, zeroValue, hi, hz, hsize, asInt, asIntOf, hw, hneg, h48i, hroom, hm0, hZ, h63', h48', Question.forced, hfo, newRow, grownCap]
        congr 2
        apply Array.ext'
        simp [List.append_assoc]
      have hge := grownCap_ge w (n + m) cap e
      have hcm2 : grownCap w (n + m) cap e ≤ maxLen := grownCap_le_maxLen w (n + m) cap e (by unfold maxLen; omega)
      refine ⟨_, _, hr, ⟨by rw [hlen, Nat.mul_one], .inr ⟨w.heap.size, _, _, rfl, hbase, heap_alloc_new w.drew _, hge, hcm2, ?_, ?_⟩⟩, ⟨rfl, rfl, rfl, by simp, fun j hj _ => heap_alloc_old w.drew _ hj⟩⟩
      · have hx := hown.1
        simp only [Array.size_append, List.size_toArray, size_zeroCells, hl, Value.cells]
        simp
        omega
      · rw [Nat.mul_one]
        simp only [Array.toList_append, List.append_assoc]
        rw [← List.append_assoc, ← hlen]
        exact List.take_left

theorem OVI.appZ {w w' : World} {B : Nat} {v v' : Value} {zs : List Int} {n m : Nat} (h : OVI w B v zs) (hn : zs.length = n) (h2 : w'.ownsRow B 3 1 v' (n + m) (zs.map (Value.int .i64) ++ (List.replicate m (0 : Int)).map (Value.int .i64))) : OVI w' B v' (zs ++ List.replicate m 0) := by
  refine ⟨?_, ?_⟩
  · rw [List.length_append, List.length_replicate, hn, List.map_append]
    exact h2
  · intro z hz
    rcases List.mem_append.1 hz with hz | hz
    · exact h.2 z hz
    · have := List.eq_of_mem_replicate hz
      omega
theorem wpList_append_zer {ops : Array Oper} {rest : List Oper} {o : Oper} {a : Act} {Q : Exit → Act → World → Prop} {w : World} (hgd : o.guard = none) (s x : Operand)
    (ho : o.op = .call { callee := .builtin .append, args := #[s, x], argTypes := #[37, 3] })
    (B : Nat) (v : Value) (zs : List Int) (hs : a.eval s = v) (hown : OVI w B v zs) (m : Nat) (hx : a.eval x = .int .i64 (m : Nat)) (hp : 0 < zs.length) (hb1 : zs.length + m ≤ 1000000) (hbase : B ≤ w.heap.size)
    (h : ∀ v' w', OVI w' B v' (zs ++ List.replicate m 0) → w.grownBy w' v.ownBlock → wpList Tryz.prog ops Q rest (a.put o.dst v') w') : wpList Tryz.prog ops Q (o :: rest) a w := by
  obtain ⟨i0, hi, hz0, hz1, hz2⟩ := info_parts Tryz.infoI64
  obtain ⟨v', w', hr, h2, h3⟩ := run_append_zer (P := Tryz.prog) w B 37 3 o.type 3 i0 .i64 .i64 Tryz.underlying37 Tryz.underlying3 hi hz0 hz1 (by rw [hz2]; omega) v zs.length hp _ hown.1 m hb1 hbase
  refine wpList_plain hgd fun K hK' => ?_
  unfold Oper.wp execOp
  simp only [ho, resolve, invoke, builtin, Sem.run_bind, Sem.run_pure, Result.andThen_ok, List.map_toArray, List.map_cons, List.map_nil, hs, hx, hr]
  exact hK' _ _ (h v' w' (hown.appZ rfl h2) h3)
theorem appI_below {w0 wr w1 : World} {B : Nat} {v : Value} {zs : List Int} (hbel : Below B w0 wr) (hB : B ≤ wr.heap.size) (h : OVI wr B v zs) (hg : wr.grownBy w1 v.ownBlock) : Below B w0 w1 :=
  hbel.grown hg hB (fun k hk => h.blk hk)
theorem OVI.blk_ne {w : World} {B : Nat} {v : Value} {zs : List Int} (h : OVI w B v zs) {Q : Nat} {cur : Array Value} {T : TypeId} (hQ : w.heap[Q]? = some (.cells cur T (0, 0))) (hT : T ≠ 3) : some Q ≠ v.ownBlock := by
  rcases h.1.2 with ⟨rfl, h0⟩ | ⟨g, cap, cur', rfl, hg, hh, _⟩
  · simp [Value.ownBlock]
  · simp only [Value.ownBlock, ne_eq, Option.some.injEq]
    rintro rfl
    rw [hQ] at hh
    simp at hh
    exact hT hh.2
theorem grown_blkI {w w' : World} {row : Option Nat} (hg : w.grownBy w' row) {Q : Nat} {o : Obj} (hQ : w.heap[Q]? = some o) (hne : some Q ≠ row) : w'.heap[Q]? = some o := (hg.block Q (Array.getElem?_eq_some_iff.1 hQ).1 hne).trans hQ
theorem OVI.ins {w : World} {B : Nat} {a : Option Addr} {n c : Nat} {zs : List Int} (h : OVI w B (.slice a n c) zs) : Ins w a zs := by
  obtain ⟨a', c', e, hm⟩ := h.mine
  obtain ⟨rfl, -, -⟩ : a = a' ∧ n = zs.length ∧ c = c' := by simpa using e
  exact hm.byt
theorem OVI.below {w w' : World} {B : Nat} {v : Value} {zs : List Int} (h : OVI w B v zs) (hb : Below w.heap.size w w') : OVI w' B v zs := h.only (Only.ofBelow (S := fun _ => False) hb (Nat.le_refl _)) (by simp)
end Go.Proofs.YtapdejphceflaaaGreatDoor
namespace Go.Proofs.YtapdejphceflaaaGreatDoor
open Go.RowKit
set_option linter.unusedVariables false

theorem all_take_succ {p : Int → Prop} {zs : List Int} {k : Nat} (h : ∀ z ∈ zs.take k, p z) (hk : k < zs.length) (hp : p (zs.getD k 0)) : ∀ z ∈ zs.take (k + 1), p z := by
  intro z hz
  rw [List.take_succ_eq_append_getElem hk] at hz
  rcases List.mem_append.1 hz with hz | hz
  · exact h z hz
  · simp at hz
    subst hz
    simpa [List.getD_eq_getElem?_getD, List.getElem?_eq_getElem hk] using hp

theorem getD_mem {zs : List Int} {k : Nat} (hk : k < zs.length) : zs.getD k 0 ∈ zs := by
  rw [List.getD_eq_getElem?_getD, List.getElem?_eq_getElem hk]; exact List.getElem_mem hk

end Go.Proofs.YtapdejphceflaaaGreatDoor
namespace Go.Proofs.YtapdejphceflaaaGreatDoor
open Go.RowKit
set_option linter.unusedVariables false

def sumF (f : Int → Int) (zs : List Int) : Int := (zs.map f).sum
theorem sumF_succ (f : Int → Int) (zs : List Int) (k : Nat) (h : k < zs.length) : sumF f (zs.take (k + 1)) = sumF f (zs.take k) + f (zs.getD k 0) := by
  unfold sumF
  rw [List.take_succ_eq_append_getElem h, List.map_append, List.sum_append]
  simp [List.getD_eq_getElem?_getD, List.getElem?_eq_getElem h]
theorem sumF_bnd (f : Int → Int) (m : Int) (hf : ∀ z, 0 ≤ f z ∧ f z ≤ m) (zs : List Int) : 0 ≤ sumF f zs ∧ sumF f zs ≤ m * zs.length := by
  unfold sumF
  induction zs with
  | nil => simp
  | cons z zs ih =>
    have := hf z
    simp only [List.map_cons, List.sum_cons, List.length_cons]
    rw [show m * ((zs.length + 1 : Nat) : Int) = m * zs.length + m from by rw [Int.natCast_add, Int.mul_add]; simp]
    omega
/-- Has a code. -/
def one (z : Int) : Int := if 0 < z then 1 else 0
theorem one_bnd (z : Int) : 0 ≤ one z ∧ one z ≤ 1 := by unfold one; split <;> omega
end Go.Proofs.YtapdejphceflaaaGreatDoor
namespace Go.Proofs.YtapdejphceflaaaGreatDoor
open Go.RowKit
set_option linter.unusedVariables false

/-- What a code takes of 2^12. -/
def share (z : Int) : Int := if 0 < z then 2 ^ (12 - z).toNat else 0
theorem pow_bnd (n : Nat) (h : n ≤ 12) : (1 : Int) ≤ 2 ^ n ∧ (2 : Int) ^ n ≤ 4096 := by
  have h1 : 1 ≤ 2 ^ n := Nat.pow_pos (by omega)
  have h2 : 2 ^ n ≤ 2 ^ 12 := Nat.pow_le_pow_right (by omega) h
  have e : ((2 : Int) ^ n) = ((2 ^ n : Nat) : Int) := by simp
  rw [e]
  omega
theorem share_bnd (z : Int) : 0 ≤ share z ∧ share z ≤ 4096 := by
  unfold share
  split
  · have := pow_bnd (12 - z).toNat (by omega); omega
  · omega
theorem wrapPow (n : Nat) (h : n ≤ 12) : wrap64 (2 ^ n) = 2 ^ n := by
  have := pow_bnd n h
  generalize (2 : Int) ^ n = y at *
  exact IntWalk.wrap64_in _ (by omega)

/-- What LensOk tells. -/
def lensB (zs : List Int) : Bool := decide (1 ≤ zs.length ∧ zs.length ≤ 80 ∧ (∀ z ∈ zs, 0 ≤ z ∧ z ≤ 12) ∧ (sumF one zs = 1 ∧ sumF share zs = 2048 ∨ 1 < sumF one zs ∧ sumF share zs = 4096))
theorem lensB_bad {zs : List Int} {k : Nat} (hk : k < zs.length) (h : ¬ (0 ≤ zs.getD k 0 ∧ zs.getD k 0 ≤ 12)) : lensB zs = false := by
  simp only [lensB, decide_eq_false_iff_not]
  exact fun h' => h (h'.2.2.1 _ (getD_mem hk))
theorem lensB_len {zs : List Int} (h : ¬ (1 ≤ zs.length ∧ zs.length ≤ 80)) : lensB zs = false := by
  simp only [lensB, decide_eq_false_iff_not]
  exact fun h' => h ⟨h'.1, h'.2.1⟩
theorem lensB_all {zs : List Int} (h1 : 1 ≤ zs.length) (h2 : zs.length ≤ 80) (h : ∀ z ∈ zs.take zs.length, 0 ≤ z ∧ z ≤ 12) : lensB zs = decide (sumF one zs = 1 ∧ sumF share zs = 2048 ∨ 1 < sumF one zs ∧ sumF share zs = 4096) := by
  rw [List.take_length] at h
  simp only [lensB]
  apply decide_eq_decide.2
  exact ⟨fun h' => h'.2.2.2, fun h' => ⟨h1, h2, h, h'⟩⟩

set_option maxHeartbeats 800000 in
theorem l2full_any (a : Option Addr) (cap : Nat) (zs : List Int) (w : World) (hb : Ins w a zs) (h80 : zs.length ≤ 80) (hok : ∀ z ∈ zs, 0 ≤ z ∧ z ≤ 12) :
    Calls Tryz.prog 54 #[.slice a zs.length cap] w fun e w' => e = .returned (.int .i64 (sumF share zs)) ∧ w' = w := by
  have HOK : Hid (∀ z ∈ zs, 0 ≤ z ∧ z ≤ 12) := hok
  clear hok
  generalize hlen : zs.length = n at *
  have HL : Hid (zs.length = n) := hlen
  clear hlen
  go_enter Tryz.func54, Tryz.ntmps54
  go_wp2
  go_loop [3, 4] (fun x i => ∃ k : Nat, k ≤ n ∧ i = .int .i64 k ∧ x = .int .i64 (sumF share (zs.take k))) (fun _ i => n - (intOf i).toNat)
  case atStart => exact ⟨0, Nat.zero_le _, rfl, by simp [sumF]⟩
  case round =>
    obtain ⟨k, hk, rfl, rfl⟩ := hrel
    by_cases hlt : k < n
    · obtain ⟨b1, o1, rfl, hb1, hc1⟩ := hb.len_pos k (by rw [HL.out]; exact hlt)
      have hs1 := hc1 k (by rw [HL.out]; exact hlt)
      have g1 := HOK.out _ (getD_mem (k := k) (by rw [HL.out]; exact hlt))
      have hF := sumF_bnd share 4096 share_bnd (zs.take k)
      have hF2 : (zs.take k).length ≤ 80 := by rw [List.length_take, HL.out]; omega
      have HS : Hid (sumF share (zs.take (k + 1)) = sumF share (zs.take k) + share (zs.getD k 0)) := sumF_succ share zs k (by rw [HL.out]; exact hlt)
      clear hc1 hb
      generalize zs.getD k 0 = x at *
      generalize hFF : sumF share (zs.take k) = F at *
      have hFb : 0 ≤ F ∧ F ≤ 327680 := by omega
      clear hF hF2 hFF
      by_cases h3 : 0 < x
      · have hp := pow_bnd (12 - x).toNat (by omega)
        have hw := wrapPow (12 - x).toNat (by omega)
        have HP : Hid (share x = 2 ^ (12 - x).toNat) := by simp [Hid, share, h3]
        have HW : Hid (wrap64 (F + 2 ^ (12 - x).toNat) = F + 2 ^ (12 - x).toNat) := IntWalk.wrap64_in _ (by omega)
        clear hp
        have HWP : Hid _ := hw
        clear hw
        go_wp2
        go_round
        case rel => exact ⟨k + 1, by omega, by go_num, by rw [HS.out, HP.out, HWP.out, HW.out]⟩
        case measure => simp [intOf]; omega
      · have HP : Hid (share x = 0) := by simp [Hid, share, h3]
        go_wp2
        go_round
        case rel => exact ⟨k + 1, by omega, by go_num, by rw [HS.out, HP.out]; simp⟩
        case measure => simp [intOf]; omega
    · have hkn : k = n := by omega
      subst hkn
      have e : zs.take k = zs := List.take_of_length_le (by rw [HL.out]; exact Nat.le_refl _)
      rw [e]
      go_wp2
      go_ret
      exact ⟨rfl, rfl⟩

theorem lensB_ok {zs : List Int} (h : lensB zs = true) : 1 ≤ zs.length ∧ zs.length ≤ 80 ∧ ∀ z ∈ zs, 0 ≤ z ∧ z ≤ 12 := by
  simp only [lensB, decide_eq_true_eq] at h
  exact ⟨h.1, h.2.1, h.2.2.1⟩
end Go.Proofs.YtapdejphceflaaaGreatDoor
