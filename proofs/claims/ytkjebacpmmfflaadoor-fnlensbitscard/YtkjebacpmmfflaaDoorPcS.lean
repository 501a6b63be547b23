/-
  roundList of the program: coins and packs, in their order.
-/
import Derived.Test.YtkjebacpmmfflaaDoorPcR
namespace Go.Proofs.YtkjebacpmmfflaaDoor
open Go.RowKit
set_option linter.unusedVariables false
set_option linter.unusedSimpArgs false

theorem cell_blk {w : World} {R j : Nat} {cur : Array Value} {T : TypeId} {v : Value} (hR : w.heap[R]? = some (.cells cur T (0, 0))) (hv : cur[j]? = some v) : w.cell? ⟨R, j, none⟩ = some v := by
  rw [cell_of_row w R j cur T (0, 0) hR]; exact hv
theorem OVV.apart {w : World} {B T : Nat} {v : Value} {ps : List Pc} (h : OVV w B v ps) (hT : T < B) : v.ownBlock ≠ some T := fun e => by
  have := (World.ownsRow.lt h T e).1
  omega
theorem Tryd.assert_coin (v : Value) (w : World) : (Instr.typeAssert (.iface 93 v) 20 56 true).run Tryd.prog w = .ok (.tuple #[.iface 93 v, .bool true]) w := by kernel_rfl
theorem Tryd.assert_pack (v : Value) (w : World) : (Instr.typeAssert (.iface 101 v) 20 56 true).run Tryd.prog w = .ok (.tuple #[.iface 101 v, .bool true]) w := by kernel_rfl
theorem assert_pc (p : Pc) (w : World) : (Instr.typeAssert p.vl 20 56 true).run Tryd.prog w = .ok (.tuple #[p.vl, .bool true]) w := by
  cases p
  · exact Tryd.assert_coin _ w
  · exact Tryd.assert_pack _ w

theorem rl_two {w w1 : World} {b : Option Addr} {d : Nat} {cs : List Pc} (h : OVV w1 (w.heap.size + 1) (.slice b cs.length d) cs) (hb : Below w.heap.size w w1) (hB : w1.heap[w.heap.size]? = some (.cells #[.slice none 0 0] 94 (0, 0))) :
    Below w.heap.size w (w1.setCell ⟨w.heap.size, 0, none⟩ (.slice b cs.length d)) ∧ (w1.setCell ⟨w.heap.size, 0, none⟩ (.slice b cs.length d)).heap[w.heap.size]? = some (.cells #[.slice b cs.length d] 94 (0, 0)) ∧ OVV (w1.setCell ⟨w.heap.size, 0, none⟩ (.slice b cs.length d)) (w.heap.size + 1) (.slice b cs.length d) cs := by
  refine ⟨hb.setCell (Nat.le_refl _) _, ?_, h.off ((Only.refl (fun k => k = w.heap.size) w1).setCell (p := ⟨w.heap.size, 0, none⟩) (.inl rfl) _) (h.apart (Nat.lt_succ_self _))⟩
  rw [heap_setCell_same _ _ 0 _ _ _ hB]
  rfl
theorem rl_three {w W2 w3 : World} {v v3 : Value} {cs ks : List Pc} {N : Nat} (hb : Below w.heap.size w W2) (h : OVV W2 (w.heap.size + 1) v cs) (hg : W2.grownBy w3 v.ownBlock) (ho : OVV w3 (w.heap.size + 1) v3 (cs ++ ks)) (hN : N = (cs ++ ks).length) :
    ∃ b3 d3, v3 = .slice b3 N d3 ∧ OVV w3 (w.heap.size + 1) (.slice b3 N d3) (cs ++ ks) ∧ Below w.heap.size w w3 ∧ N = (cs ++ ks).length := by
  obtain ⟨b3, d3, rfl, -, -⟩ := ho.slice
  rw [← hN] at ho ⊢
  exact ⟨b3, d3, rfl, ho, hb.grown hg hb.size (fun j hj => by have := (World.ownsRow.lt h j hj).1; omega), rfl⟩

/-- The heap as roundList has laid it. -/
theorem rl_heap {w w3 : World} {b1 b3 : Option Addr} {n1 d1 N d3 : Nat} {ps : List Pc} (h : OVV w3 (w.heap.size + 1) (.slice b3 N d3) ps) (hb : Below w.heap.size w w3) (hN : N = ps.length) (hB : w3.heap[w.heap.size]? = some (.cells #[.slice b1 n1 d1] 94 (0, 0))) (h1 : 1 ≤ ps.length) (hf : ∀ p ∈ ps, p.fine) :
    ∃ g, b3 = some ⟨g, 0, none⟩ ∧ HpS (w3.setCell ⟨w.heap.size, 0, none⟩ (.slice b3 N d3)) w.heap.size w.heap.size g d3 ps ∧ Below w.heap.size w (w3.setCell ⟨w.heap.size, 0, none⟩ (.slice b3 N d3)) := by
  rcases h.form with ⟨e, rfl⟩ | ⟨g, c, e, ho⟩
  · simp at h1
  · simp only [Value.slice.injEq] at e
    obtain ⟨rfl, -, rfl⟩ := e
    have ho2 := h.mono (Nat.le_succ w.heap.size)
    have ha := h.apart (T := w.heap.size) (Nat.lt_succ_self _)
    have hoff := ho2.off ((Only.refl (fun k => k = w.heap.size) w3).setCell (p := ⟨w.heap.size, 0, none⟩) (.inl rfl) (.slice (some ⟨g, 0, none⟩) N d3)) ha
    subst hN
    refine ⟨g, rfl, ⟨?_, hoff, hf⟩, hb.setCell (Nat.le_refl _) _⟩
    rw [heap_setCell_same _ _ 0 _ _ _ hB]
    rfl
def lenV (v : Value) : Nat := match v with
  | .slice _ n _ => n
  | _ => 0
theorem HpS.grown {W W' : World} {B H g cap : Nat} {ps : List Pc} {row : Option Nat} (h : HpS W B H g cap ps) (hg : W.grownBy W' row) (h1 : row ≠ some g) (h2 : row ≠ some H) : HpS W' B H g cap ps :=
  ⟨(hg.block H h.lt (fun e => h2 e.symm)).trans h.blk, World.ownsRow.kept h.row hg (.inr (fun e => h1 e.symm)), h.fin⟩
theorem OVV.tagne {w : World} {B : Nat} {v : Value} {ps : List Pc} (h : OVV w B v ps) {Q : Nat} {cur : Array Value} {T : TypeId} (hQ : w.heap[Q]? = some (.cells cur T (0, 0))) (hT : T ≠ 56) : v.ownBlock ≠ some Q := by
  rcases h.form with ⟨rfl, _⟩ | ⟨g, c, rfl, ho⟩
  · simp [Value.ownBlock]
  · simp only [Value.ownBlock, ne_eq, Option.some.injEq]
    rintro rfl
    obtain ⟨cur', hc⟩ := ho.tag
    rw [hQ] at hc
    simp at hc
    exact hT hc.2

/-- One more of the list, the least of what is left. -/
theorem rl_step {ps qs l A : List Pc} {n : Nat} (hn : ps.length = n + 1) (ho : HO ps 0 (n + 1) (n + 1)) (hq : (ps.getD 0 dpc :: qs).Perm ps) (hpm : (l ++ ps).Perm A) (hpw : l.Pairwise (fun p q => p.key ≤ q.key)) (hle : ∀ p ∈ l, ∀ q ∈ ps, p.key ≤ q.key) :
    (l ++ [ps.getD 0 dpc] ++ qs).Perm A ∧ (l ++ [ps.getD 0 dpc]).Pairwise (fun p q => p.key ≤ q.key) ∧ ∀ p ∈ l ++ [ps.getD 0 dpc], ∀ q ∈ qs, p.key ≤ q.key := by
  have hmin : ∀ q ∈ ps, (ps.getD 0 dpc).key ≤ q.key := fun q hq => by
    obtain ⟨i, hi, rfl⟩ := List.getElem_of_mem hq
    have := HO_min ho i (by omega)
    unfold kAt at this
    rw [show ps.getD i dpc = ps[i] by simp [List.getD_eq_getElem?_getD, hi]] at this
    exact this
  have h0 : ps.getD 0 dpc ∈ ps := hq.mem_iff.1 (by simp)
  have hin : ∀ q ∈ qs, q ∈ ps := fun q h => hq.mem_iff.1 (by simp [h])
  refine ⟨?_, ?_, ?_⟩
  · rw [List.append_assoc]
    exact (List.Perm.append_left l hq).trans hpm
  · rw [List.pairwise_append]
    exact ⟨hpw, by simp, fun a ha b hb => by simp at hb; subst hb; exact hle a ha _ h0⟩
  · intro p hp q hq'
    rcases List.mem_append.1 hp with hp | hp
    · exact hle p hp q (hin q hq')
    · simp at hp
      subst hp
      exact hmin q (hin q hq')
theorem OVV.onlyS {S : Nat → Prop} {w w' : World} {B : Nat} {v : Value} {ps : List Pc} (h : OVV w B v ps) (ho : Only S w w') (hs : ∀ k, v.ownBlock = some k → ¬ S k) : OVV w' B v ps := by
  refine ⟨h.1, ?_⟩
  rcases h.2 with h' | ⟨g, cap, cur, rfl, hg, hh, r⟩
  · exact .inl h'
  · exact .inr ⟨g, cap, cur, rfl, hg, (ho.block g (Array.getElem?_eq_some_iff.1 hh).1 (hs g rfl)).trans hh, r⟩
/-- Behind the append to the list: the heap, the list, both apart. -/
theorem rl_app {w w7 w9 : World} {B g cap : Nat} {qs l : List Pc} {p : Pc} {v v9 : Value} {o : Obj} (hps : HpS w7 B B g cap qs) (hov : OVV w7 B v l) (hne : v.ownBlock ≠ some g) (hb : Below B w w7) (hBw : B ≤ w.heap.size) (h9 : OVV w9 B v9 (l ++ [p])) (hg : (w7.alloc o).grownBy w9 v.ownBlock) (hat : v9.ownBlock = v.ownBlock ∨ v9.ownBlock = some (w7.alloc o).heap.size) :
    HpS w9 B B g cap qs ∧ v9.ownBlock ≠ some g ∧ Below B w w9 := by
  have hal : Below w7.heap.size w7 (w7.alloc o) := (Below.refl _ _).alloc (Nat.le_refl _) _
  have h7 := hps.below hal
  refine ⟨h7.grown hg hne (hov.tagne hps.blk (by decide)), ?_, ?_⟩
  · rcases hat with h | h
    · rw [h]; exact hne
    · rw [h]
      have := hps.row.lt.2
      simp
      omega
  · have hb7 : Below B w (w7.alloc o) := hb.alloc (Nat.le_trans hBw hb.size) _
    exact hb7.grown hg (Nat.le_trans hBw hb7.size) (fun j hj => (World.ownsRow.lt hov j hj).1)

theorem pcs_one (w : World) (p : Pc) : Pcs (w.alloc (Obj.cells #[p.vl] 56)) (some ⟨w.heap.size, 0, none⟩) [p] := fun _ =>
  ⟨w.heap.size, 0, rfl, by simp, fun i hi => by
    have hi0 : i = 0 := by simpa using hi
    subst hi0
    exact cell_blk (heap_alloc_new w _) rfl⟩

set_option maxRecDepth 20000 in
set_option maxHeartbeats 8000000 in
theorem roundList_any (a1 a2 : Option Addr) (c1 c2 : Nat) (cs ks : List Pc) (w : World) (h1 : Pcs w a1 cs) (h2 : Pcs w a2 ks) (hf : ∀ p ∈ cs ++ ks, p.fine) (hl : cs.length + ks.length ≤ 900) (hc : 1 ≤ cs.length) :
    Calls Tryd.prog 31 #[.slice a1 cs.length c1, .slice a2 ks.length c2] w fun e w' => ∃ (v : Value) (l : List Pc), e = .returned v ∧ OVV w' w.heap.size v l ∧ l.Perm (cs ++ ks) ∧ l.Pairwise (fun p q => p.key ≤ q.key) ∧ Below w.heap.size w w' := by
  have HP : Hid (Pcs w a1 cs ∧ Pcs w a2 ks ∧ (∀ p ∈ cs ++ ks, p.fine) ∧ cs.length + ks.length ≤ 900 ∧ 1 ≤ cs.length) := ⟨h1, h2, hf, hl, hc⟩
  clear h1 h2 hf hl hc
  have HW0 : Hid (Below w.heap.size w (w.alloc (Obj.cells #[Value.slice none 0 0] 94)) ∧ (w.alloc (Obj.cells #[Value.slice none 0 0] 94)).heap[w.heap.size]? = some (.cells #[.slice none 0 0] 94 (0, 0)) ∧ (w.alloc (Obj.cells #[Value.slice none 0 0] 94)).heap.size = w.heap.size + 1) := ⟨(Below.refl _ _).alloc (Nat.le_refl _) _, heap_alloc_new w _, by simp⟩
  go_enter Tryd.func31, Tryd.ntmps31
  go_wp2_with (first
    | (at_builtin; (refine wpList_append_pc (v := .slice none 0 0) rfl (.tmp 9) (.tmp 10) 94 53 rfl Tryd.underlying94 Tryd.underlying53 rfl rfl rfl (OVV.nil _ (w.heap.size + 1)) (HP.out.1.below HW0.out.1) (by have := HP.out.2.2.2.1; simp only [List.length_nil]; omega) (by have := HW0.out.2.2; omega) ?_; intro v1 w1 hov1 hg1 hat1; rw [List.nil_append] at hov1; obtain ⟨b1, d1, rfl, -, -⟩ := hov1.slice; have HB1 : Hid (w1.heap[w.heap.size]? = some (.cells #[.slice none 0 0] 94 (0, 0))) := (hg1.block _ (by have := HW0.out.2.2; omega) (by simp [Value.ownBlock])).trans HW0.out.2.1; have f1 := frozen_of_row w1 w.heap.size 0 _ _ HB1.out; have x1 : w1.cell? ⟨w.heap.size, 0, none⟩ = some (.slice none 0 0) := cell_blk HB1.out rfl; have HO1 : Hid (OVV w1 (w.heap.size + 1) (.slice b1 cs.length d1) cs ∧ Below w.heap.size w w1) := ⟨hov1, HW0.out.1.grown hg1 (by have := HW0.out.2.2; omega) (by simp [Value.ownBlock])⟩; clear hov1 hg1 hat1; have HW2 : Hid (Below w.heap.size w (w1.setCell ⟨w.heap.size, 0, none⟩ (.slice b1 cs.length d1)) ∧ (w1.setCell ⟨w.heap.size, 0, none⟩ (.slice b1 cs.length d1)).heap[w.heap.size]? = some (.cells #[.slice b1 cs.length d1] 94 (0, 0)) ∧ OVV (w1.setCell ⟨w.heap.size, 0, none⟩ (.slice b1 cs.length d1)) (w.heap.size + 1) (.slice b1 cs.length d1) cs) := rl_two HO1.out.1 HO1.out.2 HB1.out))
    | (at_builtin; (refine wpList_append_pc (v := .slice b1 cs.length d1) rfl (.tmp 12) (.tmp 13) 94 53 rfl Tryd.underlying94 Tryd.underlying53 rfl rfl rfl HW2.out.2.2 (HP.out.2.1.below HW2.out.1) (by have := HP.out.2.2.2.1; omega) (by have := (Array.getElem?_eq_some_iff.1 HW2.out.2.1).1; omega) ?_; intro v3 w3 hov3 hg3 hat3; have HB3 : Hid (w3.heap[w.heap.size]? = some (.cells #[.slice b1 cs.length d1] 94 (0, 0))) := (hg3.block _ (Array.getElem?_eq_some_iff.1 HW2.out.2.1).1 (fun e => HW2.out.2.2.apart (Nat.lt_succ_self _) e.symm)).trans HW2.out.2.1; obtain ⟨N, hN⟩ : ∃ N, N = (cs ++ ks).length := ⟨_, rfl⟩; have HO3 : Hid (∃ b3 d3, v3 = .slice b3 N d3 ∧ OVV w3 (w.heap.size + 1) (.slice b3 N d3) (cs ++ ks) ∧ Below w.heap.size w w3 ∧ N = (cs ++ ks).length) := rl_three HW2.out.1 HW2.out.2.2 hg3 hov3 hN; obtain ⟨b3, d3, hv3, hx3⟩ := HO3.out; subst hv3; have HX3 : Hid _ := hx3; have f3 := frozen_of_row w3 w.heap.size 0 _ _ HB3.out; have x3 : w3.cell? ⟨w.heap.size, 0, none⟩ = some (.slice b1 cs.length d1) := cell_blk HB3.out rfl; clear hov3 hg3 hat3 HO3 hN hx3 f1 x1)))
  have hLN : (cs ++ ks).length = cs.length + ks.length := List.length_append
  obtain ⟨g, hb3, hps, hb4⟩ := rl_heap HX3.out.1 HX3.out.2.1 HX3.out.2.2 HB3.out (by have := HP.out.2.2.2.2; omega) HP.out.2.2.1
  have HI := init_any w.heap.size w.heap.size g d3 (cs ++ ks) _ hps (by have := HP.out.2.2.2.1; omega)
  have HL4 : Hid (Below w.heap.size w (w3.setCell ⟨w.heap.size, 0, none⟩ (.slice b3 N d3)) ∧ (cs ++ ks).length ≤ 900 ∧ w.heap.size ≤ g) := ⟨hb4, by have := HP.out.2.2.2.1; omega, hps.row.lt.1⟩
  clear hLN hps hb4 f3 x3 HX3 HB3 HW2 HO1 HB1 HW0
  subst hb3
  refine HI.mono ?_
  clear HI
  rintro e w5 ⟨rfl, qs, hpm, hps, hho, hon⟩
  have H5 : Hid (qs.Perm (cs ++ ks) ∧ HpS w5 w.heap.size w.heap.size g d3 qs ∧ HO qs 0 qs.length qs.length ∧ Below w.heap.size w w5) := ⟨hpm, hps, by rw [hpm.length_eq]; exact hho, HL4.out.1.trans (hon.below HL4.out.1.size (fun j hj => by rw [hj]; exact HL4.out.2.2))⟩
  clear hpm hps hho hon
  go_wp2
  go_loopw [6] (fun lv W => ∃ (ps l : List Pc), HpS W w.heap.size w.heap.size g d3 ps ∧ HO ps 0 ps.length ps.length ∧ OVV W w.heap.size lv l ∧ lv.ownBlock ≠ some g ∧ (l ++ ps).Perm (cs ++ ks) ∧ l.Pairwise (fun p q => p.key ≤ q.key) ∧ (∀ p ∈ l, ∀ q ∈ ps, p.key ≤ q.key) ∧ Below w.heap.size w W) (fun lv _ => 1000 - lenV lv)
  case atStart => exact ⟨qs, [], H5.out.2.1, H5.out.2.2.1, OVV.nil _ _, by simp [Value.ownBlock], by simpa using H5.out.1, List.Pairwise.nil, by simp, H5.out.2.2.2⟩
  case round =>
    obtain ⟨ps, l, hps, hho, hov, hne, hpm, hpw, hle, hbel⟩ := hrel
    have HR : Hid (HpS wr w.heap.size w.heap.size g d3 ps ∧ HO ps 0 ps.length ps.length ∧ OVV wr w.heap.size u6 l ∧ u6.ownBlock ≠ some g ∧ (l ++ ps).Perm (cs ++ ks) ∧ l.Pairwise (fun p q => p.key ≤ q.key) ∧ (∀ p ∈ l, ∀ q ∈ ps, p.key ≤ q.key) ∧ Below w.heap.size w wr) := ⟨hps, hho, hov, hne, hpm, hpw, hle, hbel⟩
    have hll : l.length + ps.length ≤ 900 := by have := hpm.length_eq; rw [List.length_append] at this; have := HL4.out.2.1; omega
    have c0 := hps.c0
    have hlt := hps.lt
    have HLEN := len_any (some ⟨g, 0, none⟩) ps.length d3 wr
    clear hps hho hov hne hpm hpw hle hbel
    by_cases h0 : ps.length = 0
    · have hp0 : ps = [] := List.length_eq_zero_iff.1 h0
      have HE : Hid (OVV wr w.heap.size u6 l ∧ l.Perm (cs ++ ks) ∧ l.Pairwise (fun p q => p.key ≤ q.key) ∧ Below w.heap.size w wr) := by
        obtain ⟨_, _, h3, _, h5, h6, _, h8⟩ := HR.out
        rw [hp0, List.append_nil] at h5
        exact ⟨h3, h5, h6, h8⟩
      rw [h0] at c0 HLEN
      clear h0 hp0 HR hll hlt
      go_wp2_with fail
      refine HLEN.mono ?_
      clear HLEN
      rintro e w6 ⟨rfl, rfl⟩
      go_wp2
      go_ret
      exact ⟨_, l, rfl, HE.out.1, HE.out.2.1, HE.out.2.2.1, HE.out.2.2.2⟩
    · obtain ⟨n, hn⟩ : ∃ n, ps.length = n + 1 := ⟨ps.length - 1, by omega⟩
      have HPOP := pop_any w.heap.size w.heap.size g d3 n ps wr HR.out.1 hn (by omega) (Nat.le_refl _) (by have := HR.out.2.1; rw [hn] at this; exact this)
      have HSTEP : Hid (∀ qs, (ps.getD 0 dpc :: qs).Perm ps → (l ++ [ps.getD 0 dpc] ++ qs).Perm (cs ++ ks) ∧ (l ++ [ps.getD 0 dpc]).Pairwise (fun p q => p.key ≤ q.key) ∧ ∀ p ∈ l ++ [ps.getD 0 dpc], ∀ q ∈ qs, p.key ≤ q.key) := fun qs hq => rl_step hn (by have := HR.out.2.1; rw [hn] at this; exact this) hq HR.out.2.2.2.2.1 HR.out.2.2.2.2.2.1 HR.out.2.2.2.2.2.2.1
      obtain ⟨p, hp⟩ : ∃ p, p = ps.getD 0 dpc := ⟨_, rfl⟩
      rw [← hp] at HPOP HSTEP
      obtain ⟨tl, xl, hvl⟩ := p.form
      have hass : ∀ W, Sem.run Tryd.prog (Instr.typeAssert (.iface tl xl) 20 56 true) W = .ok (.tuple #[.iface tl xl, .bool true]) W := fun W => by rw [← hvl]; exact assert_pc p W
      rw [hvl] at HPOP
      have HVL : Hid (p.vl = .iface tl xl ∧ True) := ⟨hvl, trivial⟩
      obtain ⟨la, lc, hv6, -, -⟩ := HR.out.2.2.1.slice
      have hnp : (0 : Int) < (ps.length : Int) := by omega
      rw [hn] at hnp c0 HLEN
      subst hv6
      clear hvl hp h0
      go_wp2_with fail
      refine HLEN.mono ?_
      clear HLEN
      rintro e w6 ⟨rfl, rfl⟩
      go_wp2_with fail
      refine HPOP.mono ?_
      clear HPOP
      rintro e w7 ⟨rfl, qs, hq1, hq2, hq3, hq4, hq5⟩
      obtain ⟨s1, s2, s3⟩ := HSTEP.out qs hq1
      have hov7 := HR.out.2.2.1.onlyS hq5 (fun k hk hS => by
        rcases hS with hS | hS
        · exact HR.out.2.2.2.1 (by rw [hk, hS])
        · exact (HR.out.2.2.1.tagne HR.out.1.blk (by decide)) (by rw [hk, hS]))
      have hb7 : Below w.heap.size w w7 := HR.out.2.2.2.2.2.2.2.trans (hq5.below HR.out.2.2.2.2.2.2.2.size (fun j hj => by
        rcases hj with hj | hj
        · rw [hj]; exact HL4.out.2.2
        · rw [hj]; exact Nat.le_refl _))
      have H7 : Hid ((l ++ [p] ++ qs).Perm (cs ++ ks) ∧ (l ++ [p]).Pairwise (fun p q => p.key ≤ q.key) ∧ (∀ a ∈ l ++ [p], ∀ q ∈ qs, a.key ≤ q.key) ∧ HpS w7 w.heap.size w.heap.size g d3 qs ∧ HO qs 0 qs.length qs.length ∧ OVV w7 w.heap.size (.slice la l.length lc) l ∧ (Value.slice la l.length lc).ownBlock ≠ some g ∧ Below w.heap.size w w7) := ⟨s1, s2, s3, hq3, by rw [hq2]; exact hq4, hov7, HR.out.2.2.2.1, hb7⟩
      have HY : Hid (OVV (w7.alloc (Obj.cells #[.iface tl xl] 56)) w.heap.size (.slice la l.length lc) l ∧ Pcs (w7.alloc (Obj.cells #[.iface tl xl] 56)) (some ⟨w7.heap.size, 0, none⟩) [p] ∧ w.heap.size ≤ (w7.alloc (Obj.cells #[.iface tl xl] 56)).heap.size) := by
        refine ⟨hov7.below ((Below.refl _ _).alloc (Nat.le_refl _) _), ?_, by have := hb7.size; simp; omega⟩
        have := pcs_one w7 p
        rw [HVL.out.1] at this
        exact this
      have hl1 : l.length + 1 ≤ 900 := by omega
      clear s1 s2 s3 hov7 hb7 hq1 hq2 hq3 hq4 hq5 HSTEP
      go_wp2_with (at_builtin; (refine wpList_append_pc (v := .slice la l.length lc) rfl (.tmp 27) (.tmp 29) 53 53 rfl Tryd.underlying53 Tryd.underlying53 rfl rfl (show 1 = [p].length from rfl) HY.out.1 HY.out.2.1 (show l.length + 1 ≤ 100000 by omega) HY.out.2.2 ?_); (intro v9 w9 hov9 hg9 hat9); (have H9 : Hid _ := rl_app H7.out.2.2.2.1 H7.out.2.2.2.2.2.1 H7.out.2.2.2.2.2.2.1 H7.out.2.2.2.2.2.2.2 (Nat.le_refl _) hov9 hg9 hat9); (have HOV9 : Hid (OVV w9 w.heap.size v9 (l ++ [p])) := hov9); (have hlv : lenV v9 = l.length + 1 := (by (obtain ⟨a9, c9, e9, -, -⟩ := hov9.slice; exact (congrArg lenV e9).trans List.length_append)); clear hov9 hg9 hat9))
      have hl6 : lenV (Value.slice la l.length lc) = l.length := rfl
      go_roundw
      case rel => exact ⟨qs, l ++ [p], H9.out.1, H7.out.2.2.2.2.1, HOV9.out, H9.out.2.1, H7.out.1, H7.out.2.1, H7.out.2.2.1, H9.out.2.2⟩
      case measure => rw [hlv, hl6]; omega
end Go.Proofs.YtkjebacpmmfflaaDoor
