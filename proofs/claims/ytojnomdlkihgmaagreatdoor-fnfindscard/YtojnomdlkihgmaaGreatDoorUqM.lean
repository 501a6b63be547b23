/-
  Sequences read from symbols and bits beside, as numbers.
-/
import Derived.Test.YtojnomdlkihgmaaGreatDoorGbT
import Derived.Test.YtojnomdlkihgmaaGreatDoorOpen3
import Derived.Test.YtojnomdlkihgmaaGreatDoorTakeI
namespace Go.Proofs.YtojnomdlkihgmaaGreatDoor
open Go.RowKit
set_option linter.unusedVariables false
set_option linter.unusedSimpArgs false

/-- Symbols and what is beside, as numbers: M bits beside, of the number U. -/
def RdS (n V m : Nat) (ts : List Int) (M U : Nat) : Prop := 8 ≤ n ∧ ((m = 2 ∧ ∃ E, RdH n V 8 (bt V 0 8) ts E ∧ E ≤ n ∧ M = n - E ∧ U = bt V E (n - E)) ∨ (m ≠ 2 ∧ ∃ E, RdT n V 8 (bt V 0 8) ts E M ∧ E + M ≤ n ∧ U = bt V E M))
theorem RdS.unique {n V m : Nat} {ts ts' : List Int} {M U M' U' : Nat} (h : RdS n V m ts M U) (h' : RdS n V m ts' M' U') : ts = ts' ∧ M = M' ∧ U = U' := by
  obtain ⟨-, ⟨hm, E, h1, -, rfl, rfl⟩ | ⟨hm, E, h1, -, rfl⟩⟩ := h
  · obtain ⟨-, ⟨hm', E', h1', -, rfl, rfl⟩ | ⟨hm', E', h1', -, rfl⟩⟩ := h'
    · obtain ⟨rfl, rfl⟩ := h1.unique h1'
      exact ⟨rfl, rfl, rfl⟩
    · exact absurd hm hm'
  · obtain ⟨-, ⟨hm', E', h1', -, rfl, rfl⟩ | ⟨hm', E', h1', -, rfl⟩⟩ := h'
    · exact absurd hm' hm
    · obtain ⟨rfl, rfl, rfl⟩ := h1.unique h1'
      exact ⟨rfl, rfl, rfl⟩
theorem RdS.le {n V m : Nat} {ts : List Int} {M U : Nat} (h : RdS n V m ts M U) : M ≤ n := by
  obtain ⟨-, ⟨hm, E, h1, -, rfl, rfl⟩ | ⟨hm, E, h1, h2, rfl⟩⟩ := h <;> omega

set_option maxRecDepth 20000 in
set_option maxHeartbeats 4000000 in
theorem getSymbols_any (R B : Nat) (a : Option Addr) (cap : Nat) (zs : List Int) (n V m : Nat) (w0 w : World) (hb : Byt w0 a zs) (hB : w0.heap.size = B) (hbel : Below B w0 w) (hz : zs = enc n V) (hn : n ≤ 4096) (hR : RD w B R a zs.length cap n 0) (hm : m ≤ 255) (hS : SentD w0) :
    Calls Tryz.prog 54 #[.pointer (some ⟨R, 0, none⟩), .int .i64 m] w fun e w' => Only (fun k => k = R) w w' ∧
      ((∃ ts M U g a' cp, RdS n V m ts M U ∧ OwI w' w.heap.size g (bt V 0 8) ts ∧ Mine w' w.heap.size w'.heap.size a' cp (enc M U) ∧
          e = .returned (.tuple #[.slice (some ⟨g, 0, none⟩) (bt V 0 8) (bt V 0 8), .agg #[.slice a' (enc M U).length cp, .int .i64 (M : Nat)], .nilIface])) ∨
       ((¬ ∃ ts M U, RdS n V m ts M U) ∧ ∃ T x v z l c M, e = .returned (.tuple #[v, .agg #[.slice z l c, .int .i64 M], .iface T x]))) := by
  have hRl : R < w.heap.size := (Array.getElem?_eq_some_iff.1 hR.1).1
  have hBW : Below B w0 w ∧ B ≤ R ∧ B ≤ w.heap.size := ⟨hbel, hR.2.1, hR.2.2⟩
  have HQ : Hid (Byt w0 a zs ∧ w0.heap.size = B ∧ zs = enc n V ∧ SentD w0 ∧ (Below B w0 w ∧ B ≤ R ∧ B ≤ w.heap.size)) := ⟨hb, hB, hz, hS, hBW⟩
  have hA1 := AnO.new R w
  have hG2 := hS.f.hG
  have hrd1 : RD (w.alloc (Obj.cells #[Value.slice none 0 0, Value.int IntKind.i64 0] 80)) B R a zs.length cap n 0 := hR.only (Only.alloc (Only.refl (fun _ => False) w) _) (by simp)
  have hbl1 := fr_below hBW hA1.on
  have HA1 : Hid _ := hA1
  by_cases c8 : 8 ≤ n
  · have HG8 := hrd1.yes V 8 (by omega) (hb.below hbl1 (by rw [hB]; exact Nat.le_refl _)) hz (by omega) (by omega) (by omega)
    clear hb hB hz hS hBW hbel hR hA1 hrd1 hbl1
    go_enter Tryz.func54, Tryz.ntmps54
    go_wp2_with fail
    refine HG8.mono ?_
    clear HG8
    rintro e w3 ⟨rfl, hrd3, ho3, hb3⟩
    have hA3 : AnO R w w3 := AnO.step HA1.out ho3 hRl
    have hbl3 := fr_below HQ.out.2.2.2.2 hA3.on
    have hN8 : bt V 0 8 < 256 := bt_lt V 0 8
    rw [show V / 2 ^ 0 % 2 ^ (8 : Int).toNat = bt V 0 8 from rfl]
    have hrd3' : RD w3 B R a zs.length cap n 8 := hrd3
    have HLL := getByLengths_any R B a cap zs n V 8 (bt V 0 8) w0 w3 HQ.out.1 HQ.out.2.1 hbl3 HQ.out.2.2.1 hn hrd3' c8 (by omega) HQ.out.2.2.2.1
    have HTT := getByTable_any R B a cap zs n V 8 (bt V 0 8) w0 w3 HQ.out.1 HQ.out.2.1 hbl3 HQ.out.2.2.1 hn hrd3' c8 (by omega) HQ.out.2.2.2.1
    have HA3 : Hid (AnO R w w3) := hA3
    have z3 := hA3.lt
    clear HA1 hrd3 hrd3' ho3 hb3 hA3 hbl3
    obtain ⟨N, hNe⟩ : ∃ N, N = bt V 0 8 := ⟨_, rfl⟩
    rw [← hNe] at HLL HTT hN8 ⊢
    have HNE : Hid (N = bt V 0 8) := hNe
    clear hNe
    by_cases hm2 : m = 2
    · have hmi : ((m : Int) == 2) = true := by rw [beq_iff_eq]; omega
      clear HTT
      go_wp2_with fail
      refine HLL.mono ?_
      clear HLL
      rintro e w4 ⟨ho4, ⟨ts, E, g, a', cp, hrh, hEn, how, hmi4, rfl⟩ | ⟨hno, T, x, v, z, l, c, M, rfl⟩⟩
      · have hA4 : AnO R w w4 := AnO.step HA3.out ho4 hRl
        have HRS : Hid (RdS n V m ts (n - E) (bt V E (n - E))) := ⟨c8, .inl ⟨hm2, E, by rw [← HNE.out]; exact hrh, hEn, rfl, rfl⟩⟩
        have HF : Hid (Only (fun k => k = R) w w4 ∧ OwI w4 w3.heap.size g N ts ∧ Mine w4 w3.heap.size w4.heap.size a' cp (enc (n - E) (bt V E (n - E)))) := ⟨hA4.on, how, hmi4⟩
        have hgl := how.lt.1
        obtain ⟨x0, x1, y0, y1, hlt4, _⟩ := hA4
        clear ho4 hrh how hmi4 HA3
        generalize bt V E (n - E) = U at *
        generalize n - E = M at *
        generalize hES : enc M U = es at *
        have HES : Hid (enc M U = es) := hES
        clear hES
        go_wp2
        have hO9 : Only (fun k => k = w.heap.size) w4 ((w4.setCell ⟨w.heap.size, 0, none⟩ (.slice a' es.length cp)).setCell ⟨w.heap.size, 1, none⟩ (.int .i64 (M : Nat))) :=
          Only.setCell (Only.setCell (Only.refl (fun k => k = w.heap.size) w4) (p := ⟨w.heap.size, 0, none⟩) (.inl rfl) _) (p := ⟨w.heap.size, 1, none⟩) (.inl rfl) _
        refine bodyPost_ret (v := .tuple #[.slice (some ⟨g, 0, none⟩) N N, .agg #[.slice a' es.length cp, .int .i64 (M : Nat)], .nilIface]) (by simp [results, Tryz.results54, go_sem, x0, x1]) rfl ⟨?_, .inl ⟨ts, M, U, g, a', cp, HRS.out, ?_, ?_, by rw [HES.out, HNE.out]⟩⟩
        · have h0 := HF.out.1
          repeat (first | exact h0 | refine Only.setCell ?_ (.inr (by simp)) _)
        · rw [← HNE.out]
          exact (HF.out.2.1.mono (by omega)).only hO9 (by omega)
        · rw [HES.out]
          exact (HF.out.2.2.only hO9 (fun b h1 _ => by omega)).mono (by omega) hO9.size
      · have HNO : Hid (¬ ∃ ts M U, RdS n V m ts M U) := by
          rintro ⟨ts, M, U, -, ⟨-, E, h1, -⟩ | ⟨h1, -⟩⟩
          · exact hno ⟨ts, E, by rw [HNE.out]; exact h1⟩
          · exact h1 hm2
        have hA4 : AnO R w w4 := AnO.step HA3.out ho4 hRl
        have HON : Hid (Only (fun k => k = R) w w4) := hA4.on
        obtain ⟨x0, x1, y0, y1, hlt4, _⟩ := hA4
        clear ho4 hno HA3
        go_wp2
        refine bodyPost_ret (v := .tuple #[v, .agg #[.slice z l c, .int .i64 M], .iface T x]) (by simp [results, Tryz.results54, go_sem, x0, x1]) rfl ⟨?_, .inr ⟨HNO.out, _, _, _, _, _, _, _, rfl⟩⟩
        have h0 := HON.out
        repeat (first | exact h0 | refine Only.setCell ?_ (.inr (by simp)) _)
    · have hmi : ((m : Int) == 2) = false := by rw [beq_eq_false_iff_ne]; omega
      clear HLL
      go_wp2_with fail
      refine HTT.mono ?_
      clear HTT
      rintro e w4 ⟨ho4, ⟨ts, E, M, g, a', cp, hrh, hEn, how, hmi4, rfl⟩ | ⟨hno, T, x, v, z, l, c, M, rfl⟩⟩
      · have hA4 : AnO R w w4 := AnO.step HA3.out ho4 hRl
        have HRS : Hid (RdS n V m ts M (bt V E M)) := ⟨c8, .inr ⟨hm2, E, by rw [← HNE.out]; exact hrh, hEn, rfl⟩⟩
        have HF : Hid (Only (fun k => k = R) w w4 ∧ OwI w4 w3.heap.size g N ts ∧ Mine w4 w3.heap.size w4.heap.size a' cp (enc M (bt V E M))) := ⟨hA4.on, how, hmi4⟩
        have hgl := how.lt.1
        obtain ⟨x0, x1, y0, y1, hlt4, _⟩ := hA4
        clear ho4 hrh how hmi4 HA3
        generalize bt V E M = U at *
        generalize hES : enc M U = es at *
        have HES : Hid (enc M U = es) := hES
        clear hES
        go_wp2
        have hO9 : Only (fun k => k = w.heap.size) w4 ((w4.setCell ⟨w.heap.size, 0, none⟩ (.slice a' es.length cp)).setCell ⟨w.heap.size, 1, none⟩ (.int .i64 (M : Nat))) :=
          Only.setCell (Only.setCell (Only.refl (fun k => k = w.heap.size) w4) (p := ⟨w.heap.size, 0, none⟩) (.inl rfl) _) (p := ⟨w.heap.size, 1, none⟩) (.inl rfl) _
        refine bodyPost_ret (v := .tuple #[.slice (some ⟨g, 0, none⟩) N N, .agg #[.slice a' es.length cp, .int .i64 (M : Nat)], .nilIface]) (by simp [results, Tryz.results54, go_sem, x0, x1]) rfl ⟨?_, .inl ⟨ts, M, U, g, a', cp, HRS.out, ?_, ?_, by rw [HES.out, HNE.out]⟩⟩
        · have h0 := HF.out.1
          repeat (first | exact h0 | refine Only.setCell ?_ (.inr (by simp)) _)
        · rw [← HNE.out]
          exact (HF.out.2.1.mono (by omega)).only hO9 (by omega)
        · rw [HES.out]
          exact (HF.out.2.2.only hO9 (fun b h1 _ => by omega)).mono (by omega) hO9.size
      · have HNO : Hid (¬ ∃ ts M U, RdS n V m ts M U) := by
          rintro ⟨ts, M, U, -, ⟨h1, -⟩ | ⟨-, E, h1, -⟩⟩
          · exact hm2 h1
          · exact hno ⟨ts, E, M, by rw [HNE.out]; exact h1⟩
        have hA4 : AnO R w w4 := AnO.step HA3.out ho4 hRl
        have HON : Hid (Only (fun k => k = R) w w4) := hA4.on
        obtain ⟨x0, x1, y0, y1, hlt4, _⟩ := hA4
        clear ho4 hno HA3
        go_wp2
        refine bodyPost_ret (v := .tuple #[v, .agg #[.slice z l c, .int .i64 M], .iface T x]) (by simp [results, Tryz.results54, go_sem, x0, x1]) rfl ⟨?_, .inr ⟨HNO.out, _, _, _, _, _, _, _, rfl⟩⟩
        have h0 := HON.out
        repeat (first | exact h0 | refine Only.setCell ?_ (.inr (by simp)) _)
  · have HNO : Hid (¬ ∃ ts M U, RdS n V m ts M U) := fun ⟨ts, M, U, h, _⟩ => c8 h
    have HG8 := hrd1.no 8 (by omega) (by omega) (hS.f.s0.below hbl1 (by omega)) (hS.f.s1.below hbl1 (by omega)) (by omega)
    clear hb hB hz hS hBW hbel hR hA1 hrd1 hbl1
    go_enter Tryz.func54, Tryz.ntmps54
    go_wp2_with fail
    refine HG8.mono ?_
    clear HG8
    rintro e w3 ⟨⟨T, y, rfl⟩, m3, rfl⟩
    have hA4 : AnO R w _ := AnO.step HA1.out ((Only.refl _ _).drewN m3) hRl
    clear HA1
    generalize (w.alloc (Obj.cells #[Value.slice none 0 0, Value.int IntKind.i64 0] 80)).drewN m3 = w4 at *
    have HON : Hid (Only (fun k => k = R) w w4) := hA4.on
    obtain ⟨x0, x1, y0, y1, hlt4, _⟩ := hA4
    go_wp2
    refine bodyPost_ret (v := .tuple #[.slice none 0 0, .agg #[.slice none 0 0, .int .i64 0], .iface T y]) (by simp [results, Tryz.results54, go_sem, x0, x1]) rfl ⟨?_, .inr ⟨HNO.out, _, _, _, _, _, _, _, rfl⟩⟩
    have h0 := HON.out
    repeat (first | exact h0 | refine Only.setCell ?_ (.inr (by simp)) _)
theorem Reads.rng {ls cs : List Int} {n v p : Nat} {q : List Int} {E : Nat} (h : Reads ls cs n v p q E) : ∀ s ∈ q, 0 ≤ s ∧ s < ls.length := by
  induction h with
  | nil => simp
  | snoc h ho ih =>
    intro s hs
    simp only [List.mem_append, List.mem_cons, List.not_mem_nil, or_false] at hs
    rcases hs with hs | rfl
    · exact ih s hs
    · have := ho.2.2.2.1
      omega
theorem so_rngL {T : List Int} {L : Nat} (hT : Gd T L) (hL : 1 ≤ L) (v E : Nat) : ∀ i, ∀ z ∈ so T v E i, 0 ≤ z ∧ z < (L : Int) := by
  intro i
  induction i with
  | zero => intro z hz; simp [so] at hz
  | succ i ih =>
    intro z hz
    rw [so] at hz
    simp only [List.mem_append, List.mem_cons, List.not_mem_nil, or_false] at hz
    rcases hz with hz | rfl
    · exact ih z hz
    · cases hq : sg T v E i with
      | none => simp; omega
      | some q =>
        obtain ⟨s0, e0⟩ := q
        obtain ⟨s, b, z, k1, _, _, k4, _⟩ := hT.cell s0 (sg_rng hT v E i s0 e0 hq).1
        simp only
        rw [k1]
        omega
theorem RdS.rng {n V m : Nat} {ts : List Int} {M U : Nat} (h : RdS n V m ts M U) : (∀ s ∈ ts, 0 ≤ s ∧ s < 40) ∧ ts.length = bt V 0 8 := by
  obtain ⟨-, ⟨hm, E, ⟨res, q, hg, hl, hr⟩, -⟩ | ⟨hm, E, h1, h2, rfl⟩⟩ := h
  · have h40 := (gi_yes n V 40 40 8 [] false res q (by simp) (by simp) hg.1).2.1
    refine ⟨fun s hs => ?_, hl⟩
    have := hr.rng s hs
    omega
  · obtain ⟨hg, -, -, -, -, -, rfl⟩ := h1
    have hgd := gd_tb (got_normB (by omega) (by omega) hg)
    rw [gXs_len] at hgd
    exact ⟨so_rngL hgd (by omega) _ _ _, so_len _ _ _ _⟩

theorem top_bitW : ∀ t, t < 256 → 0 < t → ∃ b, b < 8 ∧ 2 ^ b ≤ t ∧ t < 2 ^ (b + 1) := by
  intro t h1 h2
  refine ⟨Nat.log2 t, ?_, Nat.log2_self_le (by omega), Nat.lt_log2_self⟩
  have : Nat.log2 t < 8 := (Nat.log2_lt (by omega)).2 h1
  exact this

/-- How many bits stand beside a symbol. -/
def wid (s : Int) : Nat := if 28 ≤ s then (s - 28).toNat else if 16 ≤ s then (s - 16).toNat else 4
theorem wid_le {s : Int} (h : s < 40) : wid s ≤ 11 := by unfold wid; split <;> (try split) <;> omega
/-- What is read from symbols on: lits: letters of the next sequence, L: its length, or 0. -/
def uq (N V : Nat) : List Int → Nat → List Int → Nat → List (List Int × Int × Int) → Option (List (List Int × Int × Int) × Nat × List Int × Nat)
  | [], p, lits, L, out => some (out, p, lits, L)
  | s :: t, p, lits, L, out =>
    if N < p + wid s ∨ ¬ (0 < L ↔ 28 ≤ s) then none
    else if s < 16 then uq N V t (p + 4) (lits ++ [16 * s + (bt V p 4 : Nat)]) L out
    else if s < 28 then uq N V t (p + wid s) lits (2 ^ wid s + bt V p (wid s) + 2) out
    else uq N V t (p + wid s) [] 0 (out ++ [(lits, (L : Int), ((2 ^ wid s + bt V p (wid s) : Nat) : Int))])
/-- What comes of it at the end. -/
def uqE (N : Nat) : Option (List (List Int × Int × Int) × Nat × List Int × Nat) → Option (List (List Int × Int × Int))
  | none => none
  | some (out, p, lits, L) => if p = N ∧ L = 0 then some (if lits = [] then out else out ++ [(lits, 0, 0)]) else none
def uqF (N V : Nat) (ts : List Int) : Option (List (List Int × Int × Int)) := uqE N (uq N V ts 0 [] 0 [])
theorem uq_bad {N V : Nat} {s : Int} {t : List Int} {p L : Nat} {lits : List Int} {out : List (List Int × Int × Int)} (h : N < p + wid s ∨ ¬ (0 < L ↔ 28 ≤ s)) : uq N V (s :: t) p lits L out = none := by simp only [uq]; rw [if_pos h]
theorem uq_let {N V : Nat} {s : Int} {t : List Int} {p L : Nat} {lits : List Int} {out : List (List Int × Int × Int)} (h1 : p + 4 ≤ N) (hL : L = 0) (hs : s < 16) : uq N V (s :: t) p lits L out = uq N V t (p + 4) (lits ++ [16 * s + (bt V p 4 : Nat)]) L out := by
  have hw : wid s = 4 := by unfold wid; rw [if_neg (by omega), if_neg (by omega)]
  simp only [uq]
  rw [if_neg (by rw [hw]; omega), if_pos hs]
theorem uq_len {N V : Nat} {s : Int} {t : List Int} {p L : Nat} {lits : List Int} {out : List (List Int × Int × Int)} (h1 : p + wid s ≤ N) (hL : L = 0) (hs : 16 ≤ s) (hs2 : s < 28) : uq N V (s :: t) p lits L out = uq N V t (p + wid s) lits (2 ^ wid s + bt V p (wid s) + 2) out := by
  simp only [uq]
  rw [if_neg (by omega), if_neg (by omega), if_pos hs2]
theorem uq_dst {N V : Nat} {s : Int} {t : List Int} {p L : Nat} {lits : List Int} {out : List (List Int × Int × Int)} (h1 : p + wid s ≤ N) (hL : 0 < L) (hs : 28 ≤ s) : uq N V (s :: t) p lits L out = uq N V t (p + wid s) [] 0 (out ++ [(lits, (L : Int), ((2 ^ wid s + bt V p (wid s) : Nat) : Int))]) := by
  simp only [uq]
  rw [if_neg (by omega), if_neg (by omega), if_neg (by omega)]
theorem drop_cons (ts : List Int) (i : Nat) (h : i < ts.length) : ts.drop i = ts.getD i 0 :: ts.drop (i + 1) := by
  rw [List.drop_eq_getElem_cons h, List.getD_eq_getElem?_getD, List.getElem?_eq_getElem h]
  rfl
theorem pow_wid {s : Int} (h : s < 40) : 2 ^ wid s ≤ 2048 := by
  have := Nat.pow_le_pow_right (show 0 < 2 by omega) (wid_le h)
  simpa using this
end Go.Proofs.YtojnomdlkihgmaaGreatDoor
