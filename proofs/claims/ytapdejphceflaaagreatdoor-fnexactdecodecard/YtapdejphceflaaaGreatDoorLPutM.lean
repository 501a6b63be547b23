/-
  Lengths as bits: four each, and three behind a nought that tell how many follow. Numbers alone.
-/
import Derived.Test.YtapdejphceflaaaGreatDoorPut3
import Derived.Test.YtapdejphceflaaaGreatDoorIs1
import Derived.Test.YtapdejphceflaaaGreatDoorOnly
namespace Go.Proofs.YtapdejphceflaaaGreatDoor
open Go.RowKit
set_option linter.unusedVariables false

set_option maxHeartbeats 1600000 in
/-- What put answers where no room is left: just the sentinel. -/
theorem wput_full (R : Nat) (v : Value) (n : Nat) (x width room : Int) (X : Value) (w : World) (hR : w.heap[R]? = some (.cells #[v, .int .i64 n, .int .i64 room] 126 (0, 0))) (hn : n ≤ 4104) (hr0 : 0 ≤ room) (hroom : room ≤ 5000)
    (g1 : w.cell? ⟨18, 0, none⟩ = some X) (k1 : 0 ≤ width) (k2 : width ≤ 30) (k3 : 0 ≤ x) (k4' : x < 2 ^ width.toNat) (k5 : room - n < width) :
    Calls Tryz.prog 78 #[.pointer (some ⟨R, 0, none⟩), .int .i64 x, .int .i64 width] w fun e w' => e = .returned X ∧ ∃ m, w' = w.drewN m := by
  have k4 : x < wrap64 (2 ^ width.toNat) := by rw [wrap_pow _ (by omega)]; exact k4'
  have c1 : w.cell? ⟨R, 1, none⟩ = some (.int .i64 n) := cellR (j := 1) hR rfl
  have c2 : w.cell? ⟨R, 2, none⟩ = some (.int .i64 room) := cellR (j := 2) hR rfl
  clear hR k4'
  have hd : Hid (decide (0 ≤ width ∧ width ≤ 30) = true) := by simp [Hid]; omega
  go_enter Tryz.func78, Tryz.ntmps78
  go_wp2_with fail
  refine (widthOk_any width _).mono ?_
  rintro e w1 ⟨rfl, rfl⟩
  rw [hd.out]
  go_wp2
  go_quiet (fail)
  go_wp2
  go_ret
  exact ⟨rfl, _, rfl⟩

theorem OwnV.only {S : Nat → Prop} {w w' : World} {B : Nat} {v : Value} {zs : List Int} (h : OwnV w B v zs) (ho : Only S w w') (hs : ∀ k, v.ownBlock = some k → ¬ S k) : OwnV w' B v zs := by
  rcases h.1.2 with ⟨h1, h2⟩ | ⟨g, cap, cur, rfl, r⟩
  · exact ⟨⟨h.1.1, .inl ⟨h1, h2⟩⟩, h.2⟩
  · exact Own.only (g := g) (cap := cap) h ho (hs g rfl)

theorem OwnV.ne {w : World} {B k R : Nat} {v : Value} {zs : List Int} {cur : Array Value} {T : TypeId} (h : OwnV w B v zs) (hk : v.ownBlock = some k) (hR : w.heap[R]? = some (.cells cur T (0, 0))) (hT : T ≠ 5) : k ≠ R := by
  rcases h.1.2 with ⟨rfl, h2⟩ | ⟨g, cap, cur', rfl, hg, hh, r⟩
  · simp [Value.ownBlock] at hk
  · simp [Value.ownBlock] at hk
    subst hk
    exact Own.ne (g := g) (cap := cap) h hR hT

/-- Bytes that lie ahead of B stay where nothing ahead of B is written. -/
theorem Byt.belowB {w w' : World} {a : Option Addr} {zs : List Int} {B : Nat} (h : Byt w a zs) (hb : Below B w w') (hB : 0 < zs.length → ∀ x, a = some x → x.block < B) : Byt w' a zs := by
  refine ⟨h.1, fun hp => ?_⟩
  obtain ⟨g, off, rfl, hl, hc⟩ := h.2 hp
  have hg := hB hp _ rfl
  exact ⟨g, off, rfl, Nat.lt_of_lt_of_le hl hb.size, fun i hi => (hb.cell (p := ⟨g, off + i, none⟩) hg).trans (hc i hi)⟩

/-- How far the reader at Q is. -/
def atOf (w : World) (Q : Nat) : Nat := match w.cell? ⟨Q, 2, none⟩ with | some (.int _ p) => p.toNat | _ => 0

/-- What pour keeps: j bits have gone over. -/
structure Poured (w wr : World) (R B Q : Nat) (b : Option Addr) (L cb n V m U p0 j : Nat) (u : Value) : Prop where
  hR : wr.heap[R]? = some (.cells #[u, .int .i64 ((n + j : Nat) : Int), .int .i64 4096] 126 (0, 0))
  hv : OwnV wr B u (enc (n + j) (V + (U % 2 ^ j) * 2 ^ n))
  hQ : wr.heap[Q]? = some (.cells #[.slice b L cb, .int .i64 m, .int .i64 ((p0 + j : Nat) : Int)] 77 (0, 0))
  bel : Below B w wr

theorem Poured.drewN {w wr : World} {R B Q : Nat} {b : Option Addr} {L cb n V m U p0 j : Nat} {u : Value} (h : Poured w wr R B Q b L cb n V m U p0 j u) (k : Nat) : Poured w (wr.drewN k) R B Q b L cb n V m U p0 j u :=
  ⟨h.hR, h.hv, h.hQ, below_drewN h.bel k⟩

theorem Poured.ne {w wr : World} {R B Q : Nat} {b : Option Addr} {L cb n V m U p0 j : Nat} {u : Value} (h : Poured w wr R B Q b L cb n V m U p0 j u) : Q ≠ R := by
  rintro rfl
  have := h.hR.symm.trans h.hQ
  simp at this

set_option maxRecDepth 100000 in
set_option maxHeartbeats 800000 in
/-- errors.Is(nil, x). -/
theorem is_nil (T : TypeId) (x : Value) (w : World) :
    Calls Tryz.prog 77 #[.nilIface, .iface T x] w fun e w' => e = .returned (.bool false) ∧ w' = w := by
  have hl := run_eql_iface_nil_left (P := Tryz.prog) (w := w) T x Tryz.underlying30
  go_enter Tryz.func77, Tryz.ntmps77
  go_wp2
  go_ret
  exact ⟨rfl, rfl⟩

theorem shift_part (U p0 j s : Nat) : U / 2 ^ (p0 + j) % 2 ^ s = U / 2 ^ p0 / 2 ^ j % 2 ^ s := by
  rw [Nat.pow_add, Nat.div_div_eq_div_mul]

set_option maxRecDepth 100000 in
set_option maxHeartbeats 2000000 in
/-- The reader is at p0, its last bit ahead of m; its bytes may hold more. -/
theorem pour_any (R B Q : Nat) (v : Value) (b : Option Addr) (cb : Nat) (ys : List Int) (n V m M U0 p0 : Nat) (T1 : TypeId) (pe : Addr) (x1 : Value) (w : World)
    (hR : w.heap[R]? = some (.cells #[v, .int .i64 n, .int .i64 4096] 126 (0, 0))) (hv : OwnV w B v (enc n V)) (hV : V < 2 ^ n) (hB : B ≤ w.heap.size)
    (hQ : w.heap[Q]? = some (.cells #[.slice b ys.length cb, .int .i64 m, .int .i64 p0] 77 (0, 0))) (hb : Byt w b ys) (hy : ys = enc M U0) (hn : n ≤ 4096) (hm : m ≤ M) (hM : M ≤ 4096) (hpm0 : p0 ≤ m)
    (hBR : B ≤ R) (hBQ : B ≤ Q) (hG : 8 < B ∧ 18 < B) (hbB : 0 < ys.length → ∀ x, b = some x → x.block < B)
    (g0 : w.cell? ⟨8, 0, none⟩ = some (.iface 159 (.pointer (some pe)))) (g1 : w.cell? ⟨18, 0, none⟩ = some (.iface T1 x1)) :
    Calls Tryz.prog 72 #[.pointer (some ⟨R, 0, none⟩), .pointer (some ⟨Q, 0, none⟩)] w fun e w' =>
      Below B w w' ∧ (n + (m - p0) ≤ 4096 → e = .returned .nilIface ∧ ∃ v', w'.heap[R]? = some (.cells #[v', .int .i64 ((n + (m - p0) : Nat) : Int), .int .i64 4096] 126 (0, 0)) ∧ OwnV w' B v' (enc (n + (m - p0)) (V + (U0 / 2 ^ p0 % 2 ^ (m - p0)) * 2 ^ n))) ∧
        (4096 < n + (m - p0) → e = .returned (.iface T1 x1)) := by
  obtain ⟨U, hUe⟩ : ∃ U, U = U0 / 2 ^ p0 := ⟨_, rfl⟩
  have HU : Hid (U = U0 / 2 ^ p0) := hUe
  obtain ⟨d, rfl⟩ : ∃ d, m = p0 + d := ⟨m - p0, by omega⟩
  rw [Nat.add_sub_cancel_left, ← hUe]
  clear hUe
  have HR : Hid (Poured w w R B Q b ys.length cb n V (p0 + d) U p0 0 v) := ⟨hR, by simpa [Nat.mod_one] using hv, hQ, Below.refl _ _⟩
  have HY : Hid (ys = enc M U0) := hy
  have HVV : Hid (V < 2 ^ n) := hV
  clear hR hv hQ hy hV
  go_enter Tryz.func72, Tryz.ntmps72
  go_wp2
  go_loopw [] (fun wr => ∃ (j : Nat) (u : Value), j ≤ d ∧ n + j ≤ 4096 ∧ Poured w wr R B Q b ys.length cb n V (p0 + d) U p0 j u) (fun wr => p0 + d - atOf wr Q)
  case atStart => exact ⟨0, v, Nat.zero_le _, by omega, HR.out⟩
  case round =>
    obtain ⟨j, u, hpm, hnp, hP⟩ := hrel
    have e0 := keep hP.bel hG.1 g0
    have c1 : wr.cell? ⟨Q, 1, none⟩ = some (.int .i64 ((p0 + d : Nat) : Int)) := cellR (j := 1) hP.hQ rfl
    have c2 : wr.cell? ⟨Q, 2, none⟩ = some (.int .i64 ((p0 + j : Nat) : Int)) := cellR (j := 2) hP.hQ rfl
    have c0 : wr.cell? ⟨Q, 0, none⟩ = some (.slice b ys.length cb) := cellR (j := 0) hP.hQ rfl
    have hat : atOf wr Q = p0 + j := by simp [atOf, c2]; omega
    have HE0 : Hid (wr.cell? ⟨8, 0, none⟩ = some (.iface 159 (.pointer (some pe)))) := e0
    have HC : Hid _ := (⟨c0, c1, c2⟩ : _ ∧ _ ∧ _)
    have HAT : Hid (atOf wr Q = p0 + j) := hat
    clear e0 c0 c1 c2 hat
    by_cases hlt : j < d
    · have HP : Hid (Poured w wr R B Q b ys.length cb n V (p0 + d) U p0 j u) := hP
      have HF : Hid (wr.frozen? ⟨Q, 2, none⟩ = false) := frozenR hP.hQ
      clear hP
      go_wp2_with fail
      refine (some_yes Q b cb ys (p0 + d) M U0 (p0 + j) wr (by omega) (by omega) hm (hb.belowB HP.out.bel hbB) HY.out (by omega) HC.out.1 HC.out.2.1 HC.out.2.2 HF.out).mono ?_
      rintro e w1 ⟨rfl, k1, rfl⟩
      obtain ⟨s, hs⟩ : ∃ s, s = min (d - j) 30 := ⟨_, rfl⟩
      rw [show min (p0 + d - (p0 + j)) 30 = s from by omega, shift_part, ← HU.out]
      have hX : U / 2 ^ j % 2 ^ s < 2 ^ s := Nat.mod_lt _ (Nat.pow_pos (by omega))
      have HPP : Hid (V + (U % 2 ^ j) * 2 ^ n + (U / 2 ^ j % 2 ^ s) * 2 ^ (n + j) = V + (U % 2 ^ (j + s)) * 2 ^ n) := put_part n V U j s
      have HVP : Hid (V + (U % 2 ^ j) * 2 ^ n < 2 ^ (n + j)) := put_lt n V j (U % 2 ^ j) HVV.out (Nat.mod_lt _ (Nat.pow_pos (by omega)))
      generalize U / 2 ^ j % 2 ^ s = X at *
      have HXI : Hid ((X : Int) < 2 ^ ((s : Int)).toNat) := by
        have e : ((2 : Int) ^ s) = ((2 ^ s : Nat) : Int) := by simp
        rw [Int.toNat_natCast, e]
        show (X : Int) < _
        exact Int.ofNat_lt.2 hX
      have hP1 := HP.out.drewN k1
      have hne := hP1.ne
      have hszw := hP1.bel.size
      have hs1 : s ≤ 30 := by omega
      have hs2 : j + s ≤ d := by omega
      have hs3 : 0 < s := by omega
      clear hs hX
      rw [show p0 + j + s = p0 + (j + s) from by omega]
      have hO1 : Only (fun k => k = Q) (wr.drewN k1) ((wr.drewN k1).setCell ⟨Q, 2, none⟩ (.int .i64 ((p0 + (j + s) : Nat) : Int))) := Only.setCell (Only.refl (fun k => k = Q) (wr.drewN k1)) (p := ⟨Q, 2, none⟩) (.inl rfl) _
      have hR1 : ((wr.drewN k1).setCell ⟨Q, 2, none⟩ (.int .i64 ((p0 + (j + s) : Nat) : Int))).heap[R]? = some (.cells #[u, .int .i64 ((n + j : Nat) : Int), .int .i64 4096] 126 (0, 0)) := by
        rw [Below.heap_setCell _ _ _ _ (by simpa using hne.symm)]; exact hP1.hR
      have hQ1 : ((wr.drewN k1).setCell ⟨Q, 2, none⟩ (.int .i64 ((p0 + (j + s) : Nat) : Int))).heap[Q]? = some (.cells #[.slice b ys.length cb, .int .i64 ((p0 + d : Nat) : Int), .int .i64 ((p0 + (j + s) : Nat) : Int)] 77 (0, 0)) := by
        rw [heap_setCell_same _ Q 2 _ _ _ hP1.hQ]; simp
      have hv1 : OwnV ((wr.drewN k1).setCell ⟨Q, 2, none⟩ (.int .i64 ((p0 + (j + s) : Nat) : Int))) B u (enc (n + j) (V + (U % 2 ^ j) * 2 ^ n)) := OwnV.only hP1.hv hO1 (fun k hk => OwnV.ne hP1.hv hk hP1.hQ (by decide))
      have hb1 : Below B w ((wr.drewN k1).setCell ⟨Q, 2, none⟩ (.int .i64 ((p0 + (j + s) : Nat) : Int))) := hP1.bel.setCell (by simpa using hBQ) _
      have hz1 : B ≤ ((wr.drewN k1).setCell ⟨Q, 2, none⟩ (.int .i64 ((p0 + (j + s) : Nat) : Int))).heap.size := Nat.le_trans hB hb1.size
      clear hP1 hO1 HP HF HC HE0
      generalize (wr.drewN k1).setCell ⟨Q, 2, none⟩ (.int .i64 ((p0 + (j + s) : Nat) : Int)) = w1 at *
      have H1 : Hid _ := (⟨hR1, hQ1, hv1, hb1⟩ : _ ∧ _ ∧ _ ∧ _)
      have e0 := keep H1.out.2.2.2 hG.1 g0
      clear hR1 hQ1 hv1 hb1
      go_wp2_with fail
      refine (is_nil _ _ _).mono ?_
      rintro e w1' ⟨rfl, rfl⟩
      clear e0
      by_cases hfit : n + j + s ≤ 4096
      · go_wp2_with fail
        refine (wput_yes R B u (n + j) (V + (U % 2 ^ j) * 2 ^ n) (X : Int) (s : Int) 4096 _ H1.out.1 H1.out.2.2.1 HVP.out hz1 (by omega) (by omega) (by omega) HXI.out (by omega) (by omega) (by omega)).mono ?_
        rintro e w2 ⟨rfl, v', hR2, hv2, ho2, hrow2⟩
        simp only [Int.toNat_natCast] at hR2 hv2
        rw [HPP.out] at hv2
        have hQl : Q < w1'.heap.size := (Array.getElem?_eq_some_iff.1 H1.out.2.1).1
        have hQ2 := (ho2.block Q hQl (by
          rintro (h | h)
          · exact hne h
          · exact OwnV.ne H1.out.2.2.1 h H1.out.2.1 (by decide) rfl)).trans H1.out.2.1
        have hb2 : Below B w w2 := H1.out.2.2.2.trans (ho2.below hz1 (by
          rintro k (h | h)
          · omega
          · exact (H1.out.2.2.1.1.lt _ h).1))
        have HF : Hid (Poured w w2 R B Q b ys.length cb n V (p0 + d) U p0 (j + s) v') := ⟨by rw [hR2, Nat.add_assoc], by rw [← Nat.add_assoc]; exact hv2, hQ2, hb2⟩
        have hat2 : Hid (atOf w2 Q = p0 + (j + s)) := by unfold Hid; simp [atOf, cellR (j := 2) hQ2 rfl]; omega
        clear hR2 hv2 hQ2 hb2 ho2 hrow2 H1
        go_wp2
        go_roundw
        case rel => exact ⟨j + s, v', by omega, by omega, HF.out⟩
        case measure => rw [HAT.out, hat2.out]; omega
      · have e1 := keep H1.out.2.2.2 hG.2 g1
        go_wp2_with fail
        refine (wput_full R u (n + j) (X : Int) (s : Int) 4096 (.iface T1 x1) _ H1.out.1 (by omega) (by omega) (by omega) e1 (by omega) (by omega) (by omega) HXI.out (by omega)).mono ?_
        rintro e w2 ⟨rfl, k2, rfl⟩
        have HB2 : Hid (Below B w (w1'.drewN k2)) := below_drewN H1.out.2.2.2 k2
        clear H1 e1
        generalize w1'.drewN k2 = w2 at *
        go_wp2
        go_ret
        exact ⟨HB2.out, fun h => by omega, fun _ => rfl⟩
    · have hpe : j = d := by omega
      subst hpe
      have HP : Hid (Poured w wr R B Q b ys.length cb n V (p0 + j) U p0 j u) := hP
      clear hP
      go_wp2_with fail
      refine (some_no Q (p0 + j) (p0 + j) (.iface 159 (.pointer (some pe))) wr (by omega) rfl HC.out.2.1 HC.out.2.2 HE0.out).mono ?_
      rintro e w1 ⟨rfl, k1, rfl⟩
      have HP1 : Hid (Poured w (wr.drewN k1) R B Q b ys.length cb n V (p0 + j) U p0 j u) := HP.out.drewN k1
      clear HP HC HE0
      generalize wr.drewN k1 = wf at *
      have e0 := keep HP1.out.bel hG.1 g0
      go_wp2_with fail
      refine (is_same pe _).mono ?_
      rintro e wf' ⟨rfl, rfl⟩
      go_wp2
      go_ret
      exact ⟨HP1.out.bel, fun _ => ⟨rfl, u, HP1.out.hR, HP1.out.hv⟩, fun h => by omega⟩
end Go.Proofs.YtapdejphceflaaaGreatDoor
namespace Go.Proofs.YtapdejphceflaaaGreatDoor
open Go.RowKit

/-- A slice value that starts at 'a' and has as many elements as 'zs' reads as the numbers 'zs'. -/
def Ins (w : World) (a : Option Addr) (zs : List Int) : Prop :=
  (∀ z ∈ zs, -9223372036854775808 ≤ z ∧ z ≤ 9223372036854775807) ∧ (0 < zs.length → ∃ b off, a = some ⟨b, off, none⟩ ∧ b < w.heap.size ∧ ∀ i, i < zs.length → w.cell? ⟨b, off + i, none⟩ = some (.int .i64 (zs.getD i 0)))

/-- A slice value that the call itself made, from block 'B' on: it owns the numbers 'zs'. -/
def OwI (w : World) (B g cap : Nat) (zs : List Int) : Prop :=
  w.ownsRow B 3 1 (.slice (some ⟨g, 0, none⟩) zs.length cap) zs.length (zs.map (Value.int .i64)) ∧ ∀ z ∈ zs, -9223372036854775808 ≤ z ∧ z ≤ 9223372036854775807

theorem OwI.lt {w : World} {B g cap : Nat} {zs : List Int} (h : OwI w B g cap zs) : B ≤ g ∧ g < w.heap.size := h.1.lt g rfl

theorem OwI.cell {w : World} {B g cap : Nat} {zs : List Int} (h : OwI w B g cap zs) (i : Nat) (hi : i < zs.length) : w.cell? ⟨g, i, none⟩ = some (.int .i64 (zs.getD i 0)) := by
  rw [h.1.cellAt i (by omega)]
  simp [List.getElem?_eq_getElem hi]

theorem OwI.byt {w : World} {B g cap : Nat} {zs : List Int} (h : OwI w B g cap zs) : Ins w (some ⟨g, 0, none⟩) zs :=
  ⟨h.2, fun _ => ⟨g, 0, rfl, h.lt.2, fun i hi => by rw [Nat.zero_add]; exact h.cell i hi⟩⟩

theorem Ins.below {w w' : World} {a : Option Addr} {zs : List Int} {B : Nat} (h : Ins w a zs) (hb : Below B w w') (hB : w.heap.size ≤ B) : Ins w' a zs := by
  refine ⟨h.1, fun hz => ?_⟩
  obtain ⟨b, off, rfl, hlt, hc⟩ := h.2 hz
  refine ⟨b, off, rfl, Nat.lt_of_lt_of_le hlt hb.size, fun i hi => ?_⟩
  rw [hb.cell (p := ⟨b, off + i, none⟩) (Nat.lt_of_lt_of_le hlt hB)]
  exact hc i hi

theorem OwI.below {w w' : World} {B B' g cap : Nat} {zs : List Int} (h : OwI w B g cap zs) (hb : Below B' w w') (hB : w.heap.size ≤ B') : OwI w' B g cap zs := by
  refine ⟨⟨h.1.1, ?_⟩, h.2⟩
  rcases h.1.2 with ⟨h', _⟩ | ⟨g', cap', cur, h', hg, hh, r⟩
  · simp at h'
  · refine .inr ⟨g', cap', cur, h', hg, ?_, r⟩
    rw [hb.block g' (by have := (Array.getElem?_eq_some_iff.1 hh).1; omega)]
    exact hh

theorem OwI.mono {w : World} {B B' g cap : Nat} {zs : List Int} (h : OwI w B g cap zs) (hB : B' ≤ B) : OwI w B' g cap zs := by
  refine ⟨⟨h.1.1, ?_⟩, h.2⟩
  rcases h.1.2 with ⟨h', _⟩ | ⟨g', cap', cur, h', hg, r⟩
  · simp at h'
  · exact .inr ⟨g', cap', cur, h', by omega, r⟩

theorem Ins.len_pos {w : World} {a : Option Addr} {zs : List Int} (h : Ins w a zs) (i : Nat) (hi : i < zs.length) : ∃ b off, a = some ⟨b, off, none⟩ ∧ b < w.heap.size ∧ ∀ i, i < zs.length → w.cell? ⟨b, off + i, none⟩ = some (.int .i64 (zs.getD i 0)) := h.2 (by omega)

theorem part_rngI (zs : List Int) (k : Nat) (h : ∀ z ∈ zs, -9223372036854775808 ≤ z ∧ z ≤ 9223372036854775807) : ∀ z ∈ part zs k, -9223372036854775808 ≤ z ∧ z ≤ 9223372036854775807 := by
  intro z hz
  simp only [part, List.mem_append, List.mem_replicate] at hz
  rcases hz with hz | ⟨_, rfl⟩
  · exact h z (List.mem_of_mem_take hz)
  · omega

theorem getD_rngI {zs : List Int} (h : ∀ z ∈ zs, -9223372036854775808 ≤ z ∧ z ≤ 9223372036854775807) (i : Nat) : -9223372036854775808 ≤ zs.getD i 0 ∧ zs.getD i 0 ≤ 9223372036854775807 := by
  rw [List.getD_eq_getElem?_getD]
  by_cases hi : i < zs.length
  · rw [List.getElem?_eq_getElem hi]; exact h _ (List.getElem_mem hi)
  · rw [List.getElem?_eq_none (by omega)]; simp

/-- A store into an owned row. -/
theorem OwI.store {w : World} {B g cap : Nat} {zs : List Int} (h : OwI w B g cap zs) (i : Nat) (z : Int) (hz : -9223372036854775808 ≤ z ∧ z ≤ 9223372036854775807) : OwI (w.setCell ⟨g, i, none⟩ (.int .i64 z)) B g cap (zs.set i z) := by
  have := (h.1.stored i (.int .i64 z)).1
  refine ⟨?_, ?_⟩
  · simpa [List.map_set] using this
  · intro y hy
    rcases List.mem_or_eq_of_mem_set hy with hy | rfl
    · exact h.2 y hy
    · exact hz

theorem OwI.frozen {w : World} {B g cap : Nat} {zs : List Int} (h : OwI w B g cap zs) (i : Nat) : w.frozen? ⟨g, i, none⟩ = false := h.1.frozenAt i

/-- Another row, owned from a block further on, stays while a cell of this one is written. -/
theorem OwI.setCell_other {w : World} {B g cap : Nat} {zs : List Int} (h : OwI w B g cap zs) {p : Addr} (hp : p.block ≠ g) (u : Value) : OwI (w.setCell p u) B g cap zs := by
  refine ⟨⟨h.1.1, ?_⟩, h.2⟩
  rcases h.1.2 with ⟨h', _⟩ | ⟨g', cap', cur, h', hg, hh, r⟩
  · simp at h'
  · have e : g' = g := by simp at h'; exact h'.1.symm
    subst e
    exact .inr ⟨g', cap', cur, h', hg, by rw [Below.heap_setCell _ _ _ _ (by omega)]; exact hh, r⟩

theorem Ins.drewN {w : World} {a : Option Addr} {zs : List Int} (h : Ins w a zs) (n : Nat) : Ins (w.drewN n) a zs := h
theorem OwI.drewN {w : World} {B g cap : Nat} {zs : List Int} (h : OwI w B g cap zs) (n : Nat) : OwI (w.drewN n) B g cap zs := h

theorem OwI.alloc {w : World} {B g cap : Nat} {zs : List Int} (h : OwI w B g cap zs) (ob : Obj) : OwI (w.alloc ob) B g cap zs := h.below ((Below.refl w.heap.size w).alloc (Nat.le_refl _) ob) (Nat.le_refl _)
theorem Ins.alloc {w : World} {a : Option Addr} {zs : List Int} (h : Ins w a zs) (ob : Obj) : Ins (w.alloc ob) a zs := h.below ((Below.refl w.heap.size w).alloc (Nat.le_refl _) ob) (Nat.le_refl _)
end Go.Proofs.YtapdejphceflaaaGreatDoor
namespace Go.Proofs.YtapdejphceflaaaGreatDoor
open Go.RowKit
set_option linter.unusedVariables false

/-- How many noughts a row begins with. -/
def nou : List Int → Nat
  | [] => 0
  | z :: t => if z = 0 then nou t + 1 else 0
theorem nou_le (l : List Int) : nou l ≤ l.length := by
  induction l with
  | nil => simp [nou]
  | cons z t ih => simp only [nou, List.length_cons]; split <;> omega
theorem nou_zero (l : List Int) (k : Nat) (h : k < nou l) : l.getD k 0 = 0 := by
  induction l generalizing k with
  | nil => simp [nou] at h
  | cons z t ih =>
    simp only [nou] at h
    split at h
    · rename_i hz
      cases k with
      | zero => simpa using hz
      | succ k => simpa using ih k (by omega)
    · omega
theorem nou_stop (l : List Int) (h : nou l < l.length) : l.getD (nou l) 0 ≠ 0 := by
  induction l with
  | nil => simp [nou] at h
  | cons z t ih =>
    by_cases hz : z = 0
    · have e : nou (z :: t) = nou t + 1 := by simp [nou, hz]
      rw [e] at h ⊢
      simpa using ih (by simpa using h)
    · have e : nou (z :: t) = 0 := by simp [nou, hz]
      rw [e]
      simpa using hz
/-- How many noughts are told behind the one at i. -/
def run (zs : List Int) (i : Nat) : Nat := min (nou (zs.drop (i + 1))) 7
/-- Bits and number, from the i-th length on. -/
def lp (zs : List Int) : Nat → Nat → Nat → Nat → Nat × Nat
  | 0, _, n, V => (n, V)
  | f + 1, i, n, V => if i < zs.length then (if zs.getD i 0 = 0 then lp zs f (i + 1 + run zs i) (n + 7) (V + run zs i * 2 ^ (n + 4)) else lp zs f (i + 1) (n + 4) (V + (zs.getD i 0).toNat * 2 ^ n)) else (n, V)
def lpF (zs : List Int) : Nat × Nat := lp zs zs.length 0 0 0
theorem lp_end (zs : List Int) (f i n V : Nat) (h : ¬ i < zs.length) : lp zs f i n V = (n, V) := by
  cases f with
  | zero => rfl
  | succ f => simp [lp, h]
theorem lp_zero (zs : List Int) (f i n V : Nat) (h : i < zs.length) (hz : zs.getD i 0 = 0) : lp zs (f + 1) i n V = lp zs f (i + 1 + run zs i) (n + 7) (V + run zs i * 2 ^ (n + 4)) := by
  simp only [lp]; rw [if_pos h, if_pos hz]
theorem lp_pos (zs : List Int) (f i n V : Nat) (h : i < zs.length) (hz : ¬ zs.getD i 0 = 0) : lp zs (f + 1) i n V = lp zs f (i + 1) (n + 4) (V + (zs.getD i 0).toNat * 2 ^ n) := by
  simp only [lp]; rw [if_pos h, if_neg hz]
theorem lp_le (zs : List Int) (f i n V : Nat) : (lp zs f i n V).1 ≤ n + 7 * f := by
  induction f generalizing i n V with
  | zero => simp [lp]
  | succ f ih =>
    simp only [lp]
    split
    · split
      · have := ih (i + 1 + run zs i) (n + 7) (V + run zs i * 2 ^ (n + 4)); omega
      · have := ih (i + 1) (n + 4) (V + (zs.getD i 0).toNat * 2 ^ n); omega
    · simp
theorem run_le (zs : List Int) (i : Nat) (h : i < zs.length) : run zs i ≤ 7 ∧ i + 1 + run zs i ≤ zs.length := by
  have := nou_le (zs.drop (i + 1))
  rw [List.length_drop] at this
  unfold run
  omega
theorem drop_getD (zs : List Int) (i j : Nat) : (zs.drop i).getD j 0 = zs.getD (i + j) 0 := by simp [List.getD_eq_getElem?_getD]
theorem run_in (zs : List Int) (i j : Nat) (hj : j < run zs i) : j < 7 ∧ i + j + 1 < zs.length ∧ zs.getD (i + j + 1) 0 = 0 := by
  have h1 : j < nou (zs.drop (i + 1)) := by unfold run at hj; omega
  have h2 := nou_le (zs.drop (i + 1))
  rw [List.length_drop] at h2
  have h3 := nou_zero _ j h1
  rw [drop_getD] at h3
  refine ⟨by unfold run at hj; omega, by omega, ?_⟩
  rw [← h3]; congr 1; omega
theorem run_out (zs : List Int) (i : Nat) (hi : i < zs.length) (h7 : run zs i < 7) (hl : i + run zs i + 1 < zs.length) : zs.getD (i + run zs i + 1) 0 ≠ 0 := by
  have h1 : run zs i = nou (zs.drop (i + 1)) := by unfold run at *; omega
  have h2 := nou_stop (zs.drop (i + 1)) (by rw [List.length_drop, ← h1]; omega)
  rw [← h1, drop_getD] at h2
  intro h
  apply h2
  rw [← h]; congr 1; omega
end Go.Proofs.YtapdejphceflaaaGreatDoor
