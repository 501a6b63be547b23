/-
  The program's pour: bits go over in parts of at most 30, until one of both streams fails.
-/
import Derived.Test.YtpknhljdnmondaaDoorSome1
import Derived.Test.YtpknhljdnmondaaDoorPut4
import Derived.Test.YtpknhljdnmondaaDoorJoin1
namespace Go.Proofs.YtpknhljdnmondaaDoor
open Go.RowKit
set_option linter.unusedVariables false

set_option maxHeartbeats 1600000 in
/-- What put answers where no room is left: just the sentinel. -/
theorem wput_full (R : Nat) (v : Value) (n : Nat) (x width room : Int) (X : Value) (w : World) (hR : w.heap[R]? = some (.cells #[v, .int .i64 n, .int .i64 room] 65 (0, 0))) (hn : n ≤ 4104) (hr0 : 0 ≤ room) (hroom : room ≤ 5000)
    (g1 : w.cell? ⟨2, 0, none⟩ = some X) (k1 : 0 ≤ width) (k2 : width ≤ 30) (k3 : 0 ≤ x) (k4' : x < 2 ^ width.toNat) (k5 : room - n < width) :
    Calls Tryd.prog 44 #[.pointer (some ⟨R, 0, none⟩), .int .i64 x, .int .i64 width] w fun e w' => e = .returned X ∧ ∃ m, w' = w.drewN m := by
  have k4 : x < wrap64 (2 ^ width.toNat) := by rw [wrap_pow _ (by omega)]; exact k4'
  have c1 : w.cell? ⟨R, 1, none⟩ = some (.int .i64 n) := cellR (j := 1) hR rfl
  have c2 : w.cell? ⟨R, 2, none⟩ = some (.int .i64 room) := cellR (j := 2) hR rfl
  clear hR k4'
  have hd : Hid (decide (0 ≤ width ∧ width ≤ 30) = true) := by simp [Hid]; omega
  go_enter Tryd.func44, Tryd.ntmps44
  go_wp2_with fail
  refine (widthOk_any width _).mono ?_
  rintro e w1 ⟨rfl, rfl⟩
  rw [hd.out]
  go_wp2
  go_quiet (fail)
  go_wp2
  go_ret
  exact ⟨rfl, _, rfl⟩

theorem OwnV.only {S : Nat → Prop} {w w' : World} {B : Nat} {v : Value} {zs : List Int} (h : OwnV w B v zs) (ho : Only S w w') (hs : ∀ k, v.ownBlock = some k → ¬ S k) : OwnV w' B v zs := by
  rcases h.1.2 with ⟨h1, h2⟩ | ⟨g, cap, cur, rfl, r⟩
  · exact ⟨⟨h.1.1, .inl ⟨h1, h2⟩⟩, h.2⟩
  · exact Own.only (g := g) (cap := cap) h ho (hs g rfl)

theorem OwnV.ne {w : World} {B k R : Nat} {v : Value} {zs : List Int} {cur : Array Value} {T : TypeId} (h : OwnV w B v zs) (hk : v.ownBlock = some k) (hR : w.heap[R]? = some (.cells cur T (0, 0))) (hT : T ≠ 5) : k ≠ R := by
  rcases h.1.2 with ⟨rfl, h2⟩ | ⟨g, cap, cur', rfl, hg, hh, r⟩
  · simp [Value.ownBlock] at hk
  · simp [Value.ownBlock] at hk
    subst hk
    exact Own.ne (g := g) (cap := cap) h hR hT

/-- Bytes that lie ahead of B stay where nothing ahead of B is written. -/
theorem Byt.belowB {w w' : World} {a : Option Addr} {zs : List Int} {B : Nat} (h : Byt w a zs) (hb : Below B w w') (hB : 0 < zs.length → ∀ x, a = some x → x.block < B) : Byt w' a zs := by
  refine ⟨h.1, fun hp => ?_⟩
  obtain ⟨g, off, rfl, hl, hc⟩ := h.2 hp
  have hg := hB hp _ rfl
  exact ⟨g, off, rfl, Nat.lt_of_lt_of_le hl hb.size, fun i hi => (hb.cell (p := ⟨g, off + i, none⟩) hg).trans (hc i hi)⟩

/-- How far the reader at Q is. -/
def atOf (w : World) (Q : Nat) : Nat := match w.cell? ⟨Q, 2, none⟩ with | some (.int _ p) => p.toNat | _ => 0

/-- What pour keeps. -/
structure Poured (w wr : World) (R B Q : Nat) (b : Option Addr) (L cb n V m U p : Nat) (u : Value) : Prop where
  hR : wr.heap[R]? = some (.cells #[u, .int .i64 ((n + p : Nat) : Int), .int .i64 4096] 65 (0, 0))
  hv : OwnV wr B u (enc (n + p) (V + (U % 2 ^ p) * 2 ^ n))
  hQ : wr.heap[Q]? = some (.cells #[.slice b L cb, .int .i64 m, .int .i64 p] 68 (0, 0))
  bel : Below B w wr

theorem Poured.drewN {w wr : World} {R B Q : Nat} {b : Option Addr} {L cb n V m U p : Nat} {u : Value} (h : Poured w wr R B Q b L cb n V m U p u) (k : Nat) : Poured w (wr.drewN k) R B Q b L cb n V m U p u :=
  ⟨h.hR, h.hv, h.hQ, below_drewN h.bel k⟩

theorem Poured.ne {w wr : World} {R B Q : Nat} {b : Option Addr} {L cb n V m U p : Nat} {u : Value} (h : Poured w wr R B Q b L cb n V m U p u) : Q ≠ R := by
  rintro rfl
  have := h.hR.symm.trans h.hQ
  simp at this

set_option maxRecDepth 100000 in
set_option maxHeartbeats 2000000 in
theorem pour_any (R B Q : Nat) (v : Value) (b : Option Addr) (cb : Nat) (ys : List Int) (n V m U : Nat) (T0 T1 : TypeId) (x0 x1 : Value) (w : World)
    (hR : w.heap[R]? = some (.cells #[v, .int .i64 n, .int .i64 4096] 65 (0, 0))) (hv : OwnV w B v (enc n V)) (hV : V < 2 ^ n) (hB : B ≤ w.heap.size)
    (hQ : w.heap[Q]? = some (.cells #[.slice b ys.length cb, .int .i64 m, .int .i64 0] 68 (0, 0))) (hb : Byt w b ys) (hy : ys = enc m U) (hU : U < 2 ^ m) (hn : n ≤ 4096) (hm : m ≤ 4096)
    (hBR : B ≤ R) (hBQ : B ≤ Q) (hG : 0 < B ∧ 2 < B) (hbB : 0 < ys.length → ∀ x, b = some x → x.block < B)
    (g0 : w.cell? ⟨0, 0, none⟩ = some (.iface T0 x0)) (g1 : w.cell? ⟨2, 0, none⟩ = some (.iface T1 x1)) :
    Calls Tryd.prog 52 #[.pointer (some ⟨R, 0, none⟩), .pointer (some ⟨Q, 0, none⟩)] w fun e w' =>
      Below B w w' ∧ (n + m ≤ 4096 → e = .returned (.iface T0 x0) ∧ ∃ v', w'.heap[R]? = some (.cells #[v', .int .i64 ((n + m : Nat) : Int), .int .i64 4096] 65 (0, 0)) ∧ OwnV w' B v' (enc (n + m) (V + U * 2 ^ n))) ∧
        (4096 < n + m → e = .returned (.iface T1 x1)) := by
  have HR : Hid (Poured w w R B Q b ys.length cb n V m U 0 v) := ⟨hR, by simpa [Nat.mod_one] using hv, hQ, Below.refl _ _⟩
  have HY : Hid (ys = enc m U) := hy
  have HVV : Hid (V < 2 ^ n) := hV
  have HUU : Hid (U < 2 ^ m) := hU
  clear hR hv hQ hy hV hU
  go_enter Tryd.func52, Tryd.ntmps52
  go_wp2
  go_loopw [] (fun wr => ∃ (p : Nat) (u : Value), p ≤ m ∧ n + p ≤ 4096 ∧ Poured w wr R B Q b ys.length cb n V m U p u) (fun wr => m - atOf wr Q)
  case atStart => exact ⟨0, v, Nat.zero_le _, by omega, HR.out⟩
  case round =>
    obtain ⟨p, u, hpm, hnp, hP⟩ := hrel
    have e0 := keep hP.bel hG.1 g0
    have e1 := keep hP.bel hG.2 g1
    have c1 : wr.cell? ⟨Q, 1, none⟩ = some (.int .i64 m) := cellR (j := 1) hP.hQ rfl
    have c2 : wr.cell? ⟨Q, 2, none⟩ = some (.int .i64 p) := cellR (j := 2) hP.hQ rfl
    have c0 : wr.cell? ⟨Q, 0, none⟩ = some (.slice b ys.length cb) := cellR (j := 0) hP.hQ rfl
    have hat : atOf wr Q = p := by simp [atOf, c2]
    by_cases hlt : p < m
    · have HP : Hid (Poured w wr R B Q b ys.length cb n V m U p u) := hP
      have HF : Hid (wr.frozen? ⟨Q, 2, none⟩ = false) := frozenR hP.hQ
      clear hP
      go_wp2_with fail
      refine (some_yes Q b cb ys m U p wr (by omega) (hb.belowB HP.out.bel hbB) HY.out hlt c0 c1 c2 HF.out).mono ?_
      rintro e w1 ⟨rfl, k1, rfl⟩
      obtain ⟨s, hs⟩ : ∃ s, s = min (m - p) 30 := ⟨_, rfl⟩
      rw [← hs]
      have hX : U / 2 ^ p % 2 ^ s < 2 ^ s := Nat.mod_lt _ (Nat.pow_pos (by omega))
      have HPP : Hid (V + (U % 2 ^ p) * 2 ^ n + (U / 2 ^ p % 2 ^ s) * 2 ^ (n + p) = V + (U % 2 ^ (p + s)) * 2 ^ n) := put_part n V U p s
      have HVP : Hid (V + (U % 2 ^ p) * 2 ^ n < 2 ^ (n + p)) := put_lt n V p (U % 2 ^ p) HVV.out (Nat.mod_lt _ (Nat.pow_pos (by omega)))
      generalize U / 2 ^ p % 2 ^ s = X at *
      have HXI : Hid ((X : Int) < 2 ^ ((s : Int)).toNat) := by
        have e : ((2 : Int) ^ s) = ((2 ^ s : Nat) : Int) := by simp
        rw [Int.toNat_natCast, e]
        show (X : Int) < _
        exact Int.ofNat_lt.2 hX
      have hP1 := HP.out.drewN k1
      have hne := hP1.ne
      have hszw := hP1.bel.size
      have hs1 : s ≤ 30 := by omega
      have hs2 : p + s ≤ m := by omega
      have hs3 : 0 < s := by omega
      clear hs hX
      have hO1 : Only (fun k => k = Q) (wr.drewN k1) ((wr.drewN k1).setCell ⟨Q, 2, none⟩ (.int .i64 ((p + s : Nat) : Int))) := Only.setCell (Only.refl (fun k => k = Q) (wr.drewN k1)) (p := ⟨Q, 2, none⟩) (.inl rfl) _
      have hR1 : ((wr.drewN k1).setCell ⟨Q, 2, none⟩ (.int .i64 ((p + s : Nat) : Int))).heap[R]? = some (.cells #[u, .int .i64 ((n + p : Nat) : Int), .int .i64 4096] 65 (0, 0)) := by
        rw [Below.heap_setCell _ _ _ _ (by simpa using hne.symm)]; exact hP1.hR
      have hQ1 : ((wr.drewN k1).setCell ⟨Q, 2, none⟩ (.int .i64 ((p + s : Nat) : Int))).heap[Q]? = some (.cells #[.slice b ys.length cb, .int .i64 m, .int .i64 ((p + s : Nat) : Int)] 68 (0, 0)) := by
        rw [heap_setCell_same _ Q 2 _ _ _ hP1.hQ]; simp
      have hv1 : OwnV ((wr.drewN k1).setCell ⟨Q, 2, none⟩ (.int .i64 ((p + s : Nat) : Int))) B u (enc (n + p) (V + (U % 2 ^ p) * 2 ^ n)) := OwnV.only hP1.hv hO1 (fun k hk => OwnV.ne hP1.hv hk hP1.hQ (by decide))
      have hb1 : Below B w ((wr.drewN k1).setCell ⟨Q, 2, none⟩ (.int .i64 ((p + s : Nat) : Int))) := hP1.bel.setCell (by simpa using hBQ) _
      have hz1 : B ≤ ((wr.drewN k1).setCell ⟨Q, 2, none⟩ (.int .i64 ((p + s : Nat) : Int))).heap.size := Nat.le_trans hB hb1.size
      clear hP1 hO1 HP HF c0 c1 c2 e0 e1
      generalize (wr.drewN k1).setCell ⟨Q, 2, none⟩ (.int .i64 ((p + s : Nat) : Int)) = w1 at *
      have H1 : Hid _ := (⟨hR1, hQ1, hv1, hb1⟩ : _ ∧ _ ∧ _ ∧ _)
      clear hR1 hQ1 hv1 hb1
      by_cases hfit : n + p + s ≤ 4096
      · go_wp2_with fail
        refine (wput_yes R B u (n + p) (V + (U % 2 ^ p) * 2 ^ n) (X : Int) (s : Int) 4096 _ H1.out.1 H1.out.2.2.1 HVP.out hz1 (by omega) (by omega) (by omega) HXI.out (by omega) (by omega) (by omega)).mono ?_
        rintro e w2 ⟨rfl, v', hR2, hv2, ho2, hrow2⟩
        simp only [Int.toNat_natCast] at hR2 hv2
        rw [HPP.out] at hv2
        have hQl : Q < w1.heap.size := (Array.getElem?_eq_some_iff.1 H1.out.2.1).1
        have hQ2 := (ho2.block Q hQl (by
          rintro (h | h)
          · exact hne h
          · exact OwnV.ne H1.out.2.2.1 h H1.out.2.1 (by decide) rfl)).trans H1.out.2.1
        have hb2 : Below B w w2 := H1.out.2.2.2.trans (ho2.below hz1 (by
          rintro k (h | h)
          · omega
          · exact (OwnV.ge H1.out.2.2.1 h).1))
        have HF : Hid (Poured w w2 R B Q b ys.length cb n V m U (p + s) v') := ⟨by rw [hR2, Nat.add_assoc], by rw [← Nat.add_assoc]; exact hv2, hQ2, hb2⟩
        have hat2 : atOf w2 Q = p + s := by simp [atOf, cellR (j := 2) hQ2 rfl]; omega
        clear hR2 hv2 hQ2 hb2 ho2 hrow2 H1
        go_wp2
        go_roundw
        case rel => exact ⟨p + s, v', by omega, by omega, HF.out⟩
        case measure => rw [hat, hat2]; omega
      · have e1 := keep H1.out.2.2.2 hG.2 g1
        go_wp2_with fail
        refine (wput_full R u (n + p) (X : Int) (s : Int) 4096 (.iface T1 x1) _ H1.out.1 (by omega) (by omega) (by omega) e1 (by omega) (by omega) (by omega) HXI.out (by omega)).mono ?_
        rintro e w2 ⟨rfl, k2, rfl⟩
        have HB2 : Hid (Below B w (w1.drewN k2)) := below_drewN H1.out.2.2.2 k2
        clear H1 e1
        generalize w1.drewN k2 = w2 at *
        go_wp2
        go_ret
        exact ⟨HB2.out, fun h => by omega, fun _ => rfl⟩
    · have hpe : p = m := by omega
      subst hpe
      have HP : Hid (Poured w wr R B Q b ys.length cb n V p U p u) := hP
      clear hP
      go_wp2_with fail
      refine (some_no Q p p (.iface T0 x0) wr (by omega) rfl c1 c2 e0).mono ?_
      rintro e w1 ⟨rfl, k1, rfl⟩
      have HP1 : Hid (Poured w (wr.drewN k1) R B Q b ys.length cb n V p U p u) := HP.out.drewN k1
      clear HP c0 c1 c2 e0 e1
      generalize wr.drewN k1 = wf at *
      go_wp2
      go_ret
      refine ⟨HP1.out.bel, fun _ => ⟨rfl, u, HP1.out.hR, ?_⟩, fun h => by omega⟩
      have := HP1.out.hv
      rw [Nat.mod_eq_of_lt HUU.out] at this
      exact this
end Go.Proofs.YtpknhljdnmondaaDoor
