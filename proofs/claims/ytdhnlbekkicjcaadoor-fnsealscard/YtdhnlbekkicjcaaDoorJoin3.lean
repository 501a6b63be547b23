/-
  BitsJoin of the program.
-/
import Derived.Test.YtdhnlbekkicjcaaDoorJoin2
import Derived.Test.YtdhnlbekkicjcaaDoorPour
import Derived.Test.YtdhnlbekkicjcaaDoorPut3
import Derived.Test.YtdhnlbekkicjcaaDoorOkI
namespace Go.Proofs.YtdhnlbekkicjcaaDoor
open Go.RowKit
set_option linter.unusedVariables false

/-- The two sentinels hold two pointers that are not the same, each to a block of its own. -/
structure Two (w : World) (p q : Addr) : Prop where
  over : w.cell? ⟨2, 0, none⟩ = some (.iface 105 (.pointer (some p)))
  full : w.cell? ⟨1, 0, none⟩ = some (.iface 105 (.pointer (some q)))
  ne : q ≠ p
  hp : ∃ c t, w.heap[p.block]? = some (.cells c t (0, 0))
  hq : ∃ c t, w.heap[q.block]? = some (.cells c t (0, 0))

theorem Two.lt {w : World} {p q : Addr} (h : Two w p q) : 2 < w.heap.size ∧ 1 < w.heap.size := ⟨World.block_lt_of_cell? _ _ h.over, World.block_lt_of_cell? _ _ h.full⟩

theorem Two.below {w w' : World} {p q : Addr} (h : Two w p q) (hb : Below w.heap.size w w') : Two w' p q := by
  obtain ⟨c, t, hp⟩ := h.hp
  obtain ⟨c', t', hq⟩ := h.hq
  exact ⟨keep hb h.lt.1 h.over, keep hb h.lt.2 h.full, h.ne, ⟨c, t, (hb.block _ (Array.getElem?_eq_some_iff.1 hp).1).trans hp⟩, ⟨c', t', (hb.block _ (Array.getElem?_eq_some_iff.1 hq).1).trans hq⟩⟩

theorem Two.is {w : World} {p q : Addr} (h : Two w p q) :
    Calls Tryd.prog 63 #[.iface 105 (.pointer (some q)), .iface 105 (.pointer (some p))] w fun e w' => e = .returned (.bool false) ∧ w' = w := by
  obtain ⟨c, t, hp⟩ := h.hp
  obtain ⟨c', t', hq⟩ := h.hq
  obtain ⟨i, hi, hcmp⟩ := Option.map_eq_some_iff.1 isComp
  obtain ⟨j, hj, hjs⟩ := Option.map_eq_some_iff.1 isSize
  exact is_other q p w (run_eql_iface_ptr_other w Tryd.underlying62 Tryd.underlying105 hi hcmp hj (by omega) h.ne hq hp)

theorem Stay.upto {w wr w' : World} {a : Option Addr} {K ca : Nat} {N : Int} {b : Option Addr} {L cb : Nat} {m : Int} {B D : Nat} (h : Stay w wr a K ca N b L cb m B) (hb : Below D wr w') (hD : B ≤ D) : Stay w w' a K ca N b L cb m B := by
  have hB := h.hB
  exact ⟨h.bel.trans (hb.mono (by omega)), keep hb (by omega) h.a0, keep hb (by omega) h.a1, keep hb (by omega) h.b0, keep hb (by omega) h.b1, keep hb (by omega) h.r0, keep hb (by omega) h.r1, (hb.frozen (p := ⟨w.heap.size + 1 + 1, 0, none⟩) (by simp; omega)).trans h.f0, (hb.frozen (p := ⟨w.heap.size + 1 + 1, 1, none⟩) (by simp; omega)).trans h.f1, h.hB, Nat.le_trans h.sz hb.size⟩

set_option maxHeartbeats 1600000 in
theorem implJoin_bad (a : Option Addr) (cap : Nat) (zs : List Int) (N : Int) (b : Option Addr) (cb : Nat) (ys : List Int) (M : Int) (w : World) (ha : Byt w a zs) (hb : Byt w b ys) (hl : zs.length ≤ 281474976710656) (hl2 : ys.length ≤ 281474976710656) (h : ¬ (okB N zs = true ∧ okB M ys = true)) :
    Calls Tryd.prog 24 #[.agg #[.slice a zs.length cap, .int .i64 N], .agg #[.slice b ys.length cb, .int .i64 M]] w fun e w' =>
      e = .returned (.tuple #[.agg #[.slice none 0 0, .int .i64 0], .bool false]) ∧ Below w.heap.size w w' := by
  have hst := Stay.start w a zs.length cap N b ys.length cb M
  by_cases hO : okB N zs = true
  · have HO : Hid (okB N zs = true) := hO
    have hP' : okB M ys = false := by
      cases hh : okB M ys with
      | false => rfl
      | true => exact absurd ⟨hO, hh⟩ h
    have HP : Hid (okB M ys = false) := hP'
    clear hO hP' h
    go_enter Tryd.func24, Tryd.ntmps24
    go_wp2_with fail
    refine (implOk_any a cap zs _ _ (ha.below hst.bel (Nat.le_refl _)) hl).mono ?_
    rintro e w1 ⟨rfl, hb1⟩
    rw [HO.out]
    have hst1 := hst.step hb1
    have q0 := hst1.b0
    have q1 := hst1.b1
    clear hb1 hst
    go_wp2_with fail
    refine (implOk_any b cb ys _ _ (hb.below hst1.bel (Nat.le_refl _)) hl2).mono ?_
    rintro e w2 ⟨rfl, hb2⟩
    rw [HP.out]
    have hst2 := hst1.step hb2
    clear q0 q1 hb2 hst1
    have r0 := hst2.r0
    have r1 := hst2.r1
    have t0 := hst2.f0
    have t1 := hst2.f1
    have hbb := hst2.bel
    clear hst2
    go_wp2
    exact bodyPost_ret (v := .tuple #[.agg #[.slice none 0 0, .int .i64 0], .bool false]) (by simp [results, Tryd.results24, go_sem, r0, r1]) rfl ⟨rfl, by repeat (first | exact hbb | refine Below.setCell ?_ (by simp; omega) _)⟩
  · have hO' : okB N zs = false := by simpa using hO
    have HO : Hid (okB N zs = false) := hO'
    clear hO hO' h
    go_enter Tryd.func24, Tryd.ntmps24
    go_wp2_with fail
    refine (implOk_any a cap zs _ _ (ha.below hst.bel (Nat.le_refl _)) hl).mono ?_
    rintro e w1 ⟨rfl, hb1⟩
    rw [HO.out]
    have hst1 := hst.step hb1
    have r0 := hst1.r0
    have r1 := hst1.r1
    have t0 := hst1.f0
    have t1 := hst1.f1
    have hbb := hst1.bel
    clear hb1 hst hst1
    go_wp2
    exact bodyPost_ret (v := .tuple #[.agg #[.slice none 0 0, .int .i64 0], .bool false]) (by simp [results, Tryd.results24, go_sem, r0, r1]) rfl ⟨rfl, by repeat (first | exact hbb | refine Below.setCell ?_ (by simp; omega) _)⟩

set_option maxHeartbeats 2000000 in
/-- Both are bits: one behind the other, or none. -/
theorem implJoin_ok (a : Option Addr) (cap : Nat) (zs : List Int) (b : Option Addr) (cb : Nat) (ys : List Int) (k j : Nat) (p q : Addr) (w : World) (ha : Byt w a zs) (hb : Byt w b ys) (hT : Two w p q) (hO : okB (k : Int) zs = true) (hP : okB (j : Int) ys = true) :
    Calls Tryd.prog 24 #[.agg #[.slice a zs.length cap, .int .i64 k], .agg #[.slice b ys.length cb, .int .i64 j]] w fun e w' =>
      Below w.heap.size w w' ∧ (4096 < k + j → e = .returned (.tuple #[.agg #[.slice none 0 0, .int .i64 0], .bool false])) ∧
      (k + j ≤ 4096 → ∃ a' cp, e = .returned (.tuple #[.agg #[.slice a' (enc (k + j) (val zs + val ys * 2 ^ k)).length cp, .int .i64 ((k + j : Nat) : Int)], .bool true]) ∧
        Mine w' w.heap.size w'.heap.size a' cp (enc (k + j) (val zs + val ys * 2 ^ k))) := by
  have hst := Stay.start w a zs.length cap (k : Int) b ys.length cb (j : Int)
  have HO : Hid (okB (k : Int) zs = true) := hO
  have HP : Hid (okB (j : Int) ys = true) := hP
  obtain ⟨k', hk', hn1, hE1, hV1⟩ := okB_enc hO ha.1
  obtain rfl : k = k' := by omega
  obtain ⟨j', hj', hn2, hE2, hV2⟩ := okB_enc hP hb.1
  obtain rfl : j = j' := by omega
  have hl : zs.length ≤ 1048576 := by rw [hE1, enc_len]; omega
  have hl2 : ys.length ≤ 1048576 := by rw [hE2, enc_len]; omega
  have H1 : Hid (zs = enc k (val zs) ∧ val zs < 2 ^ k) := ⟨hE1, hV1⟩
  have H2 : Hid (ys = enc j (val ys) ∧ val ys < 2 ^ j) := ⟨hE2, hV2⟩
  generalize hV : val zs = V at *
  generalize hU : val ys = U at *
  clear hO hP hE1 hV1 hE2 hV2 hk' hj' hV hU
  go_enter Tryd.func24, Tryd.ntmps24
  go_wp2_with fail
  refine (implOk_any a cap zs _ _ (ha.below hst.bel (Nat.le_refl _)) (by omega)).mono ?_
  rintro e w1 ⟨rfl, hb1⟩
  rw [HO.out]
  have hst1 := hst.step hb1
  have q0 := hst1.b0
  have q1 := hst1.b1
  clear hb1 hst
  go_wp2_with fail
  refine (implOk_any b cb ys _ _ (hb.below hst1.bel (Nat.le_refl _)) (by omega)).mono ?_
  rintro e w2 ⟨rfl, hb2⟩
  rw [HP.out]
  have hst2 := hst1.step hb2
  clear q0 q1 hb2 hst1
  have p0 := hst2.a0
  have p1 := hst2.a1
  go_wp2_with fail
  refine (newWriter_any a cap zs (k : Int) 4096 _ (ha.below hst2.bel (Nat.le_refl _)) hl).mono ?_
  rintro e w3 ⟨R, g, rfl, hR, hown, hRge, hb3⟩
  have hst3 := hst2.step hb3
  have z2 := hst2.sz
  have hB := hst2.hB
  have z3 := hb3.size
  clear p0 p1 hb3 hst2
  have q0 := hst3.b0
  have q1 := hst3.b1
  have HST : Hid _ := hst3
  have HR : Hid _ := (⟨hR, hown⟩ : _ ∧ _)
  clear hst3 hR hown
  go_wp2_with fail
  have HST3 : Hid _ := HST.out.step ((Below.refl w3.heap.size w3).alloc (Nat.le_refl _) (Obj.cells #[.slice b ys.length cb, .int .i64 j, .int .i64 0] 68))
  have hRl : R < w3.heap.size := (Array.getElem?_eq_some_iff.1 HR.out.1).1
  have hTw := hT.below HST3.out.bel
  have hv3 : OwnV (w3.alloc (Obj.cells #[.slice b ys.length cb, .int .i64 j, .int .i64 0] 68)) w2.heap.size (.slice (some ⟨g, 0, none⟩) zs.length zs.length) (enc k V) := by
    have := (HR.out.2.alloc (Obj.cells #[.slice b ys.length cb, .int .i64 j, .int .i64 0] 68)).v
    rw [← H1.out.1]
    exact this
  have hlt := hT.lt
  refine (pour_any R w2.heap.size w3.heap.size _ b cb ys k V j j U 0 _ _ _ _ ((Below.heap_alloc _ _ _ hRl).trans HR.out.1) hv3 H1.out.2 (by simp; omega) (heap_alloc_new w3 _) (hb.below HST3.out.bel (Nat.le_refl _)) H2.out.1 hn1 (Nat.le_refl _) hn2 (Nat.zero_le _) hRge z3 (by omega) ?_ hTw.over hTw.full).mono ?_
  · intro hp x hx
    obtain ⟨bb, off, he, hbl, _⟩ := hb.2 hp
    rw [he] at hx
    simp at hx
    rw [← hx]
    simp
    omega
  rintro e w4 ⟨hb4, hyes, hno⟩
  rw [Nat.sub_zero, Nat.pow_zero, Nat.div_one, Nat.mod_eq_of_lt H2.out.2] at hyes
  rw [Nat.sub_zero] at hno
  have HST4 : Hid _ := HST3.out.upto hb4 z2
  have hT4 := hT.below HST4.out.bel
  have e0 := hT4.over
  have z4 : w2.heap.size ≤ w4.heap.size := by have := hb4.size; simp at this; omega
  clear HST HST3 hTw hv3 HR hb4 q0 q1
  by_cases hfit : k + j ≤ 4096
  · obtain ⟨rfl, v', hR4, hv4⟩ := hyes hfit
    clear hyes hno
    obtain ⟨a', cp, rfl, hmine⟩ := hv4.mine
    generalize hYS : enc (k + j) (V + U * 2 ^ k) = xs at *
    have HYS : Hid (enc (k + j) (V + U * 2 ^ k) = xs) := hYS
    have HM : Hid (Mine w4 w2.heap.size w4.heap.size a' cp xs) := hmine
    have d0 : w4.cell? ⟨R, 0, none⟩ = some (.slice a' xs.length cp) := cellR (j := 0) hR4 rfl
    have d1 : w4.cell? ⟨R, 1, none⟩ = some (.int .i64 ((k + j : Nat) : Int)) := cellR (j := 1) hR4 rfl
    clear hYS hR4 hv4 hmine
    obtain ⟨w5, rfl⟩ : ∃ w5, w5 = w4 := ⟨_, rfl⟩
    have x0 := HST4.out.r0
    have x1 := HST4.out.r1
    have y0 := HST4.out.f0
    have y1 := HST4.out.f1
    have HS : Hid (Below w.heap.size w w5) := HST4.out.bel
    clear HST4 hT4
    go_wp2
    refine bodyPost_ret (v := .tuple #[.agg #[.slice a' xs.length cp, .int .i64 ((k + j : Nat) : Int)], .bool true]) (by simp [results, Tryd.results24, go_sem, x0, x1]) rfl ⟨?_, fun h => by omega, fun _ => ⟨a', cp, by rw [HYS.out], ?_⟩⟩
    · exact ((HS.out.setCell (by simp; omega) _).setCell (by simp; omega) _)
    · rw [HYS.out]
      have hO3 : Only (fun b => b = w.heap.size + 1 + 1) w5 ((w5.setCell ⟨w.heap.size + 1 + 1, 0, none⟩ (.slice a' xs.length cp)).setCell ⟨w.heap.size + 1 + 1, 1, none⟩ (.int .i64 ((k + j : Nat) : Int))) :=
        Only.setCell (Only.setCell (Only.refl (fun b => b = w.heap.size + 1 + 1) w5) (p := ⟨w.heap.size + 1 + 1, 0, none⟩) (.inl rfl) _) (p := ⟨w.heap.size + 1 + 1, 1, none⟩) (.inl rfl) _
      exact ((HM.out.only hO3 (fun b h1 _ => by omega)).mono (by omega) (by simp [World.setCell]))
  · obtain rfl := hno (by omega)
    clear hyes hno
    obtain ⟨w5, rfl⟩ : ∃ w5, w5 = w4 := ⟨_, rfl⟩
    have x0 := HST4.out.r0
    have x1 := HST4.out.r1
    have y0 := HST4.out.f0
    have y1 := HST4.out.f1
    have hbb := HST4.out.bel
    clear HST4 hT4
    go_wp2
    exact bodyPost_ret (v := .tuple #[.agg #[.slice none 0 0, .int .i64 0], .bool false]) (by simp [results, Tryd.results24, go_sem, x0, x1]) rfl ⟨by repeat (first | exact hbb | refine Below.setCell ?_ (by simp; omega) _), fun _ => rfl, fun h => by omega⟩
end Go.Proofs.YtdhnlbekkicjcaaDoor
