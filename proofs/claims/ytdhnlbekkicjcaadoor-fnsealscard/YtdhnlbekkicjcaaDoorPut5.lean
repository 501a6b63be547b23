/-
  What the program's BitsPut answers.
-/
import Derived.Test.YtdhnlbekkicjcaaDoorPutN
import Derived.Test.YtdhnlbekkicjcaaDoorOkI
namespace Go.Proofs.YtdhnlbekkicjcaaDoor
open Go.RowKit
set_option linter.unusedVariables false

set_option maxHeartbeats 1600000 in
theorem implPut_no (a : Option Addr) (cap : Nat) (zs : List Int) (N n width : Int) (w : World) (hb : Byt w a zs) (hl : zs.length ≤ 1048576) (s0 : Sent w 0) (s1 : Sent w 1) (hG : 0 < w.heap.size ∧ 1 < w.heap.size) (h : ¬ putOk N n width zs) :
    Calls Tryd.prog 11 #[.agg #[.slice a zs.length cap, .int .i64 N], .int .i64 n, .int .i64 width] w fun e w' =>
      e = .returned (.tuple #[.agg #[.slice none 0 0, .int .i64 0], .bool false]) ∧ Below w.heap.size w w' := by
  have hw : Below w.heap.size w ((w.alloc (Obj.cells #[Value.slice a zs.length cap, Value.int IntKind.i64 N] 24)).alloc (Obj.cells #[Value.slice none 0 0, Value.int IntKind.i64 0] 24)) := ((Below.refl _ _).alloc (Nat.le_refl _) _).alloc (by simp) _
  by_cases hO : okB N zs = true
  · obtain ⟨k, rfl, hn1, -, -⟩ := okB_enc hO hb.1
    have HO : Hid (okB (k : Int) zs = true) := hO
    have HN : Hid (¬ (0 ≤ width ∧ width ≤ 30 ∧ 0 ≤ n ∧ n < 2 ^ width.toNat ∧ width ≤ 4096 - (k : Int))) := fun h' => h ⟨hO, h'⟩
    clear hO h
    go_enter Tryd.func11, Tryd.ntmps11
    go_wp2_with fail
    refine (implOk_any a cap zs _ _ (hb.below hw (Nat.le_refl _)) (by omega)).mono ?_
    rintro e w1 ⟨rfl, hb1⟩
    rw [HO.out]
    have q0 : w1.cell? ⟨w.heap.size, 0, none⟩ = some (.slice a zs.length cap) := keep hb1 (by simp; omega) (keepA _ (by simp) (by simp))
    have q1 : w1.cell? ⟨w.heap.size, 1, none⟩ = some (.int .i64 k) := keep hb1 (by simp; omega) (keepA _ (by simp) (by simp))
    have z1 : w.heap.size + 1 < w1.heap.size := by have := hb1.size; simp at this; omega
    have r0 : w1.cell? ⟨w.heap.size + 1, 0, none⟩ = some (.slice none 0 0) := keep hb1 (by simp) (by simp)
    have r1 : w1.cell? ⟨w.heap.size + 1, 1, none⟩ = some (.int .i64 0) := keep hb1 (by simp) (by simp)
    have t0 : w1.frozen? ⟨w.heap.size + 1, 0, none⟩ = false := (hb1.frozen (p := ⟨w.heap.size + 1, 0, none⟩) (by simp)).trans (by simp)
    have t1 : w1.frozen? ⟨w.heap.size + 1, 1, none⟩ = false := (hb1.frozen (p := ⟨w.heap.size + 1, 1, none⟩) (by simp)).trans (by simp)
    have hbb := hw.trans (hb1.mono (by simp; omega))
    clear hb1 hw
    go_wp2_with fail
    refine (newWriter_any a cap zs (k : Int) 4096 _ (hb.below hbb (Nat.le_refl _)) hl).mono ?_
    rintro e w2 ⟨R, g, rfl, hR, hown, hRge, hb2⟩
    have x0 := keep hb2 z1 r0
    have x1 := keep hb2 z1 r1
    have y0 := (hb2.frozen (p := ⟨w.heap.size + 1, 0, none⟩) z1).trans t0
    have y1 := (hb2.frozen (p := ⟨w.heap.size + 1, 1, none⟩) z1).trans t1
    have hbb2 := hbb.trans (hb2.mono (by omega))
    clear q0 q1 r0 r1 t0 t1
    go_wp2_with fail
    refine (wput_no R _ k n width 4096 _ hR (by omega) (by omega) (by omega) (s0.below hbb2 (by omega)) (s1.below hbb2 (by omega)) HN.out).mono ?_
    rintro e w3 ⟨⟨T, y, rfl⟩, m, rfl⟩
    clear hR hown hb2 hbb hb s0 s1
    go_wp2
    exact bodyPost_ret (v := .tuple #[.agg #[.slice none 0 0, .int .i64 0], .bool false]) (by simp [results, Tryd.results11, go_sem, x0, x1]) rfl ⟨rfl, by repeat (first | exact hbb2 | exact below_drewN hbb2 _ | refine Below.drew ?_ | refine below_drewN ?_ _ | refine Below.setCell ?_ (by simp) _)⟩
  · have hO' : okB N zs = false := by simpa using hO
    have HO : Hid (okB N zs = false) := hO'
    clear hO hO' h
    go_enter Tryd.func11, Tryd.ntmps11
    go_wp2_with fail
    refine (implOk_any a cap zs _ _ (hb.below hw (Nat.le_refl _)) (by omega)).mono ?_
    rintro e w1 ⟨rfl, hb1⟩
    rw [HO.out]
    have r0 : w1.cell? ⟨w.heap.size + 1, 0, none⟩ = some (.slice none 0 0) := keep hb1 (by simp) (by simp)
    have r1 : w1.cell? ⟨w.heap.size + 1, 1, none⟩ = some (.int .i64 0) := keep hb1 (by simp) (by simp)
    have t0 : w1.frozen? ⟨w.heap.size + 1, 0, none⟩ = false := (hb1.frozen (p := ⟨w.heap.size + 1, 0, none⟩) (by simp)).trans (by simp)
    have t1 : w1.frozen? ⟨w.heap.size + 1, 1, none⟩ = false := (hb1.frozen (p := ⟨w.heap.size + 1, 1, none⟩) (by simp)).trans (by simp)
    have hbb := hw.trans (hb1.mono (by simp; omega))
    clear hb1
    go_wp2
    exact bodyPost_ret (v := .tuple #[.agg #[.slice none 0 0, .int .i64 0], .bool false]) (by simp [results, Tryd.results11, go_sem, r0, r1]) rfl ⟨rfl, by repeat (first | exact hbb | refine Below.setCell ?_ (by simp) _)⟩

set_option maxHeartbeats 1600000 in
theorem implPut_yes (a : Option Addr) (cap : Nat) (zs : List Int) (N n width : Int) (w : World) (hb : Byt w a zs) (h : putOk N n width zs) :
    Calls Tryd.prog 11 #[.agg #[.slice a zs.length cap, .int .i64 N], .int .i64 n, .int .i64 width] w fun e w' =>
      ∃ a' cp, e = .returned (.tuple #[.agg #[.slice a' (enc (N.toNat + width.toNat) (val zs + n.toNat * 2 ^ N.toNat)).length cp, .int .i64 (N + width)], .bool true]) ∧
        Mine w' w.heap.size w'.heap.size a' cp (enc (N.toNat + width.toNat) (val zs + n.toNat * 2 ^ N.toNat)) ∧ Below w.heap.size w w' := by
  obtain ⟨hO, c1, c2, c3, c4, c5⟩ := h
  have hw : Below w.heap.size w ((w.alloc (Obj.cells #[Value.slice a zs.length cap, Value.int IntKind.i64 N] 24)).alloc (Obj.cells #[Value.slice none 0 0, Value.int IntKind.i64 0] 24)) := ((Below.refl _ _).alloc (Nat.le_refl _) _).alloc (by simp) _
  obtain ⟨k, rfl, hn1, he, hv⟩ := okB_enc hO hb.1
  have hl : zs.length ≤ 1048576 := by rw [he, enc_len]; omega
  have HO : Hid (okB (k : Int) zs = true) := hO
  have HE : Hid (zs = enc k (val zs)) := he
  have HV : Hid (val zs < 2 ^ k) := hv
  have HC4 : Hid (n < 2 ^ width.toNat) := c4
  clear hO he hv c4
  generalize hV : val zs = V at *
  clear hV
  simp only [Int.toNat_natCast]
  go_enter Tryd.func11, Tryd.ntmps11
  go_wp2_with fail
  refine (implOk_any a cap zs _ _ (hb.below hw (Nat.le_refl _)) (by omega)).mono ?_
  rintro e w1 ⟨rfl, hb1⟩
  rw [HO.out]
  have q0 : w1.cell? ⟨w.heap.size, 0, none⟩ = some (.slice a zs.length cap) := keep hb1 (by simp; omega) (keepA _ (by simp) (by simp))
  have q1 : w1.cell? ⟨w.heap.size, 1, none⟩ = some (.int .i64 k) := keep hb1 (by simp; omega) (keepA _ (by simp) (by simp))
  have z1 : w.heap.size + 1 < w1.heap.size := by have := hb1.size; simp at this; omega
  have r0 : w1.cell? ⟨w.heap.size + 1, 0, none⟩ = some (.slice none 0 0) := keep hb1 (by simp) (by simp)
  have r1 : w1.cell? ⟨w.heap.size + 1, 1, none⟩ = some (.int .i64 0) := keep hb1 (by simp) (by simp)
  have t0 : w1.frozen? ⟨w.heap.size + 1, 0, none⟩ = false := (hb1.frozen (p := ⟨w.heap.size + 1, 0, none⟩) (by simp)).trans (by simp)
  have t1 : w1.frozen? ⟨w.heap.size + 1, 1, none⟩ = false := (hb1.frozen (p := ⟨w.heap.size + 1, 1, none⟩) (by simp)).trans (by simp)
  have hbb := hw.trans (hb1.mono (by simp; omega))
  clear hb1 hw
  go_wp2_with fail
  refine (newWriter_any a cap zs (k : Int) 4096 _ (hb.below hbb (Nat.le_refl _)) hl).mono ?_
  rintro e w2 ⟨R, g, rfl, hR, hown, hRge, hb2⟩
  have x0 := keep hb2 z1 r0
  have x1 := keep hb2 z1 r1
  have y0 := (hb2.frozen (p := ⟨w.heap.size + 1, 0, none⟩) z1).trans t0
  have y1 := (hb2.frozen (p := ⟨w.heap.size + 1, 1, none⟩) z1).trans t1
  have z2 := hb2.size
  have hbb2 := hbb.trans (hb2.mono (by omega))
  clear q0 q1 r0 r1 t0 t1 hb2
  have hE2 : OwnV w2 w1.heap.size (.slice (some ⟨g, 0, none⟩) zs.length zs.length) (enc k V) := by
    have := hown.v
    rw [← HE.out]
    exact this
  have hlt2 := hown.lt
  go_wp2_with fail
  refine (wput_yes R w1.heap.size _ k V n width 4096 _ hR hE2 HV.out z2 c3 c1 c2 HC4.out c5 (by omega) (by omega)).mono ?_
  rintro e w3 ⟨rfl, v', hR3, hv3, honly3, hrow3⟩
  have hsz3 := honly3.size
  have hS : ∀ b, b < w1.heap.size → ¬ (b = R ∨ (Value.slice (some ⟨g, 0, none⟩) zs.length zs.length).ownBlock = some b) := by
    intro b hb' hh
    rcases hh with hh | hh
    · omega
    · simp [Value.ownBlock] at hh; omega
  have u0 := honly3.cell (by omega) (hS _ z1) x0
  have u1 := honly3.cell (by omega) (hS _ z1) x1
  have v0 : w3.frozen? ⟨w.heap.size + 1, 0, none⟩ = false := by
    rw [World.frozen?_of_block (honly3.block (w.heap.size + 1) (by omega) (hS _ z1))]; exact y0
  have v1 : w3.frozen? ⟨w.heap.size + 1, 1, none⟩ = false := by
    rw [World.frozen?_of_block (honly3.block (w.heap.size + 1) (by omega) (hS _ z1))]; exact y1
  have hbb3 : Below w.heap.size w w3 := hbb2.trans (honly3.below (by omega) (fun kk hk => by
    rcases hk with hk | hk
    · omega
    · simp [Value.ownBlock] at hk; omega))
  obtain ⟨a', cp, rfl, hmine⟩ := hv3.mine
  generalize hYS : enc (k + width.toNat) (V + n.toNat * 2 ^ k) = ys at *
  have d0 : w3.cell? ⟨R, 0, none⟩ = some (.slice a' ys.length cp) := cellR (j := 0) hR3 rfl
  have d1 : w3.cell? ⟨R, 1, none⟩ = some (.int .i64 ((k : Int) + width)) := by
    rw [cellR (j := 1) hR3 rfl]
    simp
    omega
  have HYS : Hid (enc (k + width.toNat) (V + n.toNat * 2 ^ k) = ys) := hYS
  have HM : Hid (Mine w3 w1.heap.size w3.heap.size a' cp ys) := hmine
  have HBB : Hid (Below w.heap.size w w3) := hbb3
  clear hYS hR3 hv3 honly3 hrow3 hmine hbb3 hS hE2 x0 x1 y0 y1 hbb2 hbb hown hb hR
  go_wp2
  refine bodyPost_ret (v := .tuple #[.agg #[.slice a' ys.length cp, .int .i64 ((k : Int) + width)], .bool true]) (by simp [results, Tryd.results11, go_sem, u0, u1]) rfl ⟨a', cp, by rw [HYS.out], ?_, ?_⟩
  · rw [HYS.out]
    have hO3 : Only (fun b => b = w.heap.size + 1) w3 ((w3.setCell ⟨w.heap.size + 1, 0, none⟩ (.slice a' ys.length cp)).setCell ⟨w.heap.size + 1, 1, none⟩ (.int .i64 ((k : Int) + width))) :=
      Only.setCell (Only.setCell (Only.refl (fun b => b = w.heap.size + 1) w3) (p := ⟨w.heap.size + 1, 0, none⟩) (.inl rfl) _) (p := ⟨w.heap.size + 1, 1, none⟩) (.inl rfl) _
    exact ((HM.out.only hO3 (fun b h1 _ => by omega)).mono (by omega) (by simp [World.setCell]))
  · exact ((HBB.out.setCell (by simp) _).setCell (by simp) _)
end Go.Proofs.YtdhnlbekkicjcaaDoor
