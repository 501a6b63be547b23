/-
  What BitsSeal answers, in the model and in the program: a one behind the last bit.
-/
import Derived.Test.YtdhnlbekkicjcaaDoorOkS
import Derived.Test.YtdhnlbekkicjcaaDoorOwn1
import Derived.Test.YtdhnlbekkicjcaaDoorPutN
import Derived.Test.YtdhnlbekkicjcaaDoorOkI
namespace Go.Proofs.YtdhnlbekkicjcaaDoor
open Go.RowKit
set_option linter.unusedVariables false

set_option maxHeartbeats 1600000 in
theorem l1seal_any (a : Option Addr) (cap : Nat) (zs : List Int) (k V : Nat) (w : World) (hb : Byt w a zs) (he : zs = enc k V) (hv : V < 2 ^ k) (hk : k ≤ 4096) :
    Calls Tryd.prog 49 #[.agg #[.slice a zs.length cap, .int .i64 k]] w fun e w' =>
      ∃ a' cp, e = .returned (.slice a' (enc (k + 1) (V + 2 ^ k)).length cp) ∧ Mine w' (w.heap.size + 1) w'.heap.size a' cp (enc (k + 1) (V + 2 ^ k)) ∧ Below w.heap.size w w' := by
  have hw : Below w.heap.size w (w.alloc (Obj.cells #[Value.slice a zs.length cap, Value.int IntKind.i64 (k : Int)] 24)) := (Below.refl _ _).alloc (Nat.le_refl _) _
  have hl : zs.length ≤ 1048576 := by rw [he, enc_len]; omega
  have HE : Hid (zs = enc k V) := he
  have HV : Hid (V < 2 ^ k) := hv
  clear he hv
  go_enter Tryd.func49, Tryd.ntmps49
  go_wp2_with fail
  refine (l1own_any a cap zs (k : Int) _ (hb.below hw (Nat.le_refl _)) hl).mono ?_
  rintro e w2 ⟨g2, cp2, rfl, ho2, hb2⟩
  have z2 : w.heap.size < w2.heap.size := by have := hb2.size; simp at this; omega
  have hbb2 := hw.trans (hb2.mono (by simp))
  clear hb2 hw
  go_wp2_with fail
  have hE2 : OwnV (w2.alloc (Obj.cells #[Value.slice (some ⟨g2, 0, none⟩) zs.length cp2, Value.int IntKind.i64 (k : Int)] 24)) (w.heap.size + 1) (.slice (some ⟨g2, 0, none⟩) zs.length cp2) (enc k V) := by
    have := (ho2.alloc (Obj.cells #[Value.slice (some ⟨g2, 0, none⟩) zs.length cp2, Value.int IntKind.i64 (k : Int)] 24)).v
    rw [← HE.out]
    simpa using this
  refine (l1put_any w2.heap.size (w.heap.size + 1) _ k V 1 1 _ (heap_alloc_new w2 _) hE2 HV.out (by simp; omega) (by omega) (by omega) (by omega) (by omega) (by omega)).mono ?_
  rintro e w3 ⟨rfl, v', hR3, hv3, honly3, hrow3⟩
  have e1 : V + (1 : Int).toNat % 2 ^ (1 : Int).toNat * 2 ^ k = V + 2 ^ k := by simp
  have e2 : k + (1 : Int).toNat = k + 1 := by simp
  rw [e1, e2] at hv3
  have hlt2 := ho2.lt
  simp at hlt2
  have hbb3 : Below w.heap.size w w3 := (hbb2.alloc (by omega) _).trans (honly3.below (by simp; omega) (fun kk hk => by
    rcases hk with hk | hk
    · omega
    · simp [Value.ownBlock] at hk; omega))
  obtain ⟨a', cp, rfl, hmine⟩ := hv3.mine
  generalize hYS : enc (k + 1) (V + 2 ^ k) = ys at *
  have d0 : w3.cell? ⟨w2.heap.size, 0, none⟩ = some (.slice a' ys.length cp) := cellR (j := 0) hR3 rfl
  have HYS : Hid (enc (k + 1) (V + 2 ^ k) = ys) := hYS
  have HM : Hid (Mine w3 (w.heap.size + 1) w3.heap.size a' cp ys) := hmine
  have HBB : Hid (Below w.heap.size w w3) := hbb3
  clear hYS hR3 hv3 honly3 hrow3 hmine hbb3 hE2 hbb2 ho2 hb e1 e2
  go_wp2
  go_ret
  exact ⟨a', cp, by rw [HYS.out]; rfl, by rw [HYS.out]; exact HM.out, HBB.out⟩

set_option maxHeartbeats 1600000 in
theorem specSeal_yes (a : Option Addr) (cap : Nat) (zs : List Int) (k : Nat) (w : World) (hb : Byt w a zs) (hO : okB (k : Int) zs = true) (he : zs = enc k (val zs)) (hv : val zs < 2 ^ k) (hk : k ≤ 4096) :
    Calls Tryd.prog 34 #[.agg #[.slice a zs.length cap, .int .i64 k]] w fun e w' =>
      ∃ a' cp, e = .returned (.tuple #[.slice a' (enc (k + 1) (val zs + 2 ^ k)).length cp, .bool true]) ∧ Mine w' (w.heap.size + 1) w'.heap.size a' cp (enc (k + 1) (val zs + 2 ^ k)) ∧ Below w.heap.size w w' := by
  have hw : Below w.heap.size w (w.alloc (Obj.cells #[Value.slice a zs.length cap, Value.int IntKind.i64 (k : Int)] 24)) := (Below.refl _ _).alloc (Nat.le_refl _) _
  have hl : zs.length ≤ 1048576 := by rw [he, enc_len]; omega
  have HO : Hid (okB (k : Int) zs = true) := hO
  have HE : Hid (zs = enc k (val zs)) := he
  have HV : Hid (val zs < 2 ^ k) := hv
  clear hO he hv
  generalize hV : val zs = V at *
  clear hV
  go_enter Tryd.func34, Tryd.ntmps34
  go_wp2_with fail
  refine (specOk_any a cap zs _ _ (hb.below hw (Nat.le_refl _)) (by omega)).mono ?_
  rintro e w1 ⟨rfl, hb1⟩
  rw [HO.out]
  have q0 : w1.cell? ⟨w.heap.size, 0, none⟩ = some (.slice a zs.length cap) := keep hb1 (by simp) (by simp)
  have q1 : w1.cell? ⟨w.heap.size, 1, none⟩ = some (.int .i64 k) := keep hb1 (by simp) (by simp)
  have z1 : w.heap.size < w1.heap.size := by have := hb1.size; simp at this; omega
  have hbb := hw.trans (hb1.mono (by simp))
  clear hb1 hw
  go_wp2_with fail
  refine (l1seal_any a cap zs k V _ (hb.below hbb (Nat.le_refl _)) HE.out HV.out hk).mono ?_
  rintro e w2 ⟨a', cp, rfl, hm, hb2⟩
  have hbb2 := hbb.trans (hb2.mono (by omega))
  have hm2 := hm.mono (B' := w.heap.size + 1) (U' := w2.heap.size) (by omega) (Nat.le_refl _)
  have HM : Hid _ := hm2
  clear hm hm2 hb2 hbb hb q0 q1
  go_wp2
  go_ret2
  exact ⟨a', cp, rfl, HM.out, hbb2⟩

set_option maxHeartbeats 1600000 in
theorem specSeal_no (a : Option Addr) (cap : Nat) (zs : List Int) (N : Int) (w : World) (hb : Byt w a zs) (hl : zs.length ≤ 281474976710656) (hO : okB N zs = false) :
    Calls Tryd.prog 34 #[.agg #[.slice a zs.length cap, .int .i64 N]] w fun e w' => e = .returned (.tuple #[.slice none 0 0, .bool false]) ∧ Below w.heap.size w w' := by
  have hw : Below w.heap.size w (w.alloc (Obj.cells #[Value.slice a zs.length cap, Value.int IntKind.i64 N] 24)) := (Below.refl _ _).alloc (Nat.le_refl _) _
  have HO : Hid (okB N zs = false) := hO
  clear hO
  go_enter Tryd.func34, Tryd.ntmps34
  go_wp2_with fail
  refine (specOk_any a cap zs _ _ (hb.below hw (Nat.le_refl _)) hl).mono ?_
  rintro e w1 ⟨rfl, hb1⟩
  rw [HO.out]
  have hbb := hw.trans (hb1.mono (by simp))
  clear hb1
  go_wp2
  go_ret2
  exact ⟨rfl, hbb⟩

set_option maxHeartbeats 1600000 in
theorem implSeal_no (a : Option Addr) (cap : Nat) (zs : List Int) (N : Int) (w : World) (hb : Byt w a zs) (hl : zs.length ≤ 281474976710656) (hO : okB N zs = false) :
    Calls Tryd.prog 17 #[.agg #[.slice a zs.length cap, .int .i64 N]] w fun e w' => e = .returned (.tuple #[.slice none 0 0, .bool false]) ∧ Below w.heap.size w w' := by
  have hw : Below w.heap.size w (w.alloc (Obj.cells #[Value.slice a zs.length cap, Value.int IntKind.i64 N] 24)) := (Below.refl _ _).alloc (Nat.le_refl _) _
  have HO : Hid (okB N zs = false) := hO
  clear hO
  go_enter Tryd.func17, Tryd.ntmps17
  go_wp2_with fail
  refine (implOk_any a cap zs _ _ (hb.below hw (Nat.le_refl _)) hl).mono ?_
  rintro e w1 ⟨rfl, hb1⟩
  rw [HO.out]
  have hbb := hw.trans (hb1.mono (by simp))
  clear hb1
  go_wp2
  go_ret2
  exact ⟨rfl, hbb⟩

set_option maxHeartbeats 1600000 in
theorem implSeal_yes (a : Option Addr) (cap : Nat) (zs : List Int) (k : Nat) (w : World) (hb : Byt w a zs) (hO : okB (k : Int) zs = true) (he : zs = enc k (val zs)) (hv : val zs < 2 ^ k) (hk : k ≤ 4096) :
    Calls Tryd.prog 17 #[.agg #[.slice a zs.length cap, .int .i64 k]] w fun e w' =>
      ∃ a' cp, e = .returned (.tuple #[.slice a' (enc (k + 1) (val zs + 2 ^ k)).length cp, .bool true]) ∧ Mine w' (w.heap.size + 1) w'.heap.size a' cp (enc (k + 1) (val zs + 2 ^ k)) ∧ Below w.heap.size w w' := by
  have hw : Below w.heap.size w (w.alloc (Obj.cells #[Value.slice a zs.length cap, Value.int IntKind.i64 (k : Int)] 24)) := (Below.refl _ _).alloc (Nat.le_refl _) _
  have hl : zs.length ≤ 1048576 := by rw [he, enc_len]; omega
  have HO : Hid (okB (k : Int) zs = true) := hO
  have HE : Hid (zs = enc k (val zs)) := he
  have HV : Hid (val zs < 2 ^ k) := hv
  clear hO he hv
  generalize hV : val zs = V at *
  clear hV
  go_enter Tryd.func17, Tryd.ntmps17
  go_wp2_with fail
  refine (implOk_any a cap zs _ _ (hb.below hw (Nat.le_refl _)) (by omega)).mono ?_
  rintro e w1 ⟨rfl, hb1⟩
  rw [HO.out]
  have q0 : w1.cell? ⟨w.heap.size, 0, none⟩ = some (.slice a zs.length cap) := keep hb1 (by simp) (by simp)
  have q1 : w1.cell? ⟨w.heap.size, 1, none⟩ = some (.int .i64 k) := keep hb1 (by simp) (by simp)
  have z1 : w.heap.size < w1.heap.size := by have := hb1.size; simp at this; omega
  have hbb := hw.trans (hb1.mono (by simp))
  clear hb1 hw
  go_wp2_with fail
  refine (newWriter_any a cap zs (k : Int) 4097 _ (hb.below hbb (Nat.le_refl _)) hl).mono ?_
  rintro e w2 ⟨R, g, rfl, hR, hown, hRge, hb2⟩
  have z2 := hb2.size
  have hbb2 := hbb.trans (hb2.mono (by omega))
  clear q0 q1 hb2
  have hE2 : OwnV w2 (w.heap.size + 1) (.slice (some ⟨g, 0, none⟩) zs.length zs.length) (enc k V) := by
    have := (hown.mono (B' := w.heap.size + 1) (by omega)).v
    rw [← HE.out]
    exact this
  have hlt2 := hown.lt
  go_wp2_with fail
  refine (wput_yes R (w.heap.size + 1) _ k V 1 1 4097 _ hR hE2 HV.out (by omega) (by omega) (by omega) (by omega) (by decide) (by omega) (by omega) (by omega)).mono ?_
  rintro e w3 ⟨rfl, v', hR3, hv3, honly3, hrow3⟩
  have e1 : V + (1 : Int).toNat * 2 ^ k = V + 2 ^ k := by simp
  have e2 : k + (1 : Int).toNat = k + 1 := by simp
  rw [e1, e2] at hv3
  have hbb3 : Below w.heap.size w w3 := hbb2.trans (honly3.below (by omega) (fun kk hk => by
    rcases hk with hk | hk
    · omega
    · simp [Value.ownBlock] at hk; omega))
  obtain ⟨a', cp, rfl, hmine⟩ := hv3.mine
  generalize hYS : enc (k + 1) (V + 2 ^ k) = ys at *
  have d0 : w3.cell? ⟨R, 0, none⟩ = some (.slice a' ys.length cp) := cellR (j := 0) hR3 rfl
  have HYS : Hid (enc (k + 1) (V + 2 ^ k) = ys) := hYS
  have HM : Hid (Mine w3 (w.heap.size + 1) w3.heap.size a' cp ys) := hmine
  have HBB : Hid (Below w.heap.size w w3) := hbb3
  clear hYS hR3 hv3 honly3 hrow3 hmine hbb3 hE2 hbb2 hbb hown hb hR e1 e2
  go_wp2
  go_ret2
  exact ⟨a', cp, by rw [HYS.out]; rfl, by rw [HYS.out]; exact HM.out, HBB.out⟩
end Go.Proofs.YtdhnlbekkicjcaaDoor
