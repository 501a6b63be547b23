/-
  The law on sealed and joined bits returns true, whatever is handed in, where the two sentinels differ, and writes nothing that was there.
-/
import Derived.Test.YtdhnlbekkicjcaaDoorDrE
import Derived.Test.YtdhnlbekkicjcaaDoorDrF
import Derived.Test.YtdhnlbekkicjcaaDoorSealY
import Derived.Test.YtdhnlbekkicjcaaDoorSameB
import Derived.Test.YtdhnlbekkicjcaaDoorJoin3
namespace Go.Proofs.YtdhnlbekkicjcaaDoor
open Go.RowKit
set_option linter.unusedVariables false

theorem not_sealed_nil : ¬ ∃ k V, V < 2 ^ k ∧ k ≤ 4096 ∧ ([] : List Int) = enc (k + 1) (V + 2 ^ k) := by
  rintro ⟨k, V, _, _, h⟩
  have := congrArg List.length h
  rw [enc_len] at this
  simp at this
  omega

set_option maxRecDepth 20000 in
set_option maxHeartbeats 8000000 in
theorem lawFnSeals_any (a : Option Addr) (cap : Nat) (bs : List Int) (p q : Addr) (w : World) (hb : Byt w a bs) (hm : bs.length ≤ maxLen) (hT : Two w p q) :
    Calls Tryd.prog 4 #[.slice a bs.length cap] w fun e w' => e = .returned (.bool true) ∧ Below w.heap.size w w' := by
  have HBA : Hid (Byt w a bs) := hb
  have HT : Hid (Two w p q) := hT
  clear hb hT
  go_enter Tryd.func4, Tryd.ntmps4
  go_wp2_with fail
  refine (drawBitsSeal_any a bs cap w HBA.out hm).mono ?_
  rintro e w1 ⟨ax, cx, xs, N, rfl, hxl, hN1, hN2, hmx, hb1⟩
  have HB1 : Hid (Below w.heap.size w (w1.alloc (Obj.cells #[Value.slice ax xs.length cx, Value.int IntKind.i64 N] 24))) := hb1.alloc hb1.size _
  have HX1 : Hid (Byt (w1.alloc (Obj.cells #[Value.slice ax xs.length cx, Value.int IntKind.i64 N] 24)) ax xs) := hmx.byt.alloc _
  have x0 : (w1.alloc (Obj.cells #[Value.slice ax xs.length cx, Value.int IntKind.i64 N] 24)).cell? ⟨w1.heap.size, 0, none⟩ = some (.slice ax xs.length cx) := by simp
  have x1 : (w1.alloc (Obj.cells #[Value.slice ax xs.length cx, Value.int IntKind.i64 N] 24)).cell? ⟨w1.heap.size, 1, none⟩ = some (.int .i64 N) := by simp
  have hX1 : w1.heap.size < (w1.alloc (Obj.cells #[Value.slice ax xs.length cx, Value.int IntKind.i64 N] 24)).heap.size := by simp
  have hwX : w.heap.size ≤ w1.heap.size := hb1.size
  clear hb1 hmx
  go_wp2_with fail
  generalize w1.alloc (Obj.cells #[Value.slice ax xs.length cx, Value.int IntKind.i64 N] 24) = W1 at *
  generalize w1.heap.size = X at *
  rcases hOk : okB N xs with _ | _
  case' false =>
    have HOk : Hid (okB N xs = false) := hOk
    clear hOk
    refine (implSeal_no ax cx xs N W1 HX1.out (by omega) HOk.out).mono ?_
    rintro e w2 ⟨rfl, hb2⟩
    have u0 := keep hb2 hX1 x0
    have u1 := keep hb2 hX1 x1
    have hX2 : X < w2.heap.size := Nat.lt_of_lt_of_le hX1 hb2.size
    have HB2 : Hid (Below w.heap.size w w2) := HB1.out.trans (hb2.mono HB1.out.size)
    have HX2 : Hid (Byt w2 ax xs) := HX1.out.below hb2 (Nat.le_refl _)
    clear hb2 x0 x1 hX1 HB1 HX1
    go_wp2_with fail
    refine (open_noE none 0 [] w2 ⟨by simp, by simp⟩ (by simp) not_sealed_nil).mono ?_
    rintro e w3 ⟨rfl, hb3⟩
    have v0 := keep hb3 hX2 u0
    have v1 := keep hb3 hX2 u1
    have hX3 : X < w3.heap.size := Nat.lt_of_lt_of_le hX2 hb3.size
    have HB3 : Hid (Below w.heap.size w (w3.alloc (Obj.cells #[Value.slice none 0 0, Value.int IntKind.i64 0] 24))) := (HB2.out.trans (hb3.mono HB2.out.size)).alloc (by omega) _
    have HX3 : Hid (Byt (w3.alloc (Obj.cells #[Value.slice none 0 0, Value.int IntKind.i64 0] 24)) ax xs) := (HX2.out.below hb3 (Nat.le_refl _)).alloc _
    have p0 := keepA (Obj.cells #[Value.slice none 0 0, Value.int IntKind.i64 0] 24) hX3 v0
    have p1 := keepA (Obj.cells #[Value.slice none 0 0, Value.int IntKind.i64 0] 24) hX3 v1
    clear hb3 u0 u1 v0 v1 HB2 HX2
    go_wp2_with fail
    generalize w3.alloc (Obj.cells #[Value.slice none 0 0, Value.int IntKind.i64 0] 24) = W3 at *
    have HSO := specOk_any ax cx xs N W3 HX3.out (by omega)
    rw [HOk.out] at HSO
    refine HSO.mono ?_
    clear HSO
    rintro e wA ⟨rfl, hb4⟩
    have HBA1 : Hid (Below w.heap.size w wA) := HB3.out.trans (hb4.mono HB3.out.size)
    clear hb4 p0 p1 HB3 HX3
  case' true =>
    obtain ⟨k, rfl, hk1, hke, hkv⟩ := okB_enc hOk HX1.out.1
    have HOk : Hid (okB (k : Int) xs = true) := hOk
    have HKE : Hid (xs = enc k (val xs)) := hke
    have HKV : Hid (val xs < 2 ^ k) := hkv
    clear hOk hke hkv
    refine (implSeal_yes ax cx xs k W1 HX1.out HOk.out HKE.out HKV.out hk1).mono ?_
    rintro e w2 ⟨ay, cy, rfl, hmy, hb2⟩
    have u0 := keep hb2 hX1 x0
    have u1 := keep hb2 hX1 x1
    have hX2 : X < w2.heap.size := Nat.lt_of_lt_of_le hX1 hb2.size
    have HB2 : Hid (Below w.heap.size w w2) := HB1.out.trans (hb2.mono HB1.out.size)
    have HX2 : Hid (Byt w2 ax xs) := HX1.out.below hb2 (Nat.le_refl _)
    have HOP := open_yesE ay cy k (val xs) _ w2 HKV.out hk1 rfl hmy.byt
    rw [← HKE.out] at HOP
    clear hb2 x0 x1 hX1 HB1 HX1 hmy
    generalize enc (k + 1) (val xs + 2 ^ k) = es at *
    go_wp2_with fail
    refine HOP.mono ?_
    clear HOP
    rintro e w3 ⟨az, cz, rfl, hmz, hb3⟩
    have v0 := keep hb3 hX2 u0
    have v1 := keep hb3 hX2 u1
    have hX3 : X < w3.heap.size := Nat.lt_of_lt_of_le hX2 hb3.size
    have HB3 : Hid (Below w.heap.size w (w3.alloc (Obj.cells #[Value.slice az xs.length cz, Value.int IntKind.i64 k] 24))) := (HB2.out.trans (hb3.mono HB2.out.size)).alloc (by omega) _
    have HX3 : Hid (Byt (w3.alloc (Obj.cells #[Value.slice az xs.length cz, Value.int IntKind.i64 k] 24)) ax xs) := (HX2.out.below hb3 (Nat.le_refl _)).alloc _
    have HZ3 : Hid (Byt (w3.alloc (Obj.cells #[Value.slice az xs.length cz, Value.int IntKind.i64 k] 24)) az xs) := hmz.byt.alloc _
    have p0 := keepA (Obj.cells #[Value.slice az xs.length cz, Value.int IntKind.i64 k] 24) hX3 v0
    have p1 := keepA (Obj.cells #[Value.slice az xs.length cz, Value.int IntKind.i64 k] 24) hX3 v1
    have z0 : (w3.alloc (Obj.cells #[Value.slice az xs.length cz, Value.int IntKind.i64 k] 24)).cell? ⟨w3.heap.size, 0, none⟩ = some (.slice az xs.length cz) := by simp
    have z1 : (w3.alloc (Obj.cells #[Value.slice az xs.length cz, Value.int IntKind.i64 k] 24)).cell? ⟨w3.heap.size, 1, none⟩ = some (.int .i64 k) := by simp
    have hX3a : X < (w3.alloc (Obj.cells #[Value.slice az xs.length cz, Value.int IntKind.i64 k] 24)).heap.size := by simp; omega
    have hZ3a : w3.heap.size < (w3.alloc (Obj.cells #[Value.slice az xs.length cz, Value.int IntKind.i64 k] 24)).heap.size := by simp
    clear hb3 u0 u1 v0 v1 HB2 HX2 hmz
    go_wp2_with fail
    generalize w3.alloc (Obj.cells #[Value.slice az xs.length cz, Value.int IntKind.i64 k] 24) = W3 at *
    generalize w3.heap.size = Z at *
    have HSO := specOk_any ax cx xs k W3 HX3.out (by omega)
    rw [HOk.out] at HSO
    refine HSO.mono ?_
    clear HSO
    rintro e w4 ⟨rfl, hb4⟩
    have u0 := keep hb4 hX3a p0
    have u1 := keep hb4 hX3a p1
    have y0 := keep hb4 hZ3a z0
    have y1 := keep hb4 hZ3a z1
    have HB4 : Hid (Below w.heap.size w w4) := HB3.out.trans (hb4.mono HB3.out.size)
    have HX4 : Hid (Byt w4 ax xs) := HX3.out.below hb4 (Nat.le_refl _)
    have HZ4 : Hid (Byt w4 az xs) := HZ3.out.below hb4 (Nat.le_refl _)
    clear hb4 p0 p1 z0 z1 HB3 HX3 HZ3
    go_wp2_with fail
    refine (sameBits_yes ax az cx cz xs k w4 HX4.out HZ4.out).mono ?_
    rintro e wA ⟨rfl, hb5⟩
    have HBA1 : Hid (Below w.heap.size w wA) := HB4.out.trans (hb5.mono HB4.out.size)
    clear hb5 HB4 HX4 HZ4
  all_goals
    go_wp2_with fail
    refine (drawBitsOpen_any a bs cap wA (HBA.out.below HBA1.out (Nat.le_refl _)) hm).mono ?_
    rintro e w5 ⟨ac, cc, cs, rfl, hcl, hbc, hb5⟩
    have HB5 : Hid (Below w.heap.size w w5) := HBA1.out.trans (hb5.mono HBA1.out.size)
    have HC5 : Hid (Byt w5 ac cs) := hbc
    clear hb5 hbc HBA1
    by_cases hS : ∃ k V, V < 2 ^ k ∧ k ≤ 4096 ∧ cs = enc (k + 1) (V + 2 ^ k)
    case' pos =>
      obtain ⟨k', V, hV, hk', hcs⟩ := hS
      have HOP := open_yesE ac cc k' V cs w5 hV hk' hcs HC5.out
      have hok := okB_encB k' V hk' hV
      have hve := val_encB k' V hV
      have HFE : Hid (enc k' V = enc k' (val (enc k' V))) := by unfold Hid; rw [hve]
      have HFV : Hid (val (enc k' V) < 2 ^ k') := by unfold Hid; rw [hve]; exact hV
      have HFS : Hid (enc (k' + 1) (val (enc k' V) + 2 ^ k') = cs) := by unfold Hid; rw [hve]; exact hcs.symm
      have HFO : Hid (okB (k' : Int) (enc k' V) = true) := hok
      clear hok hve hcs hV
      generalize enc k' V = fs at *
      go_wp2_with fail
      refine HOP.mono ?_
      clear HOP
      rintro e w6 ⟨ad, cd, rfl, hmd, hb6⟩
      have HB6 : Hid (Below w.heap.size w (w6.alloc (Obj.cells #[Value.slice ad fs.length cd, Value.int IntKind.i64 k'] 24))) := (HB5.out.trans (hb6.mono HB5.out.size)).alloc (Nat.le_trans HB5.out.size hb6.size) _
      have HC6 : Hid (Byt (w6.alloc (Obj.cells #[Value.slice ad fs.length cd, Value.int IntKind.i64 k'] 24)) ac cs) := (HC5.out.below hb6 (Nat.le_refl _)).alloc _
      have HF6 : Hid (Byt (w6.alloc (Obj.cells #[Value.slice ad fs.length cd, Value.int IntKind.i64 k'] 24)) ad fs) := hmd.byt.alloc _
      clear hb6 hmd HB5 HC5
      go_wp2_with fail
      generalize w6.alloc (Obj.cells #[Value.slice ad fs.length cd, Value.int IntKind.i64 k'] 24) = W6 at *
      have HSE := implSeal_yes ad cd fs k' W6 HF6.out HFO.out HFE.out HFV.out hk'
      rw [HFS.out] at HSE
      refine HSE.mono ?_
      clear HSE
      rintro e w7 ⟨ag, cg, rfl, hmg, hb7⟩
      have HB7 : Hid (Below w.heap.size w w7) := HB6.out.trans (hb7.mono HB6.out.size)
      have HC7 : Hid (Byt w7 ac cs) := HC6.out.below hb7 (Nat.le_refl _)
      have HG7 : Hid (Byt w7 ag cs) := hmg.byt
      clear hb7 hmg HB6 HC6 HF6
      go_wp2_with fail
      refine (same_yes ag ac cg cc cs w7 HG7.out HC7.out).mono ?_
      rintro e wB ⟨rfl, rfl⟩
      have HBB1 : Hid (Below w.heap.size w wB) := HB7.out
      clear HB7 HC7 HG7
    case' neg =>
      have HOP := open_noE ac cc cs w5 HC5.out (by omega) hS
      clear hS
      go_wp2_with fail
      refine HOP.mono ?_
      clear HOP
      rintro e w6 ⟨rfl, hb6⟩
      have HB6 : Hid (Below w.heap.size w (w6.alloc (Obj.cells #[Value.slice none 0 0, Value.int IntKind.i64 0] 24))) := (HB5.out.trans (hb6.mono HB5.out.size)).alloc (Nat.le_trans HB5.out.size hb6.size) _
      clear hb6 HB5 HC5
      go_wp2_with fail
      generalize w6.alloc (Obj.cells #[Value.slice none 0 0, Value.int IntKind.i64 0] 24) = W6 at *
      refine (implSeal_yes none 0 [] 0 W6 ⟨by simp, by simp⟩ okB_nil rfl (by decide) (by omega)).mono ?_
      generalize enc (0 + 1) (val [] + 2 ^ 0) = fs
      rintro e wB ⟨ag, cg, rfl, hmg, hb7⟩
      have HBB1 : Hid (Below w.heap.size w wB) := HB6.out.trans (hb7.mono HB6.out.size)
      clear hb7 hmg HB6
    all_goals
      go_wp2_with fail
      refine (drawBitsJoin_any a bs cap wB (HBA.out.below HBB1.out (Nat.le_refl _)) hm).mono ?_
      rintro e w8 ⟨a1, c1, ps, P, a2, c2, qs, Q, rfl, hpl, hP1, hP2, hql, hQ1, hQ2, hbp, hbq, hb8⟩
      have HB8 : Hid (Below w.heap.size w ((w8.alloc (Obj.cells #[Value.slice a1 ps.length c1, Value.int IntKind.i64 P] 24)).alloc (Obj.cells #[Value.slice a2 qs.length c2, Value.int IntKind.i64 Q] 24))) := ((HBB1.out.trans (hb8.mono HBB1.out.size)).alloc (Nat.le_trans HBB1.out.size hb8.size) _).alloc (by have h1 := HBB1.out.size; have h2 := hb8.size; simp; omega) _
      have HP8 : Hid (Byt ((w8.alloc (Obj.cells #[Value.slice a1 ps.length c1, Value.int IntKind.i64 P] 24)).alloc (Obj.cells #[Value.slice a2 qs.length c2, Value.int IntKind.i64 Q] 24)) a1 ps) := (hbp.alloc _).alloc _
      have HQ8 : Hid (Byt ((w8.alloc (Obj.cells #[Value.slice a1 ps.length c1, Value.int IntKind.i64 P] 24)).alloc (Obj.cells #[Value.slice a2 qs.length c2, Value.int IntKind.i64 Q] 24)) a2 qs) := (hbq.alloc _).alloc _
      have hp0 : ((w8.alloc (Obj.cells #[Value.slice a1 ps.length c1, Value.int IntKind.i64 P] 24)).alloc (Obj.cells #[Value.slice a2 qs.length c2, Value.int IntKind.i64 Q] 24)).cell? ⟨w8.heap.size, 0, none⟩ = some (.slice a1 ps.length c1) := keepA _ (by simp) (by simp)
      have hp1 : ((w8.alloc (Obj.cells #[Value.slice a1 ps.length c1, Value.int IntKind.i64 P] 24)).alloc (Obj.cells #[Value.slice a2 qs.length c2, Value.int IntKind.i64 Q] 24)).cell? ⟨w8.heap.size, 1, none⟩ = some (.int .i64 P) := keepA _ (by simp) (by simp)
      have hq0 : ((w8.alloc (Obj.cells #[Value.slice a1 ps.length c1, Value.int IntKind.i64 P] 24)).alloc (Obj.cells #[Value.slice a2 qs.length c2, Value.int IntKind.i64 Q] 24)).cell? ⟨w8.heap.size + 1, 0, none⟩ = some (.slice a2 qs.length c2) := by simp
      have hq1 : ((w8.alloc (Obj.cells #[Value.slice a1 ps.length c1, Value.int IntKind.i64 P] 24)).alloc (Obj.cells #[Value.slice a2 qs.length c2, Value.int IntKind.i64 Q] 24)).cell? ⟨w8.heap.size + 1, 1, none⟩ = some (.int .i64 Q) := by simp
      have hS8 : w8.heap.size + 1 < ((w8.alloc (Obj.cells #[Value.slice a1 ps.length c1, Value.int IntKind.i64 P] 24)).alloc (Obj.cells #[Value.slice a2 qs.length c2, Value.int IntKind.i64 Q] 24)).heap.size := by simp
      have HT8 : Hid (Two ((w8.alloc (Obj.cells #[Value.slice a1 ps.length c1, Value.int IntKind.i64 P] 24)).alloc (Obj.cells #[Value.slice a2 qs.length c2, Value.int IntKind.i64 Q] 24)) p q) := HT.out.below HB8.out
      clear hb8 hbp hbq HBB1
      go_wp2_with fail
      generalize (w8.alloc (Obj.cells #[Value.slice a1 ps.length c1, Value.int IntKind.i64 P] 24)).alloc (Obj.cells #[Value.slice a2 qs.length c2, Value.int IntKind.i64 Q] 24) = W8 at *
      generalize w8.heap.size = Y at *
      by_cases hPQ : okB P ps = true ∧ okB Q qs = true
      · obtain ⟨hp, hq⟩ := hPQ
        obtain ⟨k1, rfl, hk1a, hk1e, hk1v⟩ := okB_enc hp HP8.out.1
        obtain ⟨k2, rfl, hk2a, hk2e, hk2v⟩ := okB_enc hq HQ8.out.1
        have HJ := implJoin_ok a1 c1 ps a2 c2 qs k1 k2 p q W8 HP8.out HQ8.out HT8.out hp hq
        have hlt := put_lt k1 (val ps) k2 (val qs) hk1v hk2v
        have HOJ : Hid (k1 + k2 ≤ 4096 → okB ((k1 + k2 : Nat) : Int) (enc (k1 + k2) (val ps + val qs * 2 ^ k1)) = true) := fun h => okB_encB (k1 + k2) _ h hlt
        have HEL : Hid (k1 + k2 ≤ 4096 → (enc (k1 + k2) (val ps + val qs * 2 ^ k1)).length ≤ 600) := fun h => by rw [enc_len]; omega
        clear hp hq hk1e hk1v hk2e hk2v hlt
        generalize enc (k1 + k2) (val ps + val qs * 2 ^ k1) = E at *
        refine HJ.mono ?_
        clear HJ
        rintro e w9 ⟨hb9, hno, hyes⟩
        have u1 := keep hb9 (by omega) hp1
        have v1 := keep hb9 hS8 hq1
        have HB9 : Hid (Below w.heap.size w w9) := HB8.out.trans (hb9.mono HB8.out.size)
        have hS9 : Y + 1 < w9.heap.size := Nat.lt_of_lt_of_le hS8 hb9.size
        clear hb9 hp0 hp1 hq0 hq1 HP8 HQ8 HT8 HB8
        by_cases hle : k1 + k2 ≤ 4096
        · obtain ⟨aj, cj, rfl, hmj⟩ := hyes hle
          clear hno hyes
          have HKK : Hid (((k1 + k2 : Nat) : Int) = (k1 : Int) + k2) := by unfold Hid; omega
          have hoj := HOJ.out hle
          rw [HKK.out] at hoj
          have hel : E.length ≤ 600 := HEL.out hle
          have HOE : Hid (okB ((k1 : Int) + k2) E = true) := hoj
          clear hoj HOJ HEL
          rw [HKK.out]
          have HJ9 : Hid (Byt (w9.alloc (Obj.cells #[Value.slice aj E.length cj, Value.int IntKind.i64 ((k1 : Int) + k2)] 24)) aj E) := hmj.byt.alloc _
          have HBJ : Hid (Below w.heap.size w (w9.alloc (Obj.cells #[Value.slice aj E.length cj, Value.int IntKind.i64 ((k1 : Int) + k2)] 24))) := HB9.out.alloc HB9.out.size _
          have p1 := keepA (Obj.cells #[Value.slice aj E.length cj, Value.int IntKind.i64 ((k1 : Int) + k2)] 24) (by omega) u1
          have q1 := keepA (Obj.cells #[Value.slice aj E.length cj, Value.int IntKind.i64 ((k1 : Int) + k2)] 24) (by omega) v1
          have j0 : (w9.alloc (Obj.cells #[Value.slice aj E.length cj, Value.int IntKind.i64 ((k1 : Int) + k2)] 24)).cell? ⟨w9.heap.size, 0, none⟩ = some (.slice aj E.length cj) := by simp
          have j1 : (w9.alloc (Obj.cells #[Value.slice aj E.length cj, Value.int IntKind.i64 ((k1 : Int) + k2)] 24)).cell? ⟨w9.heap.size, 1, none⟩ = some (.int .i64 ((k1 : Int) + k2)) := by simp
          have hJ9 : w9.heap.size < (w9.alloc (Obj.cells #[Value.slice aj E.length cj, Value.int IntKind.i64 ((k1 : Int) + k2)] 24)).heap.size := by simp
          clear hmj u1 v1
          go_wp2_with fail
          generalize w9.alloc (Obj.cells #[Value.slice aj E.length cj, Value.int IntKind.i64 ((k1 : Int) + k2)] 24) = W9 at *
          generalize w9.heap.size = J at *
          refine (bits_any W9).mono ?_
          rintro e w10 ⟨rfl, hb10⟩
          have p2 := keep hb10 (by omega) p1
          have q2 := keep hb10 (by omega) q1
          have j2 := keep hb10 hJ9 j0
          have j3 := keep hb10 hJ9 j1
          have HB10 : Hid (Below w.heap.size w w10) := HBJ.out.trans (hb10.mono HBJ.out.size)
          have HJ10 : Hid (Byt w10 aj E) := HJ9.out.below hb10 (Nat.le_refl _)
          have geq : (((k1 : Int) + k2) == ((k1 : Int) + k2)) = true := by simp
          clear hb10 p1 q1 j0 j1 HBJ HJ9
          have HOK := implOk_any aj cj E ((k1 : Int) + k2) w10 HJ10.out (by omega)
          rw [HOE.out] at HOK
          go_wp2_with fail
          refine HOK.mono ?_
          clear HOK
          rintro e w11 ⟨rfl, hb11⟩
          have hbb := HB10.out.trans (hb11.mono HB10.out.size)
          clear hb11
          go_wp2
          go_ret
          exact ⟨rfl, hbb⟩
        · obtain rfl := hno (by omega)
          clear hno hyes HOJ HEL
          have HBJ : Hid (Below w.heap.size w (w9.alloc (Obj.cells #[Value.slice none 0 0, Value.int IntKind.i64 0] 24))) := HB9.out.alloc HB9.out.size _
          go_wp2_with fail
          generalize w9.alloc (Obj.cells #[Value.slice none 0 0, Value.int IntKind.i64 0] 24) = W9 at *
          refine (bits_any W9).mono ?_
          rintro e w10 ⟨rfl, hb10⟩
          have hbb := HBJ.out.trans (hb10.mono HBJ.out.size)
          clear hb10
          go_wp2
          go_ret
          exact ⟨rfl, hbb⟩
      · refine (implJoin_bad a1 c1 ps P a2 c2 qs Q W8 HP8.out HQ8.out (by omega) (by omega) hPQ).mono ?_
        clear hPQ
        rintro e w9 ⟨rfl, hb9⟩
        have HBJ : Hid (Below w.heap.size w (w9.alloc (Obj.cells #[Value.slice none 0 0, Value.int IntKind.i64 0] 24))) := (HB8.out.trans (hb9.mono HB8.out.size)).alloc (Nat.le_trans HB8.out.size hb9.size) _
        clear hb9 hp0 hp1 hq0 hq1 HP8 HQ8 HT8 HB8
        go_wp2_with fail
        generalize w9.alloc (Obj.cells #[Value.slice none 0 0, Value.int IntKind.i64 0] 24) = W9 at *
        refine (bits_any W9).mono ?_
        rintro e w10 ⟨rfl, hb10⟩
        have hbb := HBJ.out.trans (hb10.mono HBJ.out.size)
        clear hb10
        go_wp2
        go_ret
        exact ⟨rfl, hbb⟩
end Go.Proofs.YtdhnlbekkicjcaaDoor
