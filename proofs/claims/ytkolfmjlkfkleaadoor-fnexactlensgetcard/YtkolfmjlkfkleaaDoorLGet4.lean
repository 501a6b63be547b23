/-
  LensGet: the model and the program answer alike.
-/
import Derived.Test.YtkolfmjlkfkleaaDoorOkS
import Derived.Test.YtkolfmjlkfkleaaDoorLGetI
import Derived.Test.YtkolfmjlkfkleaaDoorLGet2
import Derived.Test.YtkolfmjlkfkleaaDoorLPut3
import Derived.Test.YtkolfmjlkfkleaaDoorWriG
import Derived.Test.YtkolfmjlkfkleaaDoorBit1
import Derived.Deep.RegionHeld3
namespace Go.Proofs.YtkolfmjlkfkleaaDoor
open Go.RowKit
set_option linter.unusedVariables false
set_option linter.unusedSimpArgs false

theorem bit_eq_all (U V p M : Nat) (hU : U < 2 ^ M) (h : ∀ i, i < M → U / 2 ^ i % 2 = V / 2 ^ (p + i) % 2) : U = bt V p M := by
  apply Nat.eq_of_testBit_eq
  intro i
  unfold bt
  rw [Nat.testBit_mod_two_pow]
  by_cases hi : i < M
  · have h1 := h i hi
    rw [decide_eq_true hi, Bool.true_and, Nat.testBit_eq_decide_div_mod_eq, Nat.testBit_eq_decide_div_mod_eq, Nat.div_div_eq_div_mul, ← Nat.pow_add, h1]
  · rw [decide_eq_false hi, Bool.false_and]
    exact Nat.testBit_lt_two_pow (Nat.lt_of_lt_of_le hU (Nat.pow_le_pow_right (by omega) (by omega)))
theorem bit_of_bt (V p M i : Nat) (hi : i < M) : bt V p M / 2 ^ i % 2 = V / 2 ^ (p + i) % 2 := by
  have h : (bt V p M).testBit i = (V / 2 ^ p).testBit i := by unfold bt; rw [Nat.testBit_mod_two_pow, decide_eq_true hi, Bool.true_and]
  rw [Nat.testBit_eq_decide_div_mod_eq, Nat.testBit_eq_decide_div_mod_eq, Nat.div_div_eq_div_mul, ← Nat.pow_add] at h
  have h1 : bt V p M / 2 ^ i % 2 < 2 := Nat.mod_lt _ (by omega)
  have h2 : V / 2 ^ (p + i) % 2 < 2 := Nat.mod_lt _ (by omega)
  by_cases c : bt V p M / 2 ^ i % 2 = 1
  · by_cases d : V / 2 ^ (p + i) % 2 = 1
    · omega
    · simp [c, d] at h
  · by_cases d : V / 2 ^ (p + i) % 2 = 1
    · simp [c, d] at h
    · omega
set_option maxHeartbeats 1600000 in
theorem specLensGet_no (a : Option Addr) (cap : Nat) (zs : List Int) (N p s : Int) (w : World) (hb : Byt w a zs) (hl : zs.length ≤ 281474976710656) (h : ¬ lgArgs N p s zs) :
    Calls Tryd.prog 31 #[.agg #[.slice a zs.length cap, .int .i64 N], .int .i64 p, .int .i64 s] w fun e w' =>
      e = .returned (.tuple #[.slice none 0 0, .int .i64 (-1), .bool false]) ∧ Below w.heap.size w w' := by
  have hw : Below w.heap.size w (w.alloc (Obj.cells #[Value.slice a zs.length cap, Value.int IntKind.i64 N] 33)) := (Below.refl _ _).alloc (Nat.le_refl _) _
  have key : okB N zs = false ∨ (okB N zs = true ∧ p < 0) ∨ (okB N zs = true ∧ 0 ≤ p ∧ N < p) ∨ (okB N zs = true ∧ 0 ≤ p ∧ p ≤ N ∧ s < 1) ∨ (okB N zs = true ∧ 0 ≤ p ∧ p ≤ N ∧ 1 ≤ s ∧ 80 < s) := by
    cases hO : okB N zs with
    | false => exact .inl rfl
    | true =>
      right
      unfold lgArgs at h
      rw [hO] at h
      simp only [true_and] at h ⊢
      omega
  clear h
  rcases key with hO | ⟨hO, g1⟩ | ⟨hO, g1, g2⟩ | ⟨hO, g1, g2, g3⟩ | ⟨hO, g1, g2, g3, g4⟩
  all_goals
    have HO : Hid _ := hO
    clear hO
    go_enter Tryd.func31, Tryd.ntmps31
    go_wp2_with fail
    refine (specOk_any a cap zs _ _ (hb.below hw (Nat.le_refl _)) hl).mono ?_
    rintro e w1 ⟨rfl, hb1⟩
    rw [HO.out]
    have q1 : w1.cell? ⟨w.heap.size, 1, none⟩ = some (.int .i64 N) := keep hb1 (by simp) (by simp)
    have hbb := hw.trans (hb1.mono (by simp))
    clear hb1
    go_wp2
    exact bodyPost_ret (v := .tuple #[.slice none 0 0, .int .i64 (-1), .bool false]) (by simp [results, Tryd.results31, go_sem]) rfl ⟨rfl, hbb⟩
def lgR (w w' : World) (n V p s : Nat) (e : Ending) : Prop := Below w.heap.size w w' ∧
      (∀ res q, giY n V p s res q → ∃ a' cp, e = .returned (.tuple #[.slice a' res.length cp, .int .i64 (q : Nat), .bool true]) ∧ MinI w' w.heap.size w'.heap.size a' cp res) ∧
      ((¬ ∃ res q, giY n V p s res q) → e = .returned (.tuple #[.slice none 0 0, .int .i64 (-1), .bool false]))
theorem lgR.no {w w' : World} {n V p s : Nat} (hb : Below w.heap.size w w') (h : ¬ ∃ res q, giY n V p s res q) : lgR w w' n V p s (.returned (.tuple #[.slice none 0 0, .int .i64 (-1), .bool false])) :=
  And.intro hb (And.intro (fun res q hy => absurd ⟨res, q, hy⟩ h) (fun _ => rfl))
theorem lgR.yes {w w' : World} {n V p s q : Nat} {res : List Int} {a' : Option Addr} {cp : Nat} (hb : Below w.heap.size w w') (h : giY n V p s res q) (hm : MinI w' w.heap.size w'.heap.size a' cp res) : lgR w w' n V p s (.returned (.tuple #[.slice a' res.length cp, .int .i64 (q : Nat), .bool true])) := by
  refine And.intro hb (And.intro (fun res' q' hy => ?_) (fun hno => absurd ⟨res, q, h⟩ hno))
  obtain ⟨rfl, rfl⟩ : res = res' ∧ q = q' := by have := hy.1; rw [h.1] at this; simpa using this
  exact ⟨_, _, rfl, hm⟩
theorem giY_iff {n V p s q : Nat} {res : List Int} : giY n V p s res q ↔ gqY n V p s res q ∧ lpF res = (q - p, bt V p (q - p)) := by
  unfold giY gqY
  rw [gi_iff]
  constructor
  · rintro ⟨⟨h1, h2, h3⟩, h4⟩
    exact ⟨⟨h1, h2, h4⟩, h3⟩
  · rintro ⟨⟨h1, h2, h4⟩, h3⟩
    exact ⟨⟨h1, h2, h3⟩, h4⟩
/-- Two bit strings in boxes. -/
def Bx2 (W : World) (X Y : Nat) (a ya : Option Addr) (la ca ly cy n M : Nat) : Prop := W.cell? ⟨X, 0, none⟩ = some (.slice a la ca) ∧ W.cell? ⟨X, 1, none⟩ = some (.int .i64 (n : Nat)) ∧ W.cell? ⟨Y, 0, none⟩ = some (.slice ya ly cy) ∧ W.cell? ⟨Y, 1, none⟩ = some (.int .i64 (M : Nat))
theorem Bx2.below {W W' : World} {X Y : Nat} {a ya : Option Addr} {la ca ly cy n M : Nat} (h : Bx2 W X Y a ya la ca ly cy n M) (hb : Below W.heap.size W W') : Bx2 W' X Y a ya la ca ly cy n M :=
  ⟨keep hb (World.block_lt_of_cell? _ _ h.1) h.1, keep hb (World.block_lt_of_cell? _ _ h.2.1) h.2.1, keep hb (World.block_lt_of_cell? _ _ h.2.2.1) h.2.2.1, keep hb (World.block_lt_of_cell? _ _ h.2.2.2) h.2.2.2⟩

set_option maxRecDepth 20000 in
set_option maxHeartbeats 3200000 in
theorem specLensGet_ok (a : Option Addr) (cap : Nat) (zs : List Int) (n p s : Nat) (w : World) (hb : Byt w a zs) (hO : okB (n : Int) zs = true) (hz : zs = enc n (val zs)) (hn : n ≤ 4096) (hp : p ≤ n) (hs1 : 1 ≤ s) (hs : s ≤ 80) :
    Calls Tryd.prog 31 #[.agg #[.slice a zs.length cap, .int .i64 n], .int .i64 p, .int .i64 s] w fun e w' => lgR w w' n (val zs) p s e := by
  have hw : Below w.heap.size w (w.alloc (Obj.cells #[Value.slice a zs.length cap, Value.int IntKind.i64 n] 33)) := (Below.refl _ _).alloc (Nat.le_refl _) _
  have hl : zs.length ≤ 281474976710656 := by rw [hz, enc_len]; omega
  have HO : Hid (okB (n : Int) zs = true) := hO
  have HZ : Hid (zs = enc n (val zs)) := hz
  clear hO hz
  generalize hV : val zs = V at *
  clear hV
  go_enter Tryd.func31, Tryd.ntmps31
  go_wp2_with fail
  refine (specOk_any a cap zs _ _ (hb.below hw (Nat.le_refl _)) hl).mono ?_
  rintro e w1 ⟨rfl, hb1⟩
  rw [HO.out]
  have q0 : w1.cell? ⟨w.heap.size, 0, none⟩ = some (.slice a zs.length cap) := keep hb1 (by simp) (by simp)
  have q1 : w1.cell? ⟨w.heap.size, 1, none⟩ = some (.int .i64 n) := keep hb1 (by simp) (by simp)
  have hbb := hw.trans (hb1.mono (by simp))
  clear hb1 hw
  go_wp2_with fail
  refine (l2getLens_any a cap zs n V p s w1 (hb.below hbb (Nat.le_refl _)) HZ.out hn hp hs1 hs).mono ?_
  rintro e w2 ⟨hb2, hy, hno⟩
  have HB2 : Hid (Below w.heap.size w w2) := hbb.trans (hb2.mono hbb.size)
  have hsz := hbb.size
  have p0 := keep hb2 (World.block_lt_of_cell? _ _ q0) q0
  have p1 := keep hb2 (World.block_lt_of_cell? _ _ q1) q1
  clear hb2 q0 q1
  by_cases hg : ∃ res q, gqY n V p s res q
  · obtain ⟨res, q, hr⟩ := hg
    obtain ⟨a', cp, rfl, hm⟩ := hy res q hr
    have HY : Hid (gqY n V p s res q) := hr
    have HA : Hid (MinI w2 w.heap.size w2.heap.size a' cp res) := hm.mono hsz (Nat.le_refl _)
    obtain ⟨hl1, hl2, hl3⟩ := lensB_ok hr.2.2
    have hpq := (gq_ext n V s s p [] res q hr.1).2
    have HPU := l2putLens_any a' cp res w2.heap.size w2.heap.size w2 _ HA.out.byt rfl ((Below.refl _ _).alloc (Nat.le_refl _) (.cells #[.slice none 0 0, .int .i64 0] 33)) (SI.new w2 _ (Nat.le_refl _)) hl2 hl3
    have HMU : Hid (∃ M U, lpF res = (M, U) ∧ M ≤ 560) := ⟨_, _, rfl, by have := lp_le res res.length 0 0 0; show (lp res res.length 0 0 0).1 ≤ 560; omega⟩
    obtain ⟨M, U, hMU, hM5⟩ := HMU.out
    rw [hMU] at HPU
    have HLP : Hid (lpF res = (M, U)) := hMU
    have HUQ : Hid (∀ res' q', giY n V p s res' q' → res' = res ∧ q' = q ∧ M = q - p ∧ U = bt V p (q - p)) := by
      intro res' q' h
      obtain ⟨h1, h2⟩ := giY_iff.1 h
      obtain ⟨rfl, rfl⟩ : res = res' ∧ q = q' := by have := h1.1; rw [HY.out.1] at this; simpa using this
      rw [HLP.out] at h2
      simp only [Prod.mk.injEq] at h2
      exact ⟨rfl, rfl, h2⟩
    have HYES : Hid (M = q - p → U = bt V p (q - p) → giY n V p s res q) := fun h1 h2 => giY_iff.2 ⟨HY.out, by rw [HLP.out, ← h2, h1]⟩
    clear hm hy hno hr hl3 hMU HMU
    generalize hrl : res.length = rl at *
    have HRL : Hid (res.length = rl) := hrl
    clear hrl
    go_wp2_with fail
    refine HPU.mono ?_
    clear HPU
    rintro e w4 ⟨rfl, ⟨v, hR, hov, hU, hBR, -⟩, hb4⟩
    obtain ⟨ya, yc, rfl, hmy⟩ := hov.mine
    have HB4 : Hid (Below w.heap.size w w4) := HB2.out.trans (hb4.mono HB2.out.size)
    have HA4 : Hid (MinI w4 w.heap.size w4.heap.size a' cp res) := (HA.out.below hb4).mono (Nat.le_refl _) hb4.size
    have HYB : Hid (Byt w4 ya (enc M U) ∧ U < 2 ^ M) := ⟨hmy.byt, hU⟩
    have y0 := cellRR (j := 0) hR rfl
    have y1 := cellRR (j := 1) hR rfl
    have HBX : Hid (Bx2 w4 w.heap.size w2.heap.size a ya zs.length cap (enc M U).length yc n M) := ⟨keep hb4 (World.block_lt_of_cell? _ _ p0) p0, keep hb4 (World.block_lt_of_cell? _ _ p1) p1, y0, y1⟩
    clear hov hmy hU hBR hb4 p0 p1 HA
    by_cases hMq : M = q - p
    · have hMi : ((M : Int) != (q : Int) - (p : Int)) = false := by simp; omega
      have HMQ : Hid (M = q - p ∧ True) := ⟨hMq, trivial⟩
      clear hMq
      have HL7 : Hid ((enc M U).length = (M + 7) / 8 ∧ zs.length = (n + 7) / 8) := ⟨enc_len M U, by rw [HZ.out]; exact enc_len n V⟩
      have HQ : Hid (q ≤ n) := hpq.2 hp
      have hx1 := HBX.out.2.1
      have hy1 := HBX.out.2.2.2
      clear y0 y1
      go_wp2
      go_loopw [13] (fun iv wr => ∃ k : Nat, k ≤ M ∧ iv = .int .i64 k ∧ (∀ j, j < k → U / 2 ^ j % 2 = V / 2 ^ (p + j) % 2) ∧ Below w4.heap.size w4 wr) (fun iv _ => M - (intOf iv).toNat)
      case atStart => exact ⟨0, Nat.zero_le _, rfl, fun j hj => by omega, Below.refl _ _⟩
      case round =>
        clear hx1 hy1
        obtain ⟨k, hk, rfl, hall, hbel⟩ := hrel
        have HAL : Hid (∀ j, j < k → U / 2 ^ j % 2 = V / 2 ^ (p + j) % 2) := hall
        have HBR : Hid (Below w4.heap.size w4 wr) := hbel
        have HBX2 : Hid (Bx2 wr w.heap.size w2.heap.size a ya zs.length cap (enc M U).length yc n M) := HBX.out.below hbel
        have hy1 := HBX2.out.2.2.2
        clear hall hbel
        by_cases hlt : k < M
        · have hlt2 : (k : Int) < (M : Int) := by omega
          have HU : Hid (bitAt (enc M U) (((k : Nat) : Int)).toNat = U / 2 ^ k % 2) := by rw [Int.toNat_natCast]; exact enc_bit M U k hlt
          have HV : Hid (bitAt zs ((p : Int) + (k : Int)).toNat = V / 2 ^ (p + k) % 2) := by
            have := enc_bit n V (p + k) (by have := HQ.out; have := HMQ.out.1; omega)
            rw [← HZ.out] at this
            rw [show ((p : Int) + (k : Int)).toNat = p + k from by omega]
            exact this
          have HNE : Hid (¬ U / 2 ^ k % 2 = V / 2 ^ (p + k) % 2 → ¬ ∃ res q, giY n V p s res q) := by
            rintro h ⟨res', q', hh⟩
            obtain ⟨-, -, h3, h4⟩ := HUQ.out res' q' hh
            rw [← h3] at h4
            apply h
            rw [h4]
            exact bit_of_bt V p M k hlt
          have HAS : Hid (U / 2 ^ k % 2 = V / 2 ^ (p + k) % 2 → ∀ j, j < k + 1 → U / 2 ^ j % 2 = V / 2 ^ (p + j) % 2) := by
            intro h j hj
            by_cases he : j = k
            · rw [he]; exact h
            · exact HAL.out j (by omega)
          have hu2 : U / 2 ^ k % 2 < 2 := Nat.mod_lt _ (by omega)
          have hv2 : V / 2 ^ (p + k) % 2 < 2 := Nat.mod_lt _ (by omega)
          have HBY : Hid (Byt wr ya (enc M U) ∧ Byt wr a zs) := ⟨HYB.out.1.below HBR.out (Nat.le_refl _), (hb.below HB4.out (Nat.le_refl _)).below HBR.out (Nat.le_refl _)⟩
          generalize U / 2 ^ k % 2 = u at *
          generalize V / 2 ^ (p + k) % 2 = x at *
          generalize enc M U = ys at *
          have hkM : k < 560 := by omega
          have hpn : p ≤ 4096 := by omega
          have HWR : Hid (IntKind.i64.wrap ((p : Int) + (k : Int)) = (p : Int) + (k : Int) ∧ True) := ⟨by rw [IntKind.wrap_i64]; omega, trivial⟩
          go_wp2_with fail
          go_region_held3 (fun W => W.cell? ⟨w.heap.size, 0, none⟩ = some (.slice a zs.length cap) ∧ W.cell? ⟨w.heap.size, 1, none⟩ = some (.int .i64 (n : Nat)) ∧ W.cell? ⟨w2.heap.size, 0, none⟩ = some (.slice ya ys.length yc) ∧ W.cell? ⟨w2.heap.size, 1, none⟩ = some (.int .i64 (M : Nat)))
            (first | exact HBX2.out | exact HBX7.out | exact HBX8.out)
            (first
              | (go_at_call_of 58 (Value.agg #[.slice ya ys.length yc, .int .i64 (M : Nat)]); refine (l1bit_any ya yc ys (M : Nat) (k : Nat) _ (by exact HBY.out.1) (by omega) (by have := HL7.out.1; omega) (by omega)).mono ?_; rintro e w7 ⟨rfl, hb7⟩; have HB7 : Hid (Below wr.heap.size wr w7) := (by first | exact hb7 | exact Below.drewS hb7); have HBX7 : Hid (Bx2 w7 w.heap.size w2.heap.size a ya zs.length cap ys.length yc n M) := HBX2.out.below HB7.out; rw [HU.out]; clear hb7)
              | (go_at_call_of 58 (Value.agg #[.slice a zs.length cap, .int .i64 (n : Nat)]); rw [HWR.out.1]; refine (l1bit_any a cap zs (n : Nat) ((p : Int) + (k : Int)) _ (by exact HBY.out.2.below HB7.out (Nat.le_refl _)) (by omega) (by have := HL7.out.2; have := HQ.out; have := HMQ.out.1; omega) (by omega)).mono ?_; rintro e w8 ⟨rfl, hb8⟩; have HB8 : Hid (Below wr.heap.size wr w8) := (by first | exact HB7.out.trans (hb8.mono HB7.out.size) | exact HB7.out.trans ((Below.drewS hb8).mono HB7.out.size)); have HBX8 : Hid (Bx2 w8 w.heap.size w2.heap.size a ya zs.length cap ys.length yc n M) := HBX2.out.below HB8.out; rw [HV.out]; clear hb8))
          have HBF : Hid (Below w.heap.size w w8) := HB4.out.trans ((HBR.out.trans (HB8.out.mono HBR.out.size)).mono HB4.out.size)
          have HBG : Hid (Below w4.heap.size w4 w8) := HBR.out.trans (HB8.out.mono HBR.out.size)
          clear HBX7 HBX8 HBX2 HB7 HB8 hy1
          by_cases hux : u = x
          · have HAN := HAS.out hux
            have hux2 : ((u : Int) != (x : Int)) = false := by simp; omega
            have HAN2 : Hid _ := HAN
            clear HAN HAS HNE hux
            go_wp2
            go_roundw
            case rel => exact ⟨k + 1, by omega, by go_num, HAN2.out, HBG.out⟩
            case measure => simp [intOf]; omega
          · have hux2 : ((u : Int) != (x : Int)) = true := by simp; omega
            have HN : Hid (¬ ∃ res q, giY n V p s res q) := HNE.out hux
            clear HAS HNE hux
            go_wp2
            exact bodyPost_ret (v := .tuple #[.slice none 0 0, .int .i64 (-1), .bool false]) (by simp [results, Tryd.results31, go_sem]) rfl (lgR.no HBF.out HN.out)
        · have hkM : k = M := by omega
          subst hkM
          have hke : ¬ (k : Int) < (k : Int) := by omega
          have HYY : Hid (giY n V p s res q) := HYES.out HMQ.out.1 (by rw [← HMQ.out.1]; exact bit_eq_all U V p k HYB.out.2 HAL.out)
          have HBF : Hid (Below w.heap.size w wr) := HB4.out.trans (HBR.out.mono HB4.out.size)
          have HMF : Hid (MinI wr w.heap.size wr.heap.size a' cp res) := (HA4.out.below HBR.out).mono (Nat.le_refl _) HBR.out.size
          go_wp2
          refine bodyPost_ret (v := .tuple #[.slice a' rl cp, .int .i64 (q : Nat), .bool true]) (by simp [results, Tryd.results31, go_sem]) rfl ?_
          rw [← HRL.out]
          exact lgR.yes HBF.out HYY.out HMF.out
    · have hMi : ((M : Int) != (q : Int) - (p : Int)) = true := by simp; omega
      have HN : Hid (¬ ∃ res q, giY n V p s res q) := by
        rintro ⟨res', q', h⟩
        exact hMq (HUQ.out res' q' h).2.2.1
      go_wp2
      exact bodyPost_ret (v := .tuple #[.slice none 0 0, .int .i64 (-1), .bool false]) (by simp [results, Tryd.results31, go_sem]) rfl (lgR.no HB4.out HN.out)
  · obtain ⟨v, y, rfl⟩ := hno hg
    have HN : Hid (¬ ∃ res q, giY n V p s res q) := by
      rintro ⟨res', q', h⟩
      exact hg ⟨res', q', (giY_iff.1 h).1⟩
    clear hy hno hg
    go_wp2
    exact bodyPost_ret (v := .tuple #[.slice none 0 0, .int .i64 (-1), .bool false]) (by simp [results, Tryd.results31, go_sem]) rfl (lgR.no HB2.out HN.out)
/-- The model and the program get lengths alike. -/
theorem lensGet_both (N p s : Int) (zs : List Int) (hl : zs.length ≤ 1048576) (hr : ∀ z ∈ zs, 0 ≤ z ∧ z ≤ 255) : ∃ (ys : List Int) (M : Int) (ok : Bool), ys.length ≤ 1048576 ∧
    (∀ (a : Option Addr) (cap : Nat) (w : World), Byt w a zs → Calls Tryd.prog 31 #[.agg #[.slice a zs.length cap, .int .i64 N], .int .i64 p, .int .i64 s] w fun e w' =>
      ∃ a' cp, e = .returned (.tuple #[.slice a' ys.length cp, .int .i64 M, .bool ok]) ∧ MinI w' w.heap.size w'.heap.size a' cp ys ∧ Below w.heap.size w w') ∧
    (∀ (a : Option Addr) (cap : Nat) (w : World), Byt w a zs → Sent w 8 → Sent w 10 → Sent w 6 → Four w → (8 < w.heap.size ∧ 10 < w.heap.size ∧ 6 < w.heap.size) → Calls Tryd.prog 32 #[.agg #[.slice a zs.length cap, .int .i64 N], .int .i64 p, .int .i64 s] w fun e w' =>
      ∃ a' cp, e = .returned (.tuple #[.slice a' ys.length cp, .int .i64 M, .bool ok]) ∧ MinI w' w.heap.size w'.heap.size a' cp ys ∧ Below w.heap.size w w') := by
  by_cases h : lgArgs N p s zs
  · obtain ⟨hO, h1, h2, h3, h4⟩ := h
    obtain ⟨n, rfl, hn1, he, hv⟩ := okB_enc hO hr
    obtain ⟨p, rfl⟩ := Int.eq_ofNat_of_zero_le h1
    obtain ⟨s, rfl⟩ := Int.eq_ofNat_of_zero_le (show 0 ≤ s by omega)
    by_cases hg : ∃ res q, giY n (val zs) p s res q
    · obtain ⟨res, q, hy⟩ := hg
      have hl80 := (lensB_ok hy.2).2.1
      refine ⟨res, (q : Nat), true, by omega, ?_, ?_⟩
      · intro a cap w hb
        refine (specLensGet_ok a cap zs n p s w hb hO he (by omega) (by omega) (by omega) (by omega)).mono ?_
        rintro e w' ⟨hbb, h9, _⟩
        obtain ⟨a', cp, rfl, hm⟩ := h9 res q hy
        exact ⟨a', cp, rfl, hm, hbb⟩
      · intro a cap w hb s0 s1 s2 h4' hG
        refine (implLensGet_ok a cap zs n p s w hb hO he (by omega) (by omega) (by omega) (by omega) s0 s1 s2 h4' hG).mono ?_
        rintro e w' ⟨hbb, h9, _⟩
        obtain ⟨a', cp, rfl, hm⟩ := h9 res q hy
        exact ⟨a', cp, rfl, hm, hbb⟩
    · refine ⟨[], -1, false, by simp, ?_, ?_⟩
      · intro a cap w hb
        refine (specLensGet_ok a cap zs n p s w hb hO he (by omega) (by omega) (by omega) (by omega)).mono ?_
        rintro e w' ⟨hbb, _, hno⟩
        obtain rfl := hno hg
        exact ⟨none, 0, rfl, .inl ⟨rfl, rfl, rfl⟩, hbb⟩
      · intro a cap w hb s0 s1 s2 h4' hG
        refine (implLensGet_ok a cap zs n p s w hb hO he (by omega) (by omega) (by omega) (by omega) s0 s1 s2 h4' hG).mono ?_
        rintro e w' ⟨hbb, _, hno⟩
        obtain rfl := hno hg
        exact ⟨none, 0, rfl, .inl ⟨rfl, rfl, rfl⟩, hbb⟩
  · refine ⟨[], -1, false, by simp, ?_, ?_⟩
    · intro a cap w hb
      refine (specLensGet_no a cap zs N p s w hb (by omega) h).mono ?_
      rintro e w' ⟨rfl, hbb⟩
      exact ⟨none, 0, rfl, .inl ⟨rfl, rfl, rfl⟩, hbb⟩
    · intro a cap w hb _ _ _ _ _
      refine (implLensGet_no a cap zs N p s w hb (by omega) h).mono ?_
      rintro e w' ⟨rfl, hbb⟩
      exact ⟨none, 0, rfl, .inl ⟨rfl, rfl, rfl⟩, hbb⟩
end Go.Proofs.YtkolfmjlkfkleaaDoor
