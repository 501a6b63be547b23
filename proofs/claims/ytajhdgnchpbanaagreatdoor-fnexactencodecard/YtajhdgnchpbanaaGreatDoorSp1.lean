/-
  l3spread of the model.
-/
import Derived.Test.YtajhdgnchpbanaaGreatDoorPut4
import Derived.Test.YtajhdgnchpbanaaGreatDoorOkB
import Derived.Test.YtajhdgnchpbanaaGreatDoorOkI
import Derived.Test.YtajhdgnchpbanaaGreatDoorFp1
import Derived.Test.YtajhdgnchpbanaaGreatDoorINorm3
namespace Go.Proofs.YtajhdgnchpbanaaGreatDoor
open Go.RowKit
set_option linter.unusedVariables false

/-- The bit at place p of some bytes. -/
def bitAt (zs : List Int) (p : Nat) : Nat := (zs.getD (p / 8) 0).toNat / 2 ^ (p % 8) % 2

set_option maxHeartbeats 400000 in
theorem l1bit_any (a : Option Addr) (cap : Nat) (zs : List Int) (N p : Int) (w : World) (hb : Byt w a zs) (h0 : 0 ≤ p) (h1 : p.toNat / 8 < zs.length) (hp : p ≤ 8388608) :
    Calls Tryz.prog 50 #[.agg #[.slice a zs.length cap, .int .i64 N], .int .i64 p] w fun e w' => e = .returned (.int .i64 (bitAt zs p.toNat : Nat)) ∧ Below w.heap.size w w' := by
  have hw : Below w.heap.size w (w.alloc (Obj.cells #[Value.slice a zs.length cap, Value.int IntKind.i64 N] 37)) := (Below.refl _ _).alloc (Nat.le_refl _) _
  obtain ⟨q, rfl⟩ := Int.eq_ofNat_of_zero_le h0
  simp only [Int.toNat_natCast] at *
  obtain ⟨b, off, rfl, hbl, hc⟩ := hb.len_pos (q / 8) h1
  have hs := hc (q / 8) h1
  have hr := getD_rng hb.1 (q / 8)
  have hlen : (q / 8 : Nat) < zs.length := h1
  generalize hz : zs.getD (q / 8) 0 = z at *
  have HZ : Hid (zs.getD (q / 8) 0 = z) := hz
  clear hz hc
  go_enter Tryz.func50, Tryz.ntmps50
  go_wp2
  go_ret
  exact ⟨ret_int (by unfold bitAt; rw [HZ.out]; exact bit64 z _ hr), hw⟩

/-- What stays as it is while out grows. -/
structure Stay (w wr : World) (a : Option Addr) (K ca : Nat) (N : Int) (b : Option Addr) (L cb : Nat) (m : Int) (B : Nat) : Prop where
  bel : Below w.heap.size w wr
  a0 : wr.cell? ⟨w.heap.size, 0, none⟩ = some (.slice a K ca)
  a1 : wr.cell? ⟨w.heap.size, 1, none⟩ = some (.int .i64 N)
  b0 : wr.cell? ⟨w.heap.size + 1, 0, none⟩ = some (.slice b L cb)
  b1 : wr.cell? ⟨w.heap.size + 1, 1, none⟩ = some (.int .i64 m)
  r0 : wr.cell? ⟨w.heap.size + 1 + 1, 0, none⟩ = some (.slice none 0 0)
  r1 : wr.cell? ⟨w.heap.size + 1 + 1, 1, none⟩ = some (.int .i64 0)
  f0 : wr.frozen? ⟨w.heap.size + 1 + 1, 0, none⟩ = false
  f1 : wr.frozen? ⟨w.heap.size + 1 + 1, 1, none⟩ = false
  hB : B = w.heap.size + 1 + 1 + 1
  sz : B ≤ wr.heap.size

theorem Stay.only {S : Nat → Prop} {w wr w' : World} {a : Option Addr} {K ca : Nat} {N : Int} {b : Option Addr} {L cb : Nat} {m : Int} {B : Nat} (h : Stay w wr a K ca N b L cb m B) (ho : Only S wr w') (hs : ∀ k, S k → B ≤ k) : Stay w w' a K ca N b L cb m B := by
  have hB := h.hB; have hz := h.sz; have hs' := ho.size
  have n : ∀ k, k < B → ¬ S k := fun k hk hS => by have := hs k hS; omega
  exact ⟨h.bel.trans (ho.below (by omega) (fun k hk => by have := hs k hk; omega)), ho.cell (by omega) (n _ (by omega)) h.a0, ho.cell (by omega) (n _ (by omega)) h.a1, ho.cell (by omega) (n _ (by omega)) h.b0, ho.cell (by omega) (n _ (by omega)) h.b1, ho.cell (by omega) (n _ (by omega)) h.r0, ho.cell (by omega) (n _ (by omega)) h.r1,
    (World.frozen?_of_block (ho.block (w.heap.size + 1 + 1) (by omega) (n _ (by omega)))).trans h.f0, (World.frozen?_of_block (ho.block (w.heap.size + 1 + 1) (by omega) (n _ (by omega)))).trans h.f1, h.hB, by omega⟩

theorem Stay.step {w wr w' : World} {a : Option Addr} {K ca : Nat} {N : Int} {b : Option Addr} {L cb : Nat} {m : Int} {B : Nat} (h : Stay w wr a K ca N b L cb m B) (hb : Below wr.heap.size wr w') : Stay w w' a K ca N b L cb m B :=
  h.only (Only.ofBelow (S := fun _ => False) hb (Nat.le_refl _)) (by simp)

theorem Stay.start (w : World) (a : Option Addr) (K ca : Nat) (N : Int) (b : Option Addr) (L cb : Nat) (m : Int) : Stay w (((w.alloc (Obj.cells #[Value.slice a K ca, Value.int IntKind.i64 N] 37)).alloc (Obj.cells #[Value.slice b L cb, Value.int IntKind.i64 m] 37)).alloc (Obj.cells #[Value.slice none 0 0, Value.int IntKind.i64 0] 37)) a K ca N b L cb m (w.heap.size + 1 + 1 + 1) := by
  have hn := heap_alloc_new ((w.alloc (Obj.cells #[Value.slice a K ca, Value.int IntKind.i64 N] 37)).alloc (Obj.cells #[Value.slice b L cb, Value.int IntKind.i64 m] 37)) (Obj.cells #[Value.slice none 0 0, Value.int IntKind.i64 0] 37)
  simp only [World.size_alloc] at hn
  refine ⟨(((Below.refl _ _).alloc (Nat.le_refl _) _).alloc (by simp) _).alloc (by simp; omega) _, keepA _ (by simp; omega) (keepA _ (by simp) (by simp)), keepA _ (by simp; omega) (keepA _ (by simp) (by simp)), keepA _ (by simp) (by simp), keepA _ (by simp) (by simp), cellR (j := 0) hn rfl, cellR (j := 1) hn rfl, frozenR hn, frozenR hn, rfl, by simp⟩

theorem OwnV.ge {w : World} {B k : Nat} {v : Value} {zs : List Int} (h : OwnV w B v zs) (hk : v.ownBlock = some k) : B ≤ k ∧ k < w.heap.size := h.1.lt k hk
theorem OwnV.below {w w' : World} {B : Nat} {v : Value} {zs : List Int} (h : OwnV w B v zs) (hb : Below w.heap.size w w') : OwnV w' B v zs := by
  rcases h.1.2 with ⟨h1, h2⟩ | ⟨g, cap, cur, rfl, r⟩
  · exact ⟨⟨h.1.1, .inl ⟨h1, h2⟩⟩, h.2⟩
  · exact Own.below (g := g) (cap := cap) h hb (Nat.le_refl _)

set_option maxHeartbeats 1600000 in
theorem l1join_any (a : Option Addr) (cap : Nat) (zs : List Int) (b : Option Addr) (cb : Nat) (ys : List Int) (n V m U : Nat) (w : World) (ha : Byt w a zs) (hb : Byt w b ys) (hz : zs = enc n V) (hy : ys = enc m U) (hV : V < 2 ^ n) (hU : U < 2 ^ m) (hn : n + m ≤ 4096) :
    Calls Tryz.prog 30 #[.agg #[.slice a zs.length cap, .int .i64 n], .agg #[.slice b ys.length cb, .int .i64 m]] w fun e w' =>
      ∃ a' cp, e = .returned (.agg #[.slice a' (enc (n + m) (V + U * 2 ^ n)).length cp, .int .i64 ((n + m : Nat) : Int)]) ∧ Mine w' w.heap.size w'.heap.size a' cp (enc (n + m) (V + U * 2 ^ n)) ∧ Below w.heap.size w w' := by
  have hw : Below w.heap.size w ((w.alloc (Obj.cells #[Value.slice a zs.length cap, Value.int IntKind.i64 n] 37)).alloc (Obj.cells #[Value.slice b ys.length cb, Value.int IntKind.i64 m] 37)) := ((Below.refl _ _).alloc (Nat.le_refl _) _).alloc (by simp) _
  have hl : zs.length ≤ 1048576 := by rw [hz, enc_len]; omega
  have HZ : Hid (zs = enc n V) := hz
  have HY : Hid (ys = enc m U) := hy
  have hyl : ys.length = (m + 7) / 8 := by rw [hy, enc_len]
  have HYL : Hid (ys.length = (m + 7) / 8) := hyl
  have HV : Hid (V < 2 ^ n) := hV
  have HU : Hid (U < 2 ^ m) := hU
  clear hz hy hV hU hyl
  have hst := Stay.start w a zs.length cap (n : Int) b ys.length cb (m : Int)
  go_enter Tryz.func30, Tryz.ntmps30
  go_wp2_with fail
  refine (l1own_any a cap zs (n : Int) _ (ha.below hst.bel (Nat.le_refl _)) hl).mono ?_
  rintro e w2 ⟨g2, cp2, rfl, ho2, hb2⟩
  have hst2 := hst.step hb2
  simp only [World.size_alloc] at ho2
  clear hb2 hst hw
  obtain ⟨B, hB⟩ : ∃ B, B = w.heap.size + 1 + 1 + 1 := ⟨_, rfl⟩
  rw [← hB] at ho2 hst2
  have hst3 := hst2.step ((Below.refl w2.heap.size w2).alloc (Nat.le_refl _) (Obj.cells #[Value.slice (some ⟨g2, 0, none⟩) zs.length cp2, Value.int IntKind.i64 (n : Int)] 37))
  have HE2 : Hid (OwnV (w2.alloc (Obj.cells #[Value.slice (some ⟨g2, 0, none⟩) zs.length cp2, Value.int IntKind.i64 (n : Int)] 37)) B (.slice (some ⟨g2, 0, none⟩) zs.length cp2) (enc n V)) := by
    have := (ho2.alloc (Obj.cells #[Value.slice (some ⟨g2, 0, none⟩) zs.length cp2, Value.int IntKind.i64 (n : Int)] 37)).v
    rw [← HZ.out]
    exact this
  have hRB : B ≤ w2.heap.size := hst2.sz
  have HST : Hid _ := hst3
  clear hst2 ho2 hst3
  go_wp2
  go_loopw [6] (fun i wr => ∃ (k : Nat) (u : Value), k ≤ m ∧ i = .int .i64 k ∧ wr.heap[w2.heap.size]? = some (.cells #[u, .int .i64 ((n + k : Nat) : Int)] 37 (0, 0)) ∧ OwnV wr B u (enc (n + k) (V + (U % 2 ^ k) * 2 ^ n)) ∧ Stay w wr a zs.length cap (n : Int) b ys.length cb (m : Int) B) (fun i _ => m - (intOf i).toNat)
  case atStart => exact ⟨0, _, Nat.zero_le _, rfl, heap_alloc_new w2 _, by simpa [Nat.mod_one] using HE2.out, HST.out⟩
  case round =>
    obtain ⟨k, u, hk, rfl, hRr, hur, hst⟩ := hrel
    have p0 := hst.b0
    have p1 := hst.b1
    have hRl : w2.heap.size < wr.heap.size := (Array.getElem?_eq_some_iff.1 hRr).1
    by_cases hlt : k < m
    · have HB : Hid (bitAt ys ((k : Int)).toNat = U / 2 ^ k % 2) := by
        have := enc_bit m U k hlt
        rw [← HY.out] at this
        rw [show ((k : Int)).toNat = k from by omega]
        exact this
      have hbit : U / 2 ^ k % 2 < 2 := Nat.mod_lt _ (by omega)
      have HP : Hid (V + (U % 2 ^ k) * 2 ^ n + (U / 2 ^ k % 2) * 2 ^ (n + k) = V + (U % 2 ^ (k + 1)) * 2 ^ n) := by
        have := put_part n V U k 1
        simp only [Nat.pow_one] at this
        exact this
      have hVk : V + (U % 2 ^ k) * 2 ^ n < 2 ^ (n + k) := put_lt n V k (U % 2 ^ k) HV.out (Nat.mod_lt _ (Nat.pow_pos (by omega)))
      generalize U / 2 ^ k % 2 = bt at *
      have HVK : Hid _ := hVk
      have HUR : Hid (OwnV wr B u (enc (n + k) (V + (U % 2 ^ k) * 2 ^ n))) := hur
      have HRR : Hid _ := hRr
      clear hVk hur hRr
      go_wp2_with fail
      refine (l1bit_any b cb ys (m : Int) _ _ (hb.below hst.bel (Nat.le_refl _)) (by omega) (by have := HYL.out; omega) (by omega)).mono ?_
      rintro e w3 ⟨rfl, hb3⟩
      rw [HB.out]
      have hst3 := hst.step hb3
      have hur3 : OwnV w3 B u (enc (n + k) (V + (U % 2 ^ k) * 2 ^ n)) := OwnV.below HUR.out hb3
      have hR3 : w3.heap[w2.heap.size]? = some (Obj.cells #[u, Value.int IntKind.i64 ((n + k : Nat) : Int)] 37) := (hb3.block _ hRl).trans HRR.out
      have z3 := hb3.size
      clear hb3 hst p0 p1
      go_wp2_with fail
      refine (l1put_any w2.heap.size B u (n + k) (V + (U % 2 ^ k) * 2 ^ n) (bt : Int) 1 _ hR3 hur3 HVK.out (by omega) (by omega) (by omega) (by omega) (by omega) (by omega)).mono ?_
      rintro e w4 ⟨rfl, v', hR4, hv4, honly4, hrow4⟩
      have hst4 := hst3.only honly4 (fun j hj => by
        rcases hj with hj | hj
        · omega
        · exact (OwnV.ge hur3 hj).1)
      have hbt : (bt : Int).toNat % 2 ^ (1 : Int).toNat = bt := by
        simp
        omega
      rw [hbt, HP.out] at hv4
      have HF : Hid _ := (⟨hR4, hv4, hst4⟩ : _ ∧ _ ∧ _)
      clear hR4 hv4 hst4 honly4 hrow4 hur3 hR3 hst3
      go_wp2
      go_roundw
      case rel => exact ⟨k + 1, v', by omega, by go_num, HF.out.1, HF.out.2.1, HF.out.2.2⟩
      case measure => simp [intOf]; omega
    · have hkm : k = m := by omega
      subst hkm
      rw [Nat.mod_eq_of_lt HU.out] at hur
      obtain ⟨a', cp, rfl, hmine⟩ := hur.mine
      generalize hYS : enc (n + k) (V + U * 2 ^ n) = xs at *
      have HYS : Hid (enc (n + k) (V + U * 2 ^ n) = xs) := hYS
      clear hYS
      have d0 : wr.cell? ⟨w2.heap.size, 0, none⟩ = some (.slice a' xs.length cp) := cellR (j := 0) hRr rfl
      have d1 : wr.cell? ⟨w2.heap.size, 1, none⟩ = some (.int .i64 ((n + k : Nat) : Int)) := cellR (j := 1) hRr rfl
      have HM : Hid (Mine wr B wr.heap.size a' cp xs) := hmine
      have x0 := hst.r0
      have x1 := hst.r1
      have y0 := hst.f0
      have y1 := hst.f1
      have HS : Hid _ := hst
      clear hst hmine hur hRr
      go_wp2
      refine bodyPost_ret (v := .agg #[.slice a' xs.length cp, .int .i64 ((n + k : Nat) : Int)]) (by simp [results, Tryz.results30, go_sem, x0, x1]) rfl ⟨a', cp, by rw [HYS.out], ?_, ?_⟩
      · rw [HYS.out]
        have hO3 : Only (fun b => b = w.heap.size + 1 + 1) wr ((wr.setCell ⟨w.heap.size + 1 + 1, 0, none⟩ (.slice a' xs.length cp)).setCell ⟨w.heap.size + 1 + 1, 1, none⟩ (.int .i64 ((n + k : Nat) : Int))) :=
          Only.setCell (Only.setCell (Only.refl (fun b => b = w.heap.size + 1 + 1) wr) (p := ⟨w.heap.size + 1 + 1, 0, none⟩) (.inl rfl) _) (p := ⟨w.heap.size + 1 + 1, 1, none⟩) (.inl rfl) _
        exact ((HM.out.only hO3 (fun b h1 _ => by omega)).mono (by omega) (by simp [World.setCell]))
      · exact ((HS.out.bel.setCell (by simp; omega) _).setCell (by simp; omega) _)
set_option maxRecDepth 20000 in
set_option maxHeartbeats 4000000 in
theorem l3spread_any (a : Option Addr) (cap : Nat) (zs : List Int) (w : World) (hb : Ins w a zs) (hn : normB zs = true) :
    Calls Tryz.prog 71 #[.slice a zs.length cap] w fun e w' => e = .returned (.slice (some ⟨w.heap.size, 0, none⟩) 64 64) ∧ OwI w' w.heap.size w.heap.size 64 (pl (fl 0 zs) (plc 64)) ∧ Below w.heap.size w w' := by
  obtain ⟨i0, hi, hz0, hz1, hz2⟩ := info_parts Tryz.infoI64
  have hbd := normB_bnd hn
  have hall : (∀ z ∈ zs, 0 ≤ z) ∧ zs.sum = 64 := by
    simp only [normB, decide_eq_true_eq] at hn
    exact ⟨fun z hz => (hn.2.2.1 z hz).1, hn.2.2.2⟩
  have HN : Hid (normB zs = true) := hn
  have HA : Hid ((∀ z ∈ zs, 0 ≤ z) ∧ zs.sum = 64) := hall
  have HB : Hid (Ins w a zs) := hb
  clear hn hall hb
  generalize hL : zs.length = n at *
  have HL : Hid (zs.length = n) := hL
  clear hL
  go_enter Tryz.func71, Tryz.ntmps71
  go_wp2_with (at_make; refine wpList_make_full _ rfl _ _ 35 rfl w.heap.size 3 i0 (.int .i64 0) 1 Tryz.underlying35 hi hz0 hz1 .i64 .i64 _ _ 64 rfl rfl rfl rfl (by rw [hz2]; omega) (by unfold maxLen; omega) (Nat.le_refl _) ?_; intro w1 hown hgrow)
  have HR1 : Hid (OwI w1 w.heap.size w.heap.size 64 (pl (fl 0 zs) (plc 0))) := made_rowI hown
  have HB1 : Hid (Below w.heap.size w w1) := (Below.refl _ _).grown hgrow (Nat.le_refl _) (fun k hk => by cases hk)
  clear hown hgrow
  generalize hG : w.heap.size = G at *
  have HG : Hid (w.heap.size = G) := hG
  clear hG
  go_loopw [4, 5] (fun at_ i wr => ∃ k M : Nat, k ≤ n ∧ i = .int .i64 k ∧ M = (zs.take k).sum.toNat ∧ at_ = .int .i64 ((43 * M % 64 : Nat) : Int) ∧ OwI wr G G 64 (pl (fl 0 zs) (plc M)) ∧ Below G w wr) (fun _ i _ => n - (intOf i).toNat)
  case atStart => exact ⟨0, 0, Nat.zero_le _, rfl, by simp, rfl, HR1.out, HB1.out⟩
  case round =>
    obtain ⟨k, M, hk, rfl, hM, rfl, hr, hbw⟩ := hrel
    by_cases hlt : k < n
    · obtain ⟨b1, o1, rfl, hb1, hc1⟩ := HB.out.len_pos k (by rw [HL.out]; exact hlt)
      have hs1 := hc1 k (by rw [HL.out]; exact hlt)
      have hg := normB_get HN.out k (by rw [HL.out]; exact hlt)
      obtain ⟨z, hz⟩ := Int.eq_ofNat_of_zero_le hg.1
      have HZ : Hid (zs.getD k 0 = (z : Int)) := hz
      have hsc := hs1
      rw [hz] at hsc hg
      have HS : Hid (w.cell? ⟨b1, o1 + k, none⟩ = some (.int .i64 z)) := hsc
      have HBW : Hid (Below G w wr) := hbw
      have HRR : Hid (OwI wr G G 64 (pl (fl 0 zs) (plc M))) := hr
      have HM : Hid (M = (zs.take k).sum.toNat) := hM
      rw [HG.out] at hb1
      have hz64 : z ≤ 64 := by omega
      clear hs1 hsc hc1 hz hbw hr hM hg
      generalize hq : 43 * M % 64 = q at *
      have HQ : Hid (43 * M % 64 = q) := hq
      clear hq
      go_wp2
      go_loopw [4, 6] (fun at_ j wr => ∃ m M' : Nat, m ≤ z ∧ j = .int .i64 m ∧ M' = M + m ∧ at_ = .int .i64 ((43 * M' % 64 : Nat) : Int) ∧ OwI wr G G 64 (pl (fl 0 zs) (plc M')) ∧ Below G w wr) (fun _ j _ => z - (intOf j).toNat)
      case atStart => exact ⟨0, M, Nat.zero_le _, rfl, by simp, by rw [HQ.out], HRR.out, HBW.out⟩
      case round =>
        obtain ⟨m, M', hm, rfl, hM', rfl, hr, hbw⟩ := hrel
        have hcell : wr.cell? ⟨b1, o1 + k, none⟩ = some (.int .i64 z) := keep hbw hb1 HS.out
        by_cases hmz : m < z
        · have HF : Hid ((fl 0 zs).getD M' 0 = ((k : Nat) : Int)) := by
            have := fl_at zs 0 k m HA.out.1 (by rw [HL.out]; exact hlt) (by rw [HZ.out]; omega)
            rw [← HM.out, ← hM', Nat.zero_add] at this
            exact this
          obtain ⟨q', hq'⟩ : ∃ q', 43 * M' % 64 = q' := ⟨_, rfl⟩
          have hq64 : q' < 64 := by omega
          have HP : Hid ((pl (fl 0 zs) (plc M')).set q' (k : Int) = pl (fl 0 zs) (plc (M' + 1))) := by
            unfold Hid
            rw [plc_succ, pl_snoc, plc_len, HF.out, hq']
          have hc2 := hr.cell q' (by rw [pl_len]; exact hq64)
          have hf2 := hr.frozen q'
          have HRW : Hid (OwI (wr.setCell ⟨G, q', none⟩ (.int .i64 k)) G G 64 (pl (fl 0 zs) (plc (M' + 1)))) := by
            have := hr.store q' (k : Int) (by omega)
            rw [HP.out] at this
            exact this
          have HBW2 : Hid (Below G w (wr.setCell ⟨G, q', none⟩ (.int .i64 k))) := hbw.setCell (by simp) _
          have HQ2 : Hid ((q' + 43) % 64 = 43 * (M' + 1) % 64) := by unfold Hid; omega
          have HM' : Hid (M' = M + m) := hM'
          generalize (pl (fl 0 zs) (plc M')).getD q' 0 = old at *
          rw [hq']
          clear hr hbw hM' hq' HP HF
          go_wp2
          go_roundw
          case rel => exact ⟨m + 1, M' + 1, by omega, by go_num, by rw [HM'.out, Nat.add_assoc], by rw [← HQ2.out]; simp; try omega, HRW.out, HBW2.out⟩
          case measure => simp [intOf]; omega
        · have hme : m = z := by omega
          subst hme
          have HRW : Hid (OwI wr G G 64 (pl (fl 0 zs) (plc M'))) := hr
          have HBW2 : Hid (Below G w wr) := hbw
          have HMS : Hid (M' = (zs.take (k + 1)).sum.toNat) := by
            unfold Hid
            have h1 := sum_succ zs k (by rw [HL.out]; exact hlt)
            have h2 := sum_nn HA.out.1 k
            rw [h1, HZ.out, hM', HM.out]
            omega
          generalize hq' : 43 * M' % 64 = q' at *
          have HQ2 : Hid (43 * M' % 64 = q') := hq'
          clear hr hbw hM' hq'
          go_wp2
          go_roundw
          case rel => exact ⟨k + 1, M', by omega, by go_num, HMS.out, by rw [HQ2.out], HRW.out, HBW2.out⟩
          case measure => simp [intOf]; omega
    · have hke : k = n := by omega
      subst hke
      have HM64 : Hid (M = 64) := by
        unfold Hid
        have h1 := HL.out
        rw [hM, ← h1, List.take_length, HA.out.2]
        rfl
      have HRR : Hid (OwI wr G G 64 (pl (fl 0 zs) (plc M))) := hr
      have HBW : Hid (Below G w wr) := hbw
      generalize hq : 43 * M % 64 = q at *
      clear hr hbw hM hq
      go_wp2
      go_ret
      have h64 := HM64.out
      subst h64
      rw [HG.out]
      exact ⟨rfl, HRR.out, HBW.out⟩
end Go.Proofs.YtajhdgnchpbanaaGreatDoor
