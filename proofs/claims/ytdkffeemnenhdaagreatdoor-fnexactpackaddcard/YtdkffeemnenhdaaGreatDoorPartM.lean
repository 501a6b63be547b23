/-
  The model's l5part: some of the bits.
-/
import Derived.Test.YtdkffeemnenhdaaGreatDoorOpen1
import Derived.Test.YtdkffeemnenhdaaGreatDoorNum
import Derived.Test.YtdkffeemnenhdaaGreatDoorLGetM
import Derived.Test.YtdkffeemnenhdaaGreatDoorPut3
import Derived.Test.YtdkffeemnenhdaaGreatDoorHGet1
import Derived.Test.YtdkffeemnenhdaaGreatDoorPut1
namespace Go.Proofs.YtdkffeemnenhdaaGreatDoor
open Go.RowKit
set_option linter.unusedVariables false

theorem val_encB (M V : Nat) (h : V < 2 ^ M) : val (enc M V) = V := by
  unfold enc
  rw [val_encL]
  refine Nat.mod_eq_of_lt (Nat.lt_of_lt_of_le h ?_)
  rw [show 256 = 2 ^ 8 from rfl, ← Nat.pow_mul]
  exact Nat.pow_le_pow_right (by omega) (by omega)
theorem okB_encB (M V : Nat) (hM : M ≤ 4096) (h : V < 2 ^ M) : okB (M : Int) (enc M V) = true := by
  have hl := enc_len M V
  by_cases h8 : M % 8 = 0
  · exact okB_full (by omega) (by omega) (by rw [hl]; omega) (by omega)
  · rw [okB_last (by omega) (by omega) (by rw [hl]; omega) (by omega)]
    have h1 := enc_last M V h h8
    have h2 := enc_top M V h
    rw [show (enc M V).length - 1 = M / 8 from by omega, h1, show ((M : Int) % 8).toNat = M % 8 from by omega]
    have e : (((V / 256 ^ (M / 8) : Nat) : Int) / 2 ^ (M % 8)) = ((V / 256 ^ (M / 8) / 2 ^ (M % 8) : Nat) : Int) := by simp
    rw [e, Nat.div_eq_of_lt h2]
    rfl
end Go.Proofs.YtdkffeemnenhdaaGreatDoor
namespace Go.Proofs.YtdkffeemnenhdaaGreatDoor
open Go.RowKit
set_option linter.unusedVariables false
set_option linter.unusedSimpArgs false

theorem bt_one (V p j : Nat) : bt V p (j + 1) = bt V p j + (V / 2 ^ (p + j) % 2) * 2 ^ j := by
  rw [bt_split, Nat.mul_comm]
  rfl

theorem ownV_ge {w : World} {B k : Nat} {v : Value} {zs : List Int} (h : OwnV w B v zs) (hk : v.ownBlock = some k) : B ≤ k ∧ k < w.heap.size := h.1.lt k hk
theorem ownV_below {w w' : World} {B : Nat} {v : Value} {zs : List Int} (h : OwnV w B v zs) (hb : Below w.heap.size w w') : OwnV w' B v zs := by
  rcases h.1.2 with ⟨h1, h2⟩ | ⟨g, cap, cur, rfl, r⟩
  · exact ⟨⟨h.1.1, .inl ⟨h1, h2⟩⟩, h.2⟩
  · exact Own.below (g := g) (cap := cap) h hb (Nat.le_refl _)

/-- What stays as it is while out grows. -/
structure StayP (w wr : World) (a : Option Addr) (K ca : Nat) (N : Int) (B : Nat) : Prop where
  bel : Below w.heap.size w wr
  a0 : wr.cell? ⟨w.heap.size, 0, none⟩ = some (.slice a K ca)
  a1 : wr.cell? ⟨w.heap.size, 1, none⟩ = some (.int .i64 N)
  r0 : wr.cell? ⟨w.heap.size + 1, 0, none⟩ = some (.slice none 0 0)
  r1 : wr.cell? ⟨w.heap.size + 1, 1, none⟩ = some (.int .i64 0)
  f0 : wr.frozen? ⟨w.heap.size + 1, 0, none⟩ = false
  f1 : wr.frozen? ⟨w.heap.size + 1, 1, none⟩ = false
  hB : B = w.heap.size + 1 + 1
  sz : B ≤ wr.heap.size

theorem StayP.only {S : Nat → Prop} {w wr w' : World} {a : Option Addr} {K ca : Nat} {N : Int} {B : Nat} (h : StayP w wr a K ca N B) (ho : Only S wr w') (hs : ∀ k, S k → B ≤ k) : StayP w w' a K ca N B := by
  have hB := h.hB; have hz := h.sz; have hs' := ho.size
  have n : ∀ k, k < B → ¬ S k := fun k hk hS => by have := hs k hS; omega
  exact ⟨h.bel.trans (ho.below (by omega) (fun k hk => by have := hs k hk; omega)), ho.cell (by omega) (n _ (by omega)) h.a0, ho.cell (by omega) (n _ (by omega)) h.a1, ho.cell (by omega) (n _ (by omega)) h.r0, ho.cell (by omega) (n _ (by omega)) h.r1,
    (World.frozen?_of_block (ho.block (w.heap.size + 1) (by omega) (n _ (by omega)))).trans h.f0, (World.frozen?_of_block (ho.block (w.heap.size + 1) (by omega) (n _ (by omega)))).trans h.f1, h.hB, by omega⟩

theorem StayP.step {w wr w' : World} {a : Option Addr} {K ca : Nat} {N : Int} {B : Nat} (h : StayP w wr a K ca N B) (hb : Below wr.heap.size wr w') : StayP w w' a K ca N B :=
  h.only (Only.ofBelow (S := fun _ => False) hb (Nat.le_refl _)) (by simp)

theorem StayP.start (w : World) (a : Option Addr) (K ca : Nat) (N : Int) : StayP w ((w.alloc (Obj.cells #[Value.slice a K ca, Value.int IntKind.i64 N] 80)).alloc (Obj.cells #[Value.slice none 0 0, Value.int IntKind.i64 0] 80)) a K ca N (w.heap.size + 1 + 1) := by
  have hn := heap_alloc_new (w.alloc (Obj.cells #[Value.slice a K ca, Value.int IntKind.i64 N] 80)) (Obj.cells #[Value.slice none 0 0, Value.int IntKind.i64 0] 80)
  simp only [World.size_alloc] at hn
  refine ⟨((Below.refl _ _).alloc (Nat.le_refl _) _).alloc (by simp) _, keepA _ (by simp) (by simp), keepA _ (by simp) (by simp), cellR (j := 0) hn rfl, cellR (j := 1) hn rfl, frozenR hn, frozenR hn, rfl, by simp⟩

set_option maxRecDepth 20000 in
set_option maxHeartbeats 1600000 in
theorem l5part_any (a : Option Addr) (cap : Nat) (zs : List Int) (n V p q : Nat) (w : World) (hb : Byt w a zs) (hz : zs = enc n V) (hn : n ≤ 4096) (hpq : p ≤ q) (hq : q ≤ n) :
    Calls Tryz.prog 76 #[.agg #[.slice a zs.length cap, .int .i64 n], .int .i64 p, .int .i64 q] w fun e w' =>
      ∃ a' cp, e = .returned (.agg #[.slice a' (enc (q - p) (bt V p (q - p))).length cp, .int .i64 ((q - p : Nat) : Int)]) ∧ Mine w' w.heap.size w'.heap.size a' cp (enc (q - p) (bt V p (q - p))) ∧ Below w.heap.size w w' := by
  obtain ⟨d, hd⟩ : ∃ d, d = q - p := ⟨q - p, rfl⟩
  rw [← hd]
  have HD : Hid (q = p + d) := by simp [Hid]; omega
  clear hd
  have HZ : Hid (zs = enc n V ∧ zs.length = (n + 7) / 8) := ⟨hz, by rw [hz, enc_len]⟩
  clear hz
  have hst := StayP.start w a zs.length cap (n : Int)
  obtain ⟨B, hB⟩ : ∃ B, B = w.heap.size + 1 + 1 := ⟨_, rfl⟩
  rw [← hB] at hst
  have HST : Hid _ := hst.step ((Below.refl _ _).alloc (Nat.le_refl _) (Obj.cells #[Value.slice none 0 0, Value.int IntKind.i64 0] 80))
  have HN : Hid _ := heap_alloc_new ((w.alloc (Obj.cells #[Value.slice a zs.length cap, Value.int IntKind.i64 n] 80)).alloc (Obj.cells #[Value.slice none 0 0, Value.int IntKind.i64 0] 80)) (Obj.cells #[Value.slice none 0 0, Value.int IntKind.i64 0] 80)
  have HBQ : Hid (B = w.heap.size + 1 + 1) := hB
  clear hst hB
  go_enter Tryz.func76, Tryz.ntmps76
  go_wp2
  rw [← HBQ.out]
  go_loopw [8] (fun i wr => ∃ (k : Nat) (u : Value), p + k ≤ q ∧ i = .int .i64 ((p + k : Nat) : Int) ∧ wr.heap[B]? = some (.cells #[u, .int .i64 (k : Nat)] 80 (0, 0)) ∧ OwnV wr B u (enc k (bt V p k)) ∧ StayP w wr a zs.length cap (n : Int) B) (fun i _ => q - (intOf i).toNat)
  case atStart =>
    refine ⟨0, .slice none 0 0, hpq, rfl, ?_, ?_, HST.out⟩
    · have := HN.out
      simp only [World.size_alloc] at this
      rw [← HBQ.out] at this
      exact this
    · rw [bt_zero]
      refine ⟨⟨?_, .inl ⟨rfl, rfl⟩⟩, by simp [enc, encL]⟩
      rfl
  case round =>
    obtain ⟨k, u, hk, rfl, hRr, hur, hst⟩ := hrel
    have hRl : B < wr.heap.size := (Array.getElem?_eq_some_iff.1 hRr).1
    by_cases hlt : p + k < q
    · have p0 := hst.a0
      have p1 := hst.a1
      have HB : Hid (bitAt zs ((p : Int) + (k : Int)).toNat = V / 2 ^ (p + k) % 2) := by
        have := enc_bit n V (p + k) (by omega)
        rw [← HZ.out.1] at this
        rw [show ((p : Int) + (k : Int)).toNat = p + k from by omega]
        exact this
      have hbit : V / 2 ^ (p + k) % 2 < 2 := Nat.mod_lt _ (by omega)
      have HP : Hid (bt V p k + (V / 2 ^ (p + k) % 2) * 2 ^ k = bt V p (k + 1)) := (bt_one V p k).symm
      generalize V / 2 ^ (p + k) % 2 = b at *
      have HUR : Hid _ := (⟨hur, hRr⟩ : _ ∧ _)
      clear hur hRr
      go_wp2_with fail
      refine (l1bit_any a cap zs (n : Int) _ _ (hb.below hst.bel (Nat.le_refl _)) (by omega) (by have := HZ.out.2; omega) (by omega)).mono ?_
      rintro e w3 ⟨rfl, hb3⟩
      rw [HB.out]
      have hst3 := hst.step hb3
      have hur3 := ownV_below HUR.out.1 hb3
      have hR3 := (hb3.block _ hRl).trans HUR.out.2
      have z3 := hb3.size
      clear hb3 hst p0 p1
      go_wp2_with fail
      refine (l1put_any B B u k (bt V p k) (b : Int) 1 _ hR3 hur3 (bt_lt _ _ _) (by omega) (by omega) (by omega) (by omega) (by omega) (by omega)).mono ?_
      rintro e w4 ⟨rfl, v', hR4, hv4, honly4, hrow4⟩
      have hst4 := hst3.only honly4 (fun j hj => by
        rcases hj with hj | hj
        · omega
        · exact (ownV_ge hur3 hj).1)
      have hbt : (b : Int).toNat % 2 ^ (1 : Int).toNat = b := by
        simp
        omega
      rw [hbt, HP.out] at hv4
      have HF : Hid _ := (⟨hR4, hv4, hst4⟩ : _ ∧ _ ∧ _)
      clear hR4 hv4 hst4 honly4 hrow4 hur3 hR3 hst3
      go_wp2
      go_roundw
      case rel => exact ⟨k + 1, v', by omega, by go_num, HF.out.1, HF.out.2.1, HF.out.2.2⟩
      case measure => simp [intOf]; omega
    · have hkm : k = d := by have := HD.out; omega
      subst hkm
      obtain ⟨a', cp, rfl, hmine⟩ := hur.mine
      generalize hYS : enc k (bt V p k) = xs at *
      have HYS : Hid (enc k (bt V p k) = xs) := hYS
      clear hYS
      have d0 : wr.cell? ⟨B, 0, none⟩ = some (.slice a' xs.length cp) := cellR (j := 0) hRr rfl
      have d1 : wr.cell? ⟨B, 1, none⟩ = some (.int .i64 (k : Nat)) := cellR (j := 1) hRr rfl
      have HM : Hid (Mine wr B wr.heap.size a' cp xs) := hmine
      have x0 := hst.r0
      have x1 := hst.r1
      have y0 := hst.f0
      have y1 := hst.f1
      have HS : Hid _ := hst
      clear hst hmine hur hRr
      go_wp2
      refine bodyPost_ret (v := .agg #[.slice a' xs.length cp, .int .i64 (k : Nat)]) (by simp [results, Tryz.results76, go_sem, x0, x1]) rfl ⟨a', cp, by rw [HYS.out], ?_, ?_⟩
      · rw [HYS.out]
        have hO3 : Only (fun b => b = w.heap.size + 1) wr ((wr.setCell ⟨w.heap.size + 1, 0, none⟩ (.slice a' xs.length cp)).setCell ⟨w.heap.size + 1, 1, none⟩ (.int .i64 (k : Nat))) :=
          Only.setCell (Only.setCell (Only.refl (fun b => b = w.heap.size + 1) wr) (p := ⟨w.heap.size + 1, 0, none⟩) (.inl rfl) _) (p := ⟨w.heap.size + 1, 1, none⟩) (.inl rfl) _
        have hBB := HBQ.out
        exact ((HM.out.only hO3 (fun b h1 _ => by omega)).mono (by omega) (by simp [World.setCell]))
      · exact ((HS.out.bel.setCell (by simp) _).setCell (by simp) _)
end Go.Proofs.YtdkffeemnenhdaaGreatDoor
