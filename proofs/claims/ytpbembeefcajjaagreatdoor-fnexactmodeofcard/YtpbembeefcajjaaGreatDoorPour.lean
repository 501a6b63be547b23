/-
  The program's pour: bits go over in parts of at most 30, until the reader is over, or no room is left.
-/
import Derived.Test.YtpbembeefcajjaaGreatDoorOnly
import Derived.LaidEql
import Derived.Stop.Asserts
import Derived.RowKitTokens
import Derived.Test.YtpbembeefcajjaaGreatDoorPut1
import Derived.Test.YtpbembeefcajjaaGreatDoorPut4
namespace Go.Proofs.YtpbembeefcajjaaGreatDoor
open Go.RowKit Go.Extern.Stop Go.Stop Go.Extern
set_option linter.unusedVariables false

theorem isTypeOf (v : Value) (w : World) : (Extern.ReflectliteType.typeOf #[.iface 159 v]).run Tryz.prog w = .ok (.iface 149 (.agg #[.pointer (some ⟨19, 159, none⟩)])) w := by kernel_rfl
/-- What the model has at Comparable. -/
noncomputable def cmpX : Array Value → Sem Value := (find Tryz.f110).getD (fun _ => pure .nilIface)
theorem isComparable (w : World) : (cmpX #[.agg #[.pointer (some ⟨19, 159, none⟩)]]).run Tryz.prog w = .ok (.bool true) w := by kernel_rfl
theorem isComp : (Tryz.prog.info? 159).map (·.comparable) = some true := by kernel_rfl
theorem isSize : (Tryz.prog.info? 184).map (·.size) = some 1 := by kernel_rfl
theorem noIs (v : Value) (xT : TypeId) (w : World) : (Instr.typeAssert (.iface 159 v) xT 151 true).run Tryz.prog w = .ok (.tuple #[.nilIface, .bool false]) w := run_typeAssert_lacksB Tryz.underlying151 (by kernel_rfl) (by kernel_rfl) v xT w
theorem noUnwrap (v : Value) (xT : TypeId) (w : World) : (Instr.typeAssert (.iface 159 v) xT 154 true).run Tryz.prog w = .ok (.tuple #[.nilIface, .bool false]) w := run_typeAssert_lacksB Tryz.underlying154 (by kernel_rfl) (by kernel_rfl) v xT w
theorem noUnwraps (v : Value) (xT : TypeId) (w : World) : (Instr.typeAssert (.iface 159 v) xT 156 true).run Tryz.prog w = .ok (.tuple #[.nilIface, .bool false]) w := run_typeAssert_lacksB Tryz.underlying156 (by kernel_rfl) (by kernel_rfl) v xT w
theorem isMethod (v : Value) (w : World) : (Go.method 296 149 v "Comparable").run Tryz.prog w = .ok (110, v) w := by kernel_rfl

set_option maxRecDepth 100000 in
set_option maxHeartbeats 1600000 in
/-- errors.Is(x, x). -/
theorem is_same (a : Addr) (w : World) :
    Calls Tryz.prog 76 #[.iface 159 (.pointer (some a)), .iface 159 (.pointer (some a))] w fun e w' => e = .returned (.bool true) ∧ w' = w := by
  obtain ⟨i, hi, hcmp⟩ := Option.map_eq_some_iff.1 isComp
  obtain ⟨j, hj, hjs⟩ := Option.map_eq_some_iff.1 isSize
  have hT := @run_callFunc_extern Tryz.prog 81 _ Extern.ReflectliteType.typeOf Tryz.func81 (by kernel_rfl) (by kernel_rfl) (by kernel_rfl) (by kernel_rfl)
  have hC := @run_callFunc_extern Tryz.prog 110 _ cmpX Tryz.func110 (by kernel_rfl) (by kernel_rfl) (by kernel_rfl) (by kernel_rfl)
  have tT := isTypeOf
  have cT := isComparable
  have mR := isMethod
  have heq := run_eql_iface_ptr_same (P := Tryz.prog) w a Tryz.underlying42 Tryz.underlying159 hi hcmp hj
  go_enter Tryz.func76, Tryz.ntmps76
  go_wp2
  refine wp_loop_rounds 1 ?_
  rw [rounds_succ]
  go_wp2
  go_ret
  exact ⟨rfl, rfl⟩

set_option maxRecDepth 100000 in
set_option maxHeartbeats 1600000 in
/-- errors.Is(x, y), where x == y is false: neither has Is nor Unwrap. -/
theorem is_other (a b : Addr) (w : World) (heq : (binOp .eql 42 (.iface 159 (.pointer (some a))) (.iface 159 (.pointer (some b)))).run Tryz.prog w = .ok (.bool false) w) :
    Calls Tryz.prog 76 #[.iface 159 (.pointer (some a)), .iface 159 (.pointer (some b))] w fun e w' => e = .returned (.bool false) ∧ w' = w := by
  obtain ⟨i, hi, hcmp⟩ := Option.map_eq_some_iff.1 isComp
  obtain ⟨j, hj, hjs⟩ := Option.map_eq_some_iff.1 isSize
  have hT := @run_callFunc_extern Tryz.prog 81 _ Extern.ReflectliteType.typeOf Tryz.func81 (by kernel_rfl) (by kernel_rfl) (by kernel_rfl) (by kernel_rfl)
  have hC := @run_callFunc_extern Tryz.prog 110 _ cmpX Tryz.func110 (by kernel_rfl) (by kernel_rfl) (by kernel_rfl) (by kernel_rfl)
  have tT := isTypeOf
  have cT := isComparable
  have mR := isMethod
  have nE := noIs
  have uE := noUnwrap
  have vE := noUnwraps
  go_enter Tryz.func76, Tryz.ntmps76
  go_wp2
  refine wp_loop_rounds 1 ?_
  rw [rounds_succ]
  go_wp2
  go_ret
  exact ⟨rfl, rfl⟩
end Go.Proofs.YtpbembeefcajjaaGreatDoor
namespace Go.Proofs.YtpbembeefcajjaaGreatDoor
open Go.RowKit
set_option linter.unusedVariables false

set_option maxHeartbeats 1600000 in
/-- What put answers where no room is left: just the sentinel. -/
theorem wput_full (R : Nat) (v : Value) (n : Nat) (x width room : Int) (X : Value) (w : World) (hR : w.heap[R]? = some (.cells #[v, .int .i64 n, .int .i64 room] 126 (0, 0))) (hn : n ≤ 4104) (hr0 : 0 ≤ room) (hroom : room ≤ 5000)
    (g1 : w.cell? ⟨18, 0, none⟩ = some X) (k1 : 0 ≤ width) (k2 : width ≤ 30) (k3 : 0 ≤ x) (k4' : x < 2 ^ width.toNat) (k5 : room - n < width) :
    Calls Tryz.prog 77 #[.pointer (some ⟨R, 0, none⟩), .int .i64 x, .int .i64 width] w fun e w' => e = .returned X ∧ ∃ m, w' = w.drewN m := by
  have k4 : x < wrap64 (2 ^ width.toNat) := by rw [wrap_pow _ (by omega)]; exact k4'
  have c1 : w.cell? ⟨R, 1, none⟩ = some (.int .i64 n) := cellR (j := 1) hR rfl
  have c2 : w.cell? ⟨R, 2, none⟩ = some (.int .i64 room) := cellR (j := 2) hR rfl
  clear hR k4'
  have hd : Hid (decide (0 ≤ width ∧ width ≤ 30) = true) := by simp [Hid]; omega
  go_enter Tryz.func77, Tryz.ntmps77
  go_wp2_with fail
  refine (widthOk_any width _).mono ?_
  rintro e w1 ⟨rfl, rfl⟩
  rw [hd.out]
  go_wp2
  go_quiet (fail)
  go_wp2
  go_ret
  exact ⟨rfl, _, rfl⟩

theorem OwnV.only {S : Nat → Prop} {w w' : World} {B : Nat} {v : Value} {zs : List Int} (h : OwnV w B v zs) (ho : Only S w w') (hs : ∀ k, v.ownBlock = some k → ¬ S k) : OwnV w' B v zs := by
  rcases h.1.2 with ⟨h1, h2⟩ | ⟨g, cap, cur, rfl, r⟩
  · exact ⟨⟨h.1.1, .inl ⟨h1, h2⟩⟩, h.2⟩
  · exact Own.only (g := g) (cap := cap) h ho (hs g rfl)

theorem OwnV.ne {w : World} {B k R : Nat} {v : Value} {zs : List Int} {cur : Array Value} {T : TypeId} (h : OwnV w B v zs) (hk : v.ownBlock = some k) (hR : w.heap[R]? = some (.cells cur T (0, 0))) (hT : T ≠ 5) : k ≠ R := by
  rcases h.1.2 with ⟨rfl, h2⟩ | ⟨g, cap, cur', rfl, hg, hh, r⟩
  · simp [Value.ownBlock] at hk
  · simp [Value.ownBlock] at hk
    subst hk
    exact Own.ne (g := g) (cap := cap) h hR hT

/-- Bytes that lie ahead of B stay where nothing ahead of B is written. -/
theorem Byt.belowB {w w' : World} {a : Option Addr} {zs : List Int} {B : Nat} (h : Byt w a zs) (hb : Below B w w') (hB : 0 < zs.length → ∀ x, a = some x → x.block < B) : Byt w' a zs := by
  refine ⟨h.1, fun hp => ?_⟩
  obtain ⟨g, off, rfl, hl, hc⟩ := h.2 hp
  have hg := hB hp _ rfl
  exact ⟨g, off, rfl, Nat.lt_of_lt_of_le hl hb.size, fun i hi => (hb.cell (p := ⟨g, off + i, none⟩) hg).trans (hc i hi)⟩

/-- How far the reader at Q is. -/
def atOf (w : World) (Q : Nat) : Nat := match w.cell? ⟨Q, 2, none⟩ with | some (.int _ p) => p.toNat | _ => 0

/-- What pour keeps: j bits have gone over. -/
structure Poured (w wr : World) (R B Q : Nat) (b : Option Addr) (L cb n V m U p0 j : Nat) (u : Value) : Prop where
  hR : wr.heap[R]? = some (.cells #[u, .int .i64 ((n + j : Nat) : Int), .int .i64 4096] 126 (0, 0))
  hv : OwnV wr B u (enc (n + j) (V + (U % 2 ^ j) * 2 ^ n))
  hQ : wr.heap[Q]? = some (.cells #[.slice b L cb, .int .i64 m, .int .i64 ((p0 + j : Nat) : Int)] 78 (0, 0))
  bel : Below B w wr

theorem Poured.drewN {w wr : World} {R B Q : Nat} {b : Option Addr} {L cb n V m U p0 j : Nat} {u : Value} (h : Poured w wr R B Q b L cb n V m U p0 j u) (k : Nat) : Poured w (wr.drewN k) R B Q b L cb n V m U p0 j u :=
  ⟨h.hR, h.hv, h.hQ, below_drewN h.bel k⟩

theorem Poured.ne {w wr : World} {R B Q : Nat} {b : Option Addr} {L cb n V m U p0 j : Nat} {u : Value} (h : Poured w wr R B Q b L cb n V m U p0 j u) : Q ≠ R := by
  rintro rfl
  have := h.hR.symm.trans h.hQ
  simp at this

set_option maxRecDepth 100000 in
set_option maxHeartbeats 800000 in
/-- errors.Is(nil, x). -/
theorem is_nil (T : TypeId) (x : Value) (w : World) :
    Calls Tryz.prog 76 #[.nilIface, .iface T x] w fun e w' => e = .returned (.bool false) ∧ w' = w := by
  have hl := run_eql_iface_nil_left (P := Tryz.prog) (w := w) T x Tryz.underlying42
  go_enter Tryz.func76, Tryz.ntmps76
  go_wp2
  go_ret
  exact ⟨rfl, rfl⟩

theorem shift_part (U p0 j s : Nat) : U / 2 ^ (p0 + j) % 2 ^ s = U / 2 ^ p0 / 2 ^ j % 2 ^ s := by
  rw [Nat.pow_add, Nat.div_div_eq_div_mul]

set_option maxRecDepth 100000 in
set_option maxHeartbeats 2000000 in
/-- The reader is at p0, its last bit ahead of m; its bytes may hold more. -/
theorem pour_any (R B Q : Nat) (v : Value) (b : Option Addr) (cb : Nat) (ys : List Int) (n V m M U0 p0 : Nat) (T1 : TypeId) (pe : Addr) (x1 : Value) (w : World)
    (hR : w.heap[R]? = some (.cells #[v, .int .i64 n, .int .i64 4096] 126 (0, 0))) (hv : OwnV w B v (enc n V)) (hV : V < 2 ^ n) (hB : B ≤ w.heap.size)
    (hQ : w.heap[Q]? = some (.cells #[.slice b ys.length cb, .int .i64 m, .int .i64 p0] 78 (0, 0))) (hb : Byt w b ys) (hy : ys = enc M U0) (hn : n ≤ 4096) (hm : m ≤ M) (hM : M ≤ 4096) (hpm0 : p0 ≤ m)
    (hBR : B ≤ R) (hBQ : B ≤ Q) (hG : 8 < B ∧ 18 < B) (hbB : 0 < ys.length → ∀ x, b = some x → x.block < B)
    (g0 : w.cell? ⟨8, 0, none⟩ = some (.iface 159 (.pointer (some pe)))) (g1 : w.cell? ⟨18, 0, none⟩ = some (.iface T1 x1)) :
    Calls Tryz.prog 71 #[.pointer (some ⟨R, 0, none⟩), .pointer (some ⟨Q, 0, none⟩)] w fun e w' =>
      Below B w w' ∧ (n + (m - p0) ≤ 4096 → e = .returned .nilIface ∧ ∃ v', w'.heap[R]? = some (.cells #[v', .int .i64 ((n + (m - p0) : Nat) : Int), .int .i64 4096] 126 (0, 0)) ∧ OwnV w' B v' (enc (n + (m - p0)) (V + (U0 / 2 ^ p0 % 2 ^ (m - p0)) * 2 ^ n))) ∧
        (4096 < n + (m - p0) → e = .returned (.iface T1 x1)) := by
  obtain ⟨U, hUe⟩ : ∃ U, U = U0 / 2 ^ p0 := ⟨_, rfl⟩
  have HU : Hid (U = U0 / 2 ^ p0) := hUe
  obtain ⟨d, rfl⟩ : ∃ d, m = p0 + d := ⟨m - p0, by omega⟩
  rw [Nat.add_sub_cancel_left, ← hUe]
  clear hUe
  have HR : Hid (Poured w w R B Q b ys.length cb n V (p0 + d) U p0 0 v) := ⟨hR, by simpa [Nat.mod_one] using hv, hQ, Below.refl _ _⟩
  have HY : Hid (ys = enc M U0) := hy
  have HVV : Hid (V < 2 ^ n) := hV
  clear hR hv hQ hy hV
  go_enter Tryz.func71, Tryz.ntmps71
  go_wp2
  go_loopw [] (fun wr => ∃ (j : Nat) (u : Value), j ≤ d ∧ n + j ≤ 4096 ∧ Poured w wr R B Q b ys.length cb n V (p0 + d) U p0 j u) (fun wr => p0 + d - atOf wr Q)
  case atStart => exact ⟨0, v, Nat.zero_le _, by omega, HR.out⟩
  case round =>
    obtain ⟨j, u, hpm, hnp, hP⟩ := hrel
    have e0 := keep hP.bel hG.1 g0
    have c1 : wr.cell? ⟨Q, 1, none⟩ = some (.int .i64 ((p0 + d : Nat) : Int)) := cellR (j := 1) hP.hQ rfl
    have c2 : wr.cell? ⟨Q, 2, none⟩ = some (.int .i64 ((p0 + j : Nat) : Int)) := cellR (j := 2) hP.hQ rfl
    have c0 : wr.cell? ⟨Q, 0, none⟩ = some (.slice b ys.length cb) := cellR (j := 0) hP.hQ rfl
    have hat : atOf wr Q = p0 + j := by simp [atOf, c2]; omega
    have HE0 : Hid (wr.cell? ⟨8, 0, none⟩ = some (.iface 159 (.pointer (some pe)))) := e0
    have HC : Hid _ := (⟨c0, c1, c2⟩ : _ ∧ _ ∧ _)
    have HAT : Hid (atOf wr Q = p0 + j) := hat
    clear e0 c0 c1 c2 hat
    by_cases hlt : j < d
    · have HP : Hid (Poured w wr R B Q b ys.length cb n V (p0 + d) U p0 j u) := hP
      have HF : Hid (wr.frozen? ⟨Q, 2, none⟩ = false) := frozenR hP.hQ
      clear hP
      go_wp2_with fail
      refine (some_yes Q b cb ys (p0 + d) M U0 (p0 + j) wr (by omega) (by omega) hm (hb.belowB HP.out.bel hbB) HY.out (by omega) HC.out.1 HC.out.2.1 HC.out.2.2 HF.out).mono ?_
      rintro e w1 ⟨rfl, k1, rfl⟩
      obtain ⟨s, hs⟩ : ∃ s, s = min (d - j) 30 := ⟨_, rfl⟩
      rw [show min (p0 + d - (p0 + j)) 30 = s from by omega, shift_part, ← HU.out]
      have hX : U / 2 ^ j % 2 ^ s < 2 ^ s := Nat.mod_lt _ (Nat.pow_pos (by omega))
      have HPP : Hid (V + (U % 2 ^ j) * 2 ^ n + (U / 2 ^ j % 2 ^ s) * 2 ^ (n + j) = V + (U % 2 ^ (j + s)) * 2 ^ n) := put_part n V U j s
      have HVP : Hid (V + (U % 2 ^ j) * 2 ^ n < 2 ^ (n + j)) := put_lt n V j (U % 2 ^ j) HVV.out (Nat.mod_lt _ (Nat.pow_pos (by omega)))
      generalize U / 2 ^ j % 2 ^ s = X at *
      have HXI : Hid ((X : Int) < 2 ^ ((s : Int)).toNat) := by
        have e : ((2 : Int) ^ s) = ((2 ^ s : Nat) : Int) := by simp
        rw [Int.toNat_natCast, e]
        show (X : Int) < _
        exact Int.ofNat_lt.2 hX
      have hP1 := HP.out.drewN k1
      have hne := hP1.ne
      have hszw := hP1.bel.size
      have hs1 : s ≤ 30 := by omega
      have hs2 : j + s ≤ d := by omega
      have hs3 : 0 < s := by omega
      clear hs hX
      rw [show p0 + j + s = p0 + (j + s) from by omega]
      have hO1 : Only (fun k => k = Q) (wr.drewN k1) ((wr.drewN k1).setCell ⟨Q, 2, none⟩ (.int .i64 ((p0 + (j + s) : Nat) : Int))) := Only.setCell (Only.refl (fun k => k = Q) (wr.drewN k1)) (p := ⟨Q, 2, none⟩) (.inl rfl) _
      have hR1 : ((wr.drewN k1).setCell ⟨Q, 2, none⟩ (.int .i64 ((p0 + (j + s) : Nat) : Int))).heap[R]? = some (.cells #[u, .int .i64 ((n + j : Nat) : Int), .int .i64 4096] 126 (0, 0)) := by
        rw [Below.heap_setCell _ _ _ _ (by simpa using hne.symm)]; exact hP1.hR
      have hQ1 : ((wr.drewN k1).setCell ⟨Q, 2, none⟩ (.int .i64 ((p0 + (j + s) : Nat) : Int))).heap[Q]? = some (.cells #[.slice b ys.length cb, .int .i64 ((p0 + d : Nat) : Int), .int .i64 ((p0 + (j + s) : Nat) : Int)] 78 (0, 0)) := by
        rw [heap_setCell_same _ Q 2 _ _ _ hP1.hQ]; simp
      have hv1 : OwnV ((wr.drewN k1).setCell ⟨Q, 2, none⟩ (.int .i64 ((p0 + (j + s) : Nat) : Int))) B u (enc (n + j) (V + (U % 2 ^ j) * 2 ^ n)) := OwnV.only hP1.hv hO1 (fun k hk => OwnV.ne hP1.hv hk hP1.hQ (by decide))
      have hb1 : Below B w ((wr.drewN k1).setCell ⟨Q, 2, none⟩ (.int .i64 ((p0 + (j + s) : Nat) : Int))) := hP1.bel.setCell (by simpa using hBQ) _
      have hz1 : B ≤ ((wr.drewN k1).setCell ⟨Q, 2, none⟩ (.int .i64 ((p0 + (j + s) : Nat) : Int))).heap.size := Nat.le_trans hB hb1.size
      clear hP1 hO1 HP HF HC HE0
      generalize (wr.drewN k1).setCell ⟨Q, 2, none⟩ (.int .i64 ((p0 + (j + s) : Nat) : Int)) = w1 at *
      have H1 : Hid _ := (⟨hR1, hQ1, hv1, hb1⟩ : _ ∧ _ ∧ _ ∧ _)
      have e0 := keep H1.out.2.2.2 hG.1 g0
      clear hR1 hQ1 hv1 hb1
      go_wp2_with fail
      refine (is_nil _ _ _).mono ?_
      rintro e w1' ⟨rfl, rfl⟩
      clear e0
      by_cases hfit : n + j + s ≤ 4096
      · go_wp2_with fail
        refine (wput_yes R B u (n + j) (V + (U % 2 ^ j) * 2 ^ n) (X : Int) (s : Int) 4096 _ H1.out.1 H1.out.2.2.1 HVP.out hz1 (by omega) (by omega) (by omega) HXI.out (by omega) (by omega) (by omega)).mono ?_
        rintro e w2 ⟨rfl, v', hR2, hv2, ho2, hrow2⟩
        simp only [Int.toNat_natCast] at hR2 hv2
        rw [HPP.out] at hv2
        have hQl : Q < w1'.heap.size := (Array.getElem?_eq_some_iff.1 H1.out.2.1).1
        have hQ2 := (ho2.block Q hQl (by
          rintro (h | h)
          · exact hne h
          · exact OwnV.ne H1.out.2.2.1 h H1.out.2.1 (by decide) rfl)).trans H1.out.2.1
        have hb2 : Below B w w2 := H1.out.2.2.2.trans (ho2.below hz1 (by
          rintro k (h | h)
          · omega
          · exact (H1.out.2.2.1.1.lt _ h).1))
        have HF : Hid (Poured w w2 R B Q b ys.length cb n V (p0 + d) U p0 (j + s) v') := ⟨by rw [hR2, Nat.add_assoc], by rw [← Nat.add_assoc]; exact hv2, hQ2, hb2⟩
        have hat2 : Hid (atOf w2 Q = p0 + (j + s)) := by unfold Hid; simp [atOf, cellR (j := 2) hQ2 rfl]; omega
        clear hR2 hv2 hQ2 hb2 ho2 hrow2 H1
        go_wp2
        go_roundw
        case rel => exact ⟨j + s, v', by omega, by omega, HF.out⟩
        case measure => rw [HAT.out, hat2.out]; omega
      · have e1 := keep H1.out.2.2.2 hG.2 g1
        go_wp2_with fail
        refine (wput_full R u (n + j) (X : Int) (s : Int) 4096 (.iface T1 x1) _ H1.out.1 (by omega) (by omega) (by omega) e1 (by omega) (by omega) (by omega) HXI.out (by omega)).mono ?_
        rintro e w2 ⟨rfl, k2, rfl⟩
        have HB2 : Hid (Below B w (w1'.drewN k2)) := below_drewN H1.out.2.2.2 k2
        clear H1 e1
        generalize w1'.drewN k2 = w2 at *
        go_wp2
        go_ret
        exact ⟨HB2.out, fun h => by omega, fun _ => rfl⟩
    · have hpe : j = d := by omega
      subst hpe
      have HP : Hid (Poured w wr R B Q b ys.length cb n V (p0 + j) U p0 j u) := hP
      clear hP
      go_wp2_with fail
      refine (some_no Q (p0 + j) (p0 + j) (.iface 159 (.pointer (some pe))) wr (by omega) rfl HC.out.2.1 HC.out.2.2 HE0.out).mono ?_
      rintro e w1 ⟨rfl, k1, rfl⟩
      have HP1 : Hid (Poured w (wr.drewN k1) R B Q b ys.length cb n V (p0 + j) U p0 j u) := HP.out.drewN k1
      clear HP HC HE0
      generalize wr.drewN k1 = wf at *
      have e0 := keep HP1.out.bel hG.1 g0
      go_wp2_with fail
      refine (is_same pe _).mono ?_
      rintro e wf' ⟨rfl, rfl⟩
      go_wp2
      go_ret
      exact ⟨HP1.out.bel, fun _ => ⟨rfl, u, HP1.out.hR, HP1.out.hv⟩, fun h => by omega⟩
end Go.Proofs.YtpbembeefcajjaaGreatDoor
