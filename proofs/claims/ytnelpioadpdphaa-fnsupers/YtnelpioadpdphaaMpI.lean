/-
  slices.IndexFunc and slices.ContainsFunc with isTaken's own function; isTaken.
-/
import Derived.Test.YtnelpioadpdphaaMpT
namespace Go.Proofs.Ytnelpioadpdphaa
open Go.RowKit
set_option linter.unusedVariables false
set_option linter.unusedSimpArgs false

/-- What the function that isTaken hands on looks at. -/
structure TkW (w : World) (R M P Q : Nat) (a : Option Addr) (c : Nat) (ps : List (Int × Int)) (x y : Int) : Prop where
  atl : Atl w R M a ps.length c
  pls : Pls w a ps
  hP : w.cell? ⟨P, 0, none⟩ = some (.pointer (some ⟨R, 0, none⟩))
  hQ0 : w.cell? ⟨Q, 0, none⟩ = some (.int .i64 x)
  hQ1 : w.cell? ⟨Q, 1, none⟩ = some (.int .i64 y)
  hPl : P < w.heap.size
  hQl : Q < w.heap.size
theorem TkW.below {w w' : World} {R M P Q : Nat} {a : Option Addr} {c : Nat} {ps : List (Int × Int)} {x y : Int} (h : TkW w R M P Q a c ps x y) (hb : Below w.heap.size w w') : TkW w' R M P Q a c ps x y :=
  ⟨h.atl.below hb, h.pls.below hb (Nat.le_refl _), keep hb h.hPl h.hP, keep hb h.hQl h.hQ0, keep hb h.hQl h.hQ1, Nat.lt_of_lt_of_le h.hPl hb.size, Nat.lt_of_lt_of_le h.hQl hb.size⟩
def anyT (ps : List (Int × Int)) (p : Int × Int) (zs : List Int) : Bool := zs.any (fun z => plcO ps z == p)
theorem anyT_succ (ps : List (Int × Int)) (p : Int × Int) (zs : List Int) (k : Nat) (h : k < zs.length) : anyT ps p (zs.take (k + 1)) = (anyT ps p (zs.take k) || (plcO ps (zs.getD k 0) == p)) := by
  unfold anyT
  rw [List.take_succ_eq_append_getElem h, List.any_append]
  simp [List.getD_eq_getElem?_getD, List.getElem?_eq_getElem h]
theorem anyT_hit (ps : List (Int × Int)) (p : Int × Int) (zs : List Int) (k : Nat) (h : k < zs.length) (h2 : (plcO ps (zs.getD k 0) == p) = true) : anyT ps p zs = true := by
  unfold anyT
  rw [List.any_eq_true]
  refine ⟨zs.getD k 0, ?_, h2⟩
  rw [List.getD_eq_getElem?_getD, List.getElem?_eq_getElem h]; exact List.getElem_mem h

set_option maxRecDepth 20000 in
set_option maxHeartbeats 2000000 in
theorem indexFunc_any (R M P Q : Nat) (a : Option Addr) (c : Nat) (ps : List (Int × Int)) (x y : Int) (za : Option Addr) (zc : Nat) (zs : List Int) (w : World) (hT : TkW w R M P Q a c ps x y) (hz : Ins w za zs) (hn : ps.length ≤ 1048576) (hzn : zs.length ≤ 1048576) :
    Calls Try.prog 36 #[.slice za zs.length zc, .func (.func 35) #[] #[.pointer (some ⟨P, 0, none⟩), .pointer (some ⟨Q, 0, none⟩)]] w fun e w' =>
      (∃ r : Int, e = .returned (.int .i64 r) ∧ ((anyT ps (x, y) zs = true ∧ 0 ≤ r) ∨ (anyT ps (x, y) zs = false ∧ r = -1))) ∧ Below w.heap.size w w' := by
  have HT : Hid (TkW w R M P Q a c ps x y) := hT
  have HZ : Hid (Ins w za zs) := hz
  have HH : Hid (∀ k, k < zs.length → (plcO ps (zs.getD k 0) == (x, y)) = true → anyT ps (x, y) zs = true) := fun k h h2 => anyT_hit ps (x, y) zs k h h2
  have HU : Hid (∀ k, k < zs.length → anyT ps (x, y) (zs.take (k + 1)) = (anyT ps (x, y) (zs.take k) || (plcO ps (zs.getD k 0) == (x, y)))) := fun k h => anyT_succ ps (x, y) zs k h
  have HE : Hid (anyT ps (x, y) (zs.take zs.length) = anyT ps (x, y) zs ∧ anyT ps (x, y) (zs.take 0) = false) := ⟨by rw [List.take_length], rfl⟩
  clear hT hz
  generalize hlen : zs.length = n at *
  have HL : Hid (zs.length = n ∧ True) := ⟨hlen, trivial⟩
  clear hlen
  generalize anyT ps (x, y) zs = r0 at *
  go_enter Try.func36, Try.ntmps36
  go_wp2
  go_loopw [8] (fun i wr => ∃ k : Nat, k ≤ n ∧ i = .int .i64 k ∧ anyT ps (x, y) (zs.take k) = false ∧ Below w.heap.size w wr) (fun i _ => n - (intOf i).toNat)
  case atStart => exact ⟨0, Nat.zero_le _, rfl, HE.out.2, Below.refl _ _⟩
  case round =>
    obtain ⟨k, hk, rfl, han, hbel⟩ := hrel
    have HAN : Hid (anyT ps (x, y) (zs.take k) = false ∧ True) := ⟨han, trivial⟩
    clear han
    by_cases hlt : k < n
    · obtain ⟨b, off, rfl, hb1, hc1⟩ := (HZ.out.below hbel (Nat.le_refl _)).len_pos k (by rw [HL.out.1]; exact hlt)
      have c0 := hc1 k (by rw [HL.out.1]; exact hlt)
      have hu := HU.out k hlt
      have hh := HH.out k hlt
      rw [HAN.out.1, Bool.false_or] at hu
      clear hc1
      generalize zs.getD k 0 = z at *
      have t := HT.out.below (hbel.mono (by omega) : Below w.heap.size w wr)
      have HCL := isTaken1_any R M P Q a c ps z x y wr t.atl t.pls hn t.hP t.hQ0 t.hQ1 t.hPl t.hQl
      clear t
      have HU2 : Hid (anyT ps (x, y) (zs.take (k + 1)) = (plcO ps z == (x, y)) ∧ ((plcO ps z == (x, y)) = true → r0 = true)) := ⟨hu, hh⟩
      clear hu hh
      generalize (plcO ps z == (x, y)) = bb at *
      go_wp2_with fail
      refine HCL.mono ?_
      clear HCL
      rintro e w1 ⟨rfl, hb1'⟩
      have HB1 : Hid (Below w.heap.size w w1) := hbel.trans (hb1'.mono hbel.size)
      clear hb1' hbel c0 hb1
      cases bb with
      | true =>
        go_wp2
        go_ret
        exact ⟨⟨_, rfl, .inl ⟨HU2.out.2 (by trivial), by omega⟩⟩, HB1.out⟩
      | false =>
        go_wp2
        go_roundw
        case rel => exact ⟨k + 1, by omega, by go_num, HU2.out.1, HB1.out⟩
        case measure => simp [intOf]; omega
    · have hkn : k = n := by omega
      subst hkn
      have HF : Hid (r0 = false ∧ True) := ⟨by rw [← HE.out.1]; exact HAN.out.1, trivial⟩
      go_wp2
      go_ret
      exact ⟨⟨_, rfl, .inr ⟨HF.out.1, rfl⟩⟩, hbel⟩

set_option maxHeartbeats 800000 in
theorem containsFunc_any (R M P Q : Nat) (a : Option Addr) (c : Nat) (ps : List (Int × Int)) (x y : Int) (za : Option Addr) (zc : Nat) (zs : List Int) (w : World) (hT : TkW w R M P Q a c ps x y) (hz : Ins w za zs) (hn : ps.length ≤ 1048576) (hzn : zs.length ≤ 1048576) :
    Calls Try.prog 34 #[.slice za zs.length zc, .func (.func 35) #[] #[.pointer (some ⟨P, 0, none⟩), .pointer (some ⟨Q, 0, none⟩)]] w fun e w' =>
      e = .returned (.bool (anyT ps (x, y) zs)) ∧ Below w.heap.size w w' := by
  have HI := indexFunc_any R M P Q a c ps x y za zc zs w hT hz hn hzn
  clear hT hz
  go_enter Try.func34, Try.ntmps34
  go_wp2_with fail
  refine HI.mono ?_
  clear HI
  rintro e w1 ⟨⟨r, rfl, hr⟩, hb1⟩
  have HB : Hid (Below w.heap.size w w1) := hb1
  clear hb1
  rcases hr with ⟨h1, h2⟩ | ⟨h1, rfl⟩
  · have H1 : Hid (anyT ps (x, y) zs = true ∧ True) := ⟨h1, trivial⟩
    clear h1
    go_wp2
    go_ret
    exact ⟨by rw [H1.out.1]; simp [h2], HB.out⟩
  · have H1 : Hid (anyT ps (x, y) zs = false ∧ True) := ⟨h1, trivial⟩
    clear h1
    go_wp2
    go_ret
    exact ⟨by rw [H1.out.1]; rfl, HB.out⟩

set_option maxRecDepth 20000 in
set_option maxHeartbeats 4000000 in
theorem isTaken_any (R M : Nat) (a : Option Addr) (c : Nat) (ps : List (Int × Int)) (x y : Int) (n k : Nat) (w : World) (hA : Atl w R M a ps.length c) (hb : Pls w a ps) (hL : Liv w M n (liv ps k)) (hx : -9223372036854775808 ≤ x ∧ x ≤ 9223372036854775807) (hn : ps.length ≤ 1048576) (hn2 : n ≤ 1000) :
    Calls Try.prog 31 #[.pointer (some ⟨R, 0, none⟩), .agg #[.int .i64 x, .int .i64 y]] w fun e w' =>
      e = .returned (.bool (anyT ps (x, y) (liv ps k x))) ∧ Below w.heap.size w w' := by
  have hw : Below w.heap.size w ((w.alloc (Obj.cells #[Value.pointer (some ⟨R, 0, none⟩)] 56)).alloc (Obj.cells #[Value.int IntKind.i64 x, Value.int IntKind.i64 y] 49)) :=
    ((Below.refl _ _).alloc (Nat.le_refl _) _).alloc (by simp) _
  have HT : Hid (TkW ((w.alloc (Obj.cells #[Value.pointer (some ⟨R, 0, none⟩)] 56)).alloc (Obj.cells #[Value.int IntKind.i64 x, Value.int IntKind.i64 y] 49)) R M w.heap.size (w.heap.size + 1) a c ps x y) := by
    have h1 : (w.alloc (Obj.cells #[Value.pointer (some ⟨R, 0, none⟩)] 56)).heap.size = w.heap.size + 1 := by simp
    refine ⟨hA.below hw, hb.below hw (Nat.le_refl _), keepA _ (by simp) (by simp), ?_, ?_, by simp; omega, by simp⟩
    · rw [← h1]; simp
    · rw [← h1]; simp
  have HLV : Hid (Liv ((w.alloc (Obj.cells #[Value.pointer (some ⟨R, 0, none⟩)] 56)).alloc (Obj.cells #[Value.int IntKind.i64 x, Value.int IntKind.i64 y] 49)) M n (liv ps k)) := hL.below hw
  clear hA hb hL
  go_enter Try.func31, Try.ntmps31
  go_wp2_with fail
  generalize (w.alloc (Obj.cells #[Value.pointer (some ⟨R, 0, none⟩)] 56)).alloc (Obj.cells #[Value.int IntKind.i64 x, Value.int IntKind.i64 y] 49) = W at *
  have hbd : Below W.heap.size W W.drew := ⟨rfl, rfl, rfl, Nat.le_refl _, fun _ _ => rfl⟩
  obtain ⟨v, hlk, hov, hlen⟩ := (HLV.out.below hbd).look hn2 x (WalkArith.wf_i64 hx)
  obtain ⟨za, zc, rfl⟩ := hov.form
  have HCF := containsFunc_any R M w.heap.size (w.heap.size + 1) a c ps x y za zc (liv ps k x) W.drew (HT.out.below hbd) hov.ins hn (by omega)
  have hlk2 : Sem.run Try.prog (Instr.lookup 61 (.map (some M)) (.int .i64 x) false) W.drew = .ok (.slice za (liv ps k x).length zc) W.drew := hlk
  have HC : Hid (W.cell? ⟨w.heap.size, 0, none⟩ = some (.pointer (some ⟨R, 0, none⟩)) ∧ W.cell? ⟨R, 1, none⟩ = some (.map (some M)) ∧ W.cell? ⟨w.heap.size + 1, 0, none⟩ = some (.int .i64 x)) := ⟨HT.out.hP, HT.out.atl.c1, HT.out.hQ0⟩
  have p0 := HC.out.1
  have p1 := HC.out.2.1
  have p2 := HC.out.2.2
  clear hlk hov
  generalize hrr : anyT ps (x, y) (liv ps k x) = rr at *
  have HRR : Hid (anyT ps (x, y) (liv ps k x) = rr ∧ True) := ⟨hrr, trivial⟩
  clear hrr
  generalize (liv ps k x).length = zn at *
  go_region_with (go_at_call 34; refine HCF.mono ?_; rintro e w8 ⟨rfl, hb8⟩)
  all_goals
    have HB8 : Hid (Below w.heap.size w w8) := hw.trans ((Below.drewS hb8).mono hw.size)
    clear hb8
    go_wp2
    go_ret
    exact ⟨by rw [HRR.out.1]; rfl, HB8.out⟩
end Go.Proofs.Ytnelpioadpdphaa
