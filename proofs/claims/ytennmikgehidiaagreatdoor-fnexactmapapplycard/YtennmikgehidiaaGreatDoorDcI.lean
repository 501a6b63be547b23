/-
  The program's readBlob and Decode. (Typed by wip/mkrb.py.)
-/
import Derived.Test.YtennmikgehidiaaGreatDoorMpA
import Derived.Lib.SliceRun
import Derived.Test.YtennmikgehidiaaGreatDoorBRep
import Derived.Test.YtennmikgehidiaaGreatDoorMpSt2
namespace Go.Proofs.YtennmikgehidiaaGreatDoor
open Go.RowKit
set_option linter.unusedVariables false

set_option maxHeartbeats 800000 in
theorem bytesClone_any (a : Option Addr) (cap : Nat) (zs : List Int) (w : World) (hb : Byt w a zs) (hn : zs.length ≤ 1000000) :
    Calls Tryz.prog 85 #[.slice a zs.length cap] w fun e w' => (∃ v, e = .returned v ∧ OVB w' w.heap.size v zs) ∧ Below w.heap.size w w' := by
  cases a with
  | none =>
    have hz : zs = [] := by
      rcases Nat.eq_zero_or_pos zs.length with h0 | h0
      · exact List.eq_nil_of_length_eq_zero h0
      · obtain ⟨b, off, e, _⟩ := hb.2 h0
        cases e
    subst hz
    have heq : (binOp .eql 68 (.slice none 0 cap) (.slice none 0 0)).run Tryz.prog w = .ok (.bool true) w := Lib.run_eql_slice_nil w _ _ none 0 cap 0 0 Tryz.underlying68
    go_enter Tryz.func85, Tryz.ntmps85
    go_wp2
    go_ret
    exact ⟨⟨_, rfl, OVB.nil _ _⟩, Below.refl _ _⟩
  | some ad =>
    have HO : Hid (OVB (w.alloc (Obj.cells #[] 5)) w.heap.size (.slice (some ⟨w.heap.size, 0, none⟩) 0 0) []) := OVB.empty w _ (Nat.le_refl _)
    have HY : Hid (Byt (w.alloc (Obj.cells #[] 5)) (some ad) zs) := hb.alloc _
    have HB : Hid (Below w.heap.size w (w.alloc (Obj.cells #[] 5))) := (Below.refl _ _).alloc (Nat.le_refl _) _
    clear hb
    have heq : (binOp .eql 68 (.slice (some ad) zs.length cap) (.slice none 0 0)).run Tryz.prog w = .ok (.bool false) w := Lib.run_eql_slice_nil w _ _ (some ad) zs.length cap 0 0 Tryz.underlying68
    go_enter Tryz.func85, Tryz.ntmps85
    go_wp2_with (at_builtin; (refine wpList_append_byt rfl (.tmp 5) (.tmp 6) rfl w.heap.size (.slice (some ⟨w.heap.size, 0, none⟩) 0 0) [] rfl HO.out (some ad) cap zs rfl HY.out (by simp; omega) (by simp) ?_; intro v1 w1 hov1 hgr1; have HB1 : Hid (Below w.heap.size w w1) := appB_below HB.out (by simp) HO.out hgr1; have HV1 : Hid (OVB w1 w.heap.size v1 zs) := (by simpa [Hid] using hov1); clear hov1 hgr1))
    go_ret
    exact ⟨⟨_, rfl, HV1.out⟩, HB1.out⟩

end Go.Proofs.YtennmikgehidiaaGreatDoor
namespace Go.Proofs.YtennmikgehidiaaGreatDoor
open Go.RowKit
set_option linter.unusedVariables false
set_option linter.unusedSimpArgs false

/-- What the model and the program open: n bits of the number V, or nothing. -/
def OpnW (zs : List Int) : Option (Nat × Nat) → Prop
  | some q => q.1 ≤ 4096 ∧ q.2 < 2 ^ q.1 ∧
      (∀ (a : Option Addr) (cap : Nat) (w : World), zs.length ≤ cap → Byt w a zs → Calls Tryz.prog 57 #[.slice a zs.length cap] w fun e w' =>
        ∃ a' cp, e = .returned (.tuple #[.agg #[.slice a' (enc q.1 q.2).length cp, .int .i64 (q.1 : Nat)], .bool true]) ∧ Mine w' w.heap.size w'.heap.size a' cp (enc q.1 q.2) ∧ Below w.heap.size w w') ∧
      (∀ (a : Option Addr) (cap : Nat) (w : World), Byt w a zs → Calls Tryz.prog 90 #[.slice a zs.length cap] w fun e w' =>
        ∃ a' cp, e = .returned (.tuple #[.agg #[.slice a' (enc q.1 q.2).length cp, .int .i64 (q.1 : Nat)], .bool true]) ∧ Mine w' w.heap.size w'.heap.size a' cp (enc q.1 q.2) ∧ Below w.heap.size w w')
  | none =>
      (∀ (a : Option Addr) (cap : Nat) (w : World), zs.length ≤ cap → Byt w a zs → Calls Tryz.prog 57 #[.slice a zs.length cap] w fun e w' =>
        ∃ a' l cp M, e = .returned (.tuple #[.agg #[.slice a' l cp, .int .i64 M], .bool false]) ∧ Below w.heap.size w w') ∧
      (∀ (a : Option Addr) (cap : Nat) (w : World), Byt w a zs → Calls Tryz.prog 90 #[.slice a zs.length cap] w fun e w' =>
        e = .returned (.tuple #[.agg #[.slice none 0 0, .int .i64 0], .bool false]) ∧ Below w.heap.size w w')

theorem opnW (zs : List Int) (hl : zs.length ≤ 1048576) (hr : ∀ z ∈ zs, 0 ≤ z ∧ z ≤ 255) : ∃ o, OpnW zs o := by
  rcases opened zs hl hr with ⟨n, V, h⟩ | h
  · exact ⟨some (n, V), h⟩
  · exact ⟨none, h⟩

/-- The bytes bs come of the mode m and the bytes zs. -/
def RbY (o : Option (Nat × Nat)) (m : Nat) (zs bs : List Int) : Prop :=
  bs.length = 64 ∧ ((m = 0 ∧ bs = zs) ∨ (m = 1 ∧ zs.length = 1 ∧ bs = dbl zs 6) ∨ ((m = 2 ∨ m = 3) ∧ ∃ q, o = some q ∧ OsY q.1 q.2 m bs))

structure SentB (w : World) : Prop where
  d : SentD w
  b0 : Sent w 3
  b1 : Sent w 1
  b2 : Sent w 2
  b3 : Sent w 0
  hB : 3 < w.heap.size ∧ 1 < w.heap.size ∧ 2 < w.heap.size ∧ 0 < w.heap.size
theorem SentB.below {w w' : World} (h : SentB w) (hb : Below w.heap.size w w') : SentB w' :=
  ⟨h.d.below hb, h.b0.below hb h.hB.1, h.b1.below hb h.hB.2.1, h.b2.below hb h.hB.2.2.1, h.b3.below hb h.hB.2.2.2, by have := hb.size; have := h.hB; omega⟩

/-- openedSymbols, whatever is opened. -/
theorem openedSymbols_any (m : Nat) (a : Option Addr) (cap : Nat) (zs : List Int) (o : Option (Nat × Nat)) (w : World) (hm : m ≤ 255) (hb : Byt w a zs) (hO : OpnW zs o) (hS : SentB w) :
    Calls Tryz.prog 86 #[.int .i64 m, .slice a zs.length cap] w fun e w' => Below w.heap.size w w' ∧
      ((∃ bs v, (∃ q, o = some q ∧ OsY q.1 q.2 m bs) ∧ OVB w' w.heap.size v bs ∧ e = .returned (.tuple #[v, .nilIface])) ∨ ((¬ ∃ bs q, o = some q ∧ OsY q.1 q.2 m bs) ∧ ∃ T x v, e = .returned (.tuple #[v, .iface T x]))) := by
  cases o with
  | none =>
    refine (openedSymbols_no m a cap zs w hS.b0 hS.hB.1 (hO.2 a cap w hb)).mono ?_
    rintro e w' ⟨h1, h2⟩
    exact ⟨h1, .inr ⟨by simp, h2⟩⟩
  | some q =>
    refine (openedSymbols_ok m a cap zs q.1 q.2 w hm hO.1 hS.d (hO.2.2.2 a cap w hb)).mono ?_
    rintro e w' ⟨h1, ⟨bs, v, h2, h3⟩ | ⟨h2, h3⟩⟩
    · exact ⟨h1, .inl ⟨bs, v, ⟨q, rfl, h2⟩, h3⟩⟩
    · refine ⟨h1, .inr ⟨?_, h3⟩⟩
      rintro ⟨bs, q', hq, h⟩
      cases hq
      exact h2 ⟨bs, h⟩

set_option maxRecDepth 20000 in
set_option maxHeartbeats 2000000 in
theorem readBlock_raw (a : Option Addr) (cap : Nat) (zs : List Int) (o : Option (Nat × Nat)) (w : World) (hb : Byt w a zs) (h2 : zs.length ≤ 64) (hS : SentB w) :
    Calls Tryz.prog 81 #[.int .i64 0, .slice a zs.length cap] w fun e w' => Below w.heap.size w w' ∧
      ((∃ bs v, RbY o 0 zs bs ∧ OVB w' w.heap.size v bs ∧ e = .returned (.tuple #[v, .nilIface])) ∨ ((¬ ∃ bs, RbY o 0 zs bs) ∧ ∃ T x v, e = .returned (.tuple #[v, .iface T x]))) := by
  have HS : Hid (SentB w) := hS
  have HC := bytesClone_any a cap zs w hb (by omega)
  clear hS hb
  go_enter Tryz.func81, Tryz.ntmps81
  go_wp2_with fail
  refine HC.mono ?_
  clear HC
  rintro e w1 ⟨⟨v, rfl, hov⟩, hb1⟩
  obtain ⟨va, vc, rfl⟩ := hov.form
  have HO : Hid (OVB w1 w.heap.size (.slice va zs.length vc) zs ∧ Below w.heap.size w w1) := ⟨hov, hb1⟩
  obtain ⟨T, x, hc⟩ := (HS.out.below hb1).b2
  have hl1 := (HS.out.below hb1).hB
  clear hov hb1
  by_cases h64 : zs.length = 64
  · have HY : Hid (RbY o 0 zs zs ∧ OVB w1 w.heap.size (.slice va 64 vc) zs) := ⟨⟨h64, .inl ⟨rfl, rfl⟩⟩, by rw [← h64]; exact HO.out.1⟩
    have hz : (zs.length : Int) = 64 := by omega
    go_wp2
    go_ret2
    exact ⟨HO.out.2, .inl ⟨zs, _, HY.out.1, HY.out.2, rfl⟩⟩
  · have HN : Hid (¬ ∃ bs, RbY o 0 zs bs) := by
      rintro ⟨bs, h, ⟨_, rfl⟩ | ⟨h0, _⟩ | ⟨h0, _⟩⟩
      · exact h64 h
      · omega
      · omega
    have hz : ¬ (zs.length : Int) = 64 := by omega
    go_wp2
    go_quiet (fail)
    go_wp2
    go_ret2
    exact ⟨below_drewN HO.out.2 _, .inr ⟨HN.out, _, _, _, rfl⟩⟩

set_option maxRecDepth 20000 in
set_option maxHeartbeats 2000000 in
theorem readBlock_run (a : Option Addr) (cap : Nat) (zs : List Int) (o : Option (Nat × Nat)) (w : World) (hb : Byt w a zs) (h1 : 1 ≤ zs.length) (h2 : zs.length ≤ 64) (hS : SentB w) :
    Calls Tryz.prog 81 #[.int .i64 1, .slice a zs.length cap] w fun e w' => Below w.heap.size w w' ∧
      ((∃ bs v, RbY o 1 zs bs ∧ OVB w' w.heap.size v bs ∧ e = .returned (.tuple #[v, .nilIface])) ∨ ((¬ ∃ bs, RbY o 1 zs bs) ∧ ∃ T x v, e = .returned (.tuple #[v, .iface T x]))) := by
  have HS : Hid (SentB w) := hS
  have HC := repeat_any a cap zs w hb h1 h2
  have hdl := dbl_len zs 6
  obtain ⟨ds, hds⟩ : ∃ ds, ds = dbl zs 6 := ⟨_, rfl⟩
  rw [← hds] at HC hdl
  have HD : Hid (ds = dbl zs 6 ∧ ds.length = zs.length * 64) := ⟨hds, hdl⟩
  clear hS hb hds hdl
  go_enter Tryz.func81, Tryz.ntmps81
  go_wp2_with fail
  refine HC.mono ?_
  clear HC
  rintro e w0 ⟨⟨da, dc, rfl, hbd⟩, hb0⟩
  have HC := bytesClone_any da dc ds w0 hbd (by have := HD.out.2; omega)
  have HB0 : Hid (Below w.heap.size w w0) := hb0
  clear hbd hb0
  go_wp2_with fail
  refine HC.mono ?_
  clear HC
  rintro e w1 ⟨⟨v, rfl, hov⟩, hb1⟩
  obtain ⟨va, vc, rfl⟩ := hov.form
  have hb01 := HB0.out.trans (hb1.mono HB0.out.size)
  have HO : Hid (OVB w1 w.heap.size (.slice va ds.length vc) ds ∧ Below w.heap.size w w1) := ⟨hov.weak HB0.out.size, hb01⟩
  obtain ⟨T, x, hc⟩ := (HS.out.below hb01).b2
  have hl1 := (HS.out.below hb01).hB
  clear hov hb1 hb01
  by_cases h64 : ds.length = 64
  · have HY : Hid (RbY o 1 zs ds ∧ OVB w1 w.heap.size (.slice va 64 vc) ds) := ⟨⟨h64, .inr (.inl ⟨rfl, by have := HD.out.2; omega, HD.out.1⟩)⟩, by rw [← h64]; exact HO.out.1⟩
    have hz : (ds.length : Int) = 64 := by omega
    go_wp2
    go_ret2
    exact ⟨HO.out.2, .inl ⟨ds, _, HY.out.1, HY.out.2, rfl⟩⟩
  · have HN : Hid (¬ ∃ bs, RbY o 1 zs bs) := by
      rintro ⟨bs, h, ⟨h0, _⟩ | ⟨_, h0, rfl⟩ | ⟨h0, _⟩⟩
      · omega
      · have := HD.out.2
        omega
      · omega
    have hz : ¬ (ds.length : Int) = 64 := by omega
    go_wp2
    go_quiet (fail)
    go_wp2
    go_ret2
    exact ⟨below_drewN HO.out.2 _, .inr ⟨HN.out, _, _, _, rfl⟩⟩

set_option maxRecDepth 20000 in
set_option maxHeartbeats 2000000 in
theorem readBlock_sym (m : Nat) (a : Option Addr) (cap : Nat) (zs : List Int) (o : Option (Nat × Nat)) (w : World) (hm : m = 2 ∨ m = 3) (hb : Byt w a zs) (hO : OpnW zs o) (hS : SentB w) :
    Calls Tryz.prog 81 #[.int .i64 m, .slice a zs.length cap] w fun e w' => Below w.heap.size w w' ∧
      ((∃ bs v, RbY o m zs bs ∧ OVB w' w.heap.size v bs ∧ e = .returned (.tuple #[v, .nilIface])) ∨ ((¬ ∃ bs, RbY o m zs bs) ∧ ∃ T x v, e = .returned (.tuple #[v, .iface T x]))) := by
  have HS : Hid (SentB w) := hS
  have HC := openedSymbols_any m a cap zs o w (by omega) hb hO hS
  have HN2 : Hid ((¬ ∃ bs q, o = some q ∧ OsY q.1 q.2 m bs) → ¬ ∃ bs, RbY o m zs bs) := by
    rintro h ⟨bs, -, ⟨h0, _⟩ | ⟨h0, _⟩ | ⟨_, q, hq, hy⟩⟩
    · omega
    · omega
    · exact h ⟨bs, q, hq, hy⟩
  have HN3 : Hid (∀ bs bs', (∃ q, o = some q ∧ OsY q.1 q.2 m bs) → RbY o m zs bs' → bs' = bs) := by
    rintro bs bs' ⟨q, hq, hy⟩ ⟨-, ⟨h0, _⟩ | ⟨h0, _⟩ | ⟨_, q', hq', hy'⟩⟩
    · omega
    · omega
    · rw [hq] at hq'
      cases hq'
      exact hy'.unique hy
  have HN5 : Hid (∀ bs, (∃ q, o = some q ∧ OsY q.1 q.2 m bs) → ¬ bs.length = 64 → ¬ ∃ bs, RbY o m zs bs) := by
    rintro bs hy h64 ⟨bs', h⟩
    have := HN3.out bs bs' hy h
    subst this
    exact h64 h.1
  have HN4 : Hid (∀ bs, bs.length = 64 → (∃ q, o = some q ∧ OsY q.1 q.2 m bs) → RbY o m zs bs) := fun bs h64 h => ⟨h64, .inr (.inr ⟨hm, h⟩)⟩
  clear hS hb hO
  go_enter Tryz.func81, Tryz.ntmps81
  rcases hm with rfl | rfl
  all_goals
    go_wp2_with fail
    refine HC.mono ?_
    clear HC
    rintro e w1 ⟨hb1, ⟨bs, v, hy, hov, rfl⟩ | ⟨hno, T, x, v, rfl⟩⟩
    · obtain ⟨va, vc, rfl⟩ := hov.form
      have HO : Hid (OVB w1 w.heap.size (.slice va bs.length vc) bs ∧ Below w.heap.size w w1) := ⟨hov, hb1⟩
      have HYQ : Hid (∃ q, o = some q ∧ OsY q.1 q.2 _ bs) := hy
      obtain ⟨T, x, hc⟩ := (HS.out.below hb1).b2
      have hl1 := (HS.out.below hb1).hB
      clear hov hb1 hy
      by_cases h64 : bs.length = 64
      · have HY : Hid (RbY o _ zs bs ∧ OVB w1 w.heap.size (.slice va 64 vc) bs) := ⟨HN4.out bs h64 HYQ.out, by rw [← h64]; exact HO.out.1⟩
        have hz : (bs.length : Int) = 64 := by omega
        go_wp2
        go_ret2
        exact ⟨HO.out.2, .inl ⟨bs, _, HY.out.1, HY.out.2, rfl⟩⟩
      · have HN : Hid (¬ ∃ bs, RbY o _ zs bs) := HN5.out bs HYQ.out h64
        have hz : ¬ (bs.length : Int) = 64 := by omega
        go_wp2
        go_quiet (fail)
        go_wp2
        go_ret2
        exact ⟨below_drewN HO.out.2 _, .inr ⟨HN.out, _, _, _, rfl⟩⟩
    · have HB1 : Hid (Below w.heap.size w w1) := hb1
      have HN := HN2.out hno
      clear hb1 hno
      have HNH : Hid (¬ ∃ bs, RbY o _ zs bs) := HN
      clear HN HN2 HN3 HN4 HN5
      go_wp2
      go_ret2
      exact ⟨HB1.out, .inr ⟨HNH.out, _, _, _, rfl⟩⟩

set_option maxRecDepth 20000 in
set_option maxHeartbeats 2000000 in
theorem readBlock_other (m : Nat) (a : Option Addr) (cap : Nat) (zs : List Int) (o : Option (Nat × Nat)) (w : World) (hm : 4 ≤ m) (hS : SentB w) :
    Calls Tryz.prog 81 #[.int .i64 m, .slice a zs.length cap] w fun e w' => Below w.heap.size w w' ∧
      ((∃ bs v, RbY o m zs bs ∧ OVB w' w.heap.size v bs ∧ e = .returned (.tuple #[v, .nilIface])) ∨ ((¬ ∃ bs, RbY o m zs bs) ∧ ∃ T x v, e = .returned (.tuple #[v, .iface T x]))) := by
  obtain ⟨T, x, hc⟩ := hS.b1
  have hl1 := hS.hB
  have HN : Hid (¬ ∃ bs, RbY o m zs bs) := by
    rintro ⟨bs, -, ⟨h0, _⟩ | ⟨h0, _⟩ | ⟨h0, _⟩⟩ <;> omega
  have e0 : ((m : Int) == 0) = false := by simp; omega
  have e1 : ((m : Int) == 1) = false := by simp; omega
  have e2 : ((m : Int) == 2) = false := by simp; omega
  have e3 : ((m : Int) == 3) = false := by simp; omega
  clear hS hm
  go_enter Tryz.func81, Tryz.ntmps81
  go_wp2
  go_ret2
  exact ⟨Below.refl _ _, .inr ⟨HN.out, _, _, _, rfl⟩⟩

theorem readBlock_any (m : Nat) (a : Option Addr) (cap : Nat) (zs : List Int) (o : Option (Nat × Nat)) (w : World) (hb : Byt w a zs) (h1 : 1 ≤ zs.length) (h2 : zs.length ≤ 64) (hO : OpnW zs o) (hS : SentB w) :
    Calls Tryz.prog 81 #[.int .i64 m, .slice a zs.length cap] w fun e w' => Below w.heap.size w w' ∧
      ((∃ bs v, RbY o m zs bs ∧ OVB w' w.heap.size v bs ∧ e = .returned (.tuple #[v, .nilIface])) ∨ ((¬ ∃ bs, RbY o m zs bs) ∧ ∃ T x v, e = .returned (.tuple #[v, .iface T x]))) := by
  rcases (by omega : m = 0 ∨ m = 1 ∨ (m = 2 ∨ m = 3) ∨ 4 ≤ m) with rfl | rfl | hm | hm
  · exact readBlock_raw a cap zs o w hb h2 hS
  · exact readBlock_run a cap zs o w hb h1 h2 hS
  · exact readBlock_sym m a cap zs o w hm hb hO hS
  · exact readBlock_other m a cap zs o w hm hS
end Go.Proofs.YtennmikgehidiaaGreatDoor
namespace Go.Proofs.YtennmikgehidiaaGreatDoor
open Go.RowKit
set_option linter.unusedVariables false
set_option linter.unusedSimpArgs false

theorem Byt.head1 {w : World} {a : Option Addr} {z : Int} {zs : List Int} (h : Byt w a (z :: zs)) : ∃ b off, a = some ⟨b, off, none⟩ ∧ b < w.heap.size ∧ w.cell? ⟨b, off, none⟩ = some (.int .u8 z) ∧ Byt w (some ⟨b, off + 1, none⟩) zs ∧ 0 ≤ z ∧ z ≤ 255 := by
  obtain ⟨b, off, rfl, hb, hc⟩ := h.2 (by simp)
  have hz := h.1 z (by simp)
  refine ⟨b, off, rfl, hb, by simpa using hc 0 (by simp), ⟨fun x hx => h.1 x (by simp [hx]), fun _ => ⟨b, off + 1, rfl, hb, fun i hi => ?_⟩⟩, hz⟩
  have := hc (i + 1) (by simp; omega)
  rw [show off + 1 + i = off + (i + 1) by omega, this]
  simp

set_option maxRecDepth 20000 in
set_option maxHeartbeats 4000000 in
theorem readBlob_any (a : Option Addr) (cap m : Nat) (zs : List Int) (o : Option (Nat × Nat)) (w : World) (hb : Byt w a ((m : Int) :: zs)) (h1 : 1 ≤ zs.length) (h2 : zs.length ≤ 64) (hcap : zs.length + 1 ≤ cap) (hO : OpnW zs o) (hS : SentB w) :
    Calls Tryz.prog 73 #[.slice a (zs.length + 1) cap] w fun e w' => Below w.heap.size w w' ∧
      ((∃ bs v, RbY o m zs bs ∧ OVB w' w.heap.size v bs ∧ e = .returned (.tuple #[v, .nilIface])) ∨ ((¬ ∃ bs, RbY o m zs bs) ∧ ∃ T x v, e = .returned (.tuple #[v, .iface T x]))) := by
  obtain ⟨b, off, rfl, hbl, c0, hbt, hm0, hm1⟩ := hb.head1
  have HRB : Hid (Calls Tryz.prog 81 #[.int .i64 m, .slice (some ⟨b, off + 1, none⟩) zs.length (cap - 1)] w.drew fun e w' => Below w.drew.heap.size w.drew w' ∧
      ((∃ bs v, RbY o m zs bs ∧ OVB w' w.drew.heap.size v bs ∧ e = .returned (.tuple #[v, .nilIface])) ∨ ((¬ ∃ bs, RbY o m zs bs) ∧ ∃ T x v, e = .returned (.tuple #[v, .iface T x])))) :=
    readBlock_any m _ _ zs o w.drew (hbt.drewN 1) h1 h2 hO (hS.below ((Below.refl _ _).drew))
  clear hb hbt hO hS
  have g1 : ¬ ((zs.length : Int) + 1 < 2) := by omega
  have g2 : ¬ ((65 : Int) < (zs.length : Int) + 1) := by omega
  have g3 : IntKind.i64.wrap (m : Int) = m := by rw [IntKind.wrap_i64]; omega
  have g6 : (1 : Int) ≤ (zs.length : Int) + 1 := by omega
  have g4 : ¬ cap = 1 := by omega
  have g5 : ¬ cap = 0 := by omega
  go_enter Tryz.func73, Tryz.ntmps73
  go_wp2_with fail
  refine wp_region_cut (S := fun W => W.cell? ⟨b, off, none⟩ = some (.int .u8 m)) 12 (by kernel_rfl) (by kernel_rfl) (by exact c0) (fun hHeld => ?_)
  refine wpAnyH_take (i := 0) (v := ?_) rfl (by kernel_rfl) (by kernel_rfl) (by kernel_rfl) (fun _ _ _ h => h) (Or.inl ⟨by rfl, ?_⟩) (by assumption) ?_
  rotate_left 1
  · (intro w hSw; (try dsimp only at hSw); go_simp; try (with_reducible rfl))
  try simp only [List.getElem_toArray, List.getElem_cons_zero, List.getElem_cons_succ, Act.put, List.setIfInBounds_toArray, List.set_cons_zero, List.set_cons_succ]
  refine wpAnyH_take (i := 1) (v := ?_) rfl (by kernel_rfl) (by kernel_rfl) (by kernel_rfl) (fun _ _ _ h => h) (Or.inl ⟨by rfl, ?_⟩) (by assumption) ?_
  rotate_left 1
  · (intro w hSw; (try dsimp only at hSw); go_simp; try (with_reducible rfl))
  try simp only [List.getElem_toArray, List.getElem_cons_zero, List.getElem_cons_succ, Act.put, List.setIfInBounds_toArray, List.set_cons_zero, List.set_cons_succ]
  refine wpAnyH_take (i := 2) (v := ?_) rfl (by kernel_rfl) (by kernel_rfl) (by kernel_rfl) (fun _ _ _ h => h) (Or.inl ⟨by rfl, ?_⟩) (by assumption) ?_
  rotate_left 1
  · (intro w hSw; (try dsimp only at hSw); go_simp; try (with_reducible rfl))
  try simp only [List.getElem_toArray, List.getElem_cons_zero, List.getElem_cons_succ, Act.put, List.setIfInBounds_toArray, List.set_cons_zero, List.set_cons_succ]
  refine wpAnyH_take (i := 3) (v := ?_) rfl (by kernel_rfl) (by kernel_rfl) (by kernel_rfl) (fun _ _ _ h => h) (Or.inl ⟨by rfl, ?_⟩) (by assumption) ?_
  rotate_left 1
  · (intro w hSw; (try dsimp only at hSw); go_simp; try (with_reducible rfl))
  try simp only [List.getElem_toArray, List.getElem_cons_zero, List.getElem_cons_succ, Act.put, List.setIfInBounds_toArray, List.set_cons_zero, List.set_cons_succ]
  refine wpAnyH_take (i := 4) (v := ?_) rfl (by kernel_rfl) (by kernel_rfl) (by kernel_rfl) (fun _ _ _ h => h) (Or.inl ⟨by rfl, ?_⟩) (by assumption) ?_
  rotate_left 1
  · (intro w hSw; (try dsimp only at hSw); go_simp; try (with_reducible rfl))
  try simp only [List.getElem_toArray, List.getElem_cons_zero, List.getElem_cons_succ, Act.put, List.setIfInBounds_toArray, List.set_cons_zero, List.set_cons_succ]
  refine wpAnyH_take (i := 5) (v := ?_) rfl (by kernel_rfl) (by kernel_rfl) (by kernel_rfl) (fun _ _ _ h => h) (Or.inl ⟨by rfl, ?_⟩) (by assumption) ?_
  rotate_left 1
  · (intro w hSw; (try dsimp only at hSw); go_simp; try (with_reducible rfl))
  try simp only [List.getElem_toArray, List.getElem_cons_zero, List.getElem_cons_succ, Act.put, List.setIfInBounds_toArray, List.set_cons_zero, List.set_cons_succ]
  refine wpAnyH_ready (rs := [6]) (by kernel_rfl) (by simp) ?_
  refine AllReadyH.cons rfl (fun K hK => ?_) AllReadyH.nil
  go_simp
  refine (HRB.out).mono ?_
  rintro e w1 ⟨hb1', hd⟩
  have hb1 : Below w.heap.size w w1 := Below.drewS hb1'
  obtain ⟨v, er, rfl, hd2⟩ : ∃ v er, e = .returned (.tuple #[v, er]) ∧ ((er = .nilIface ∧ ∃ bs, RbY o m zs bs ∧ OVB w1 w.heap.size v bs) ∨ ((¬ ∃ bs, RbY o m zs bs) ∧ ∃ T x, er = .iface T x)) := by
    rcases hd with ⟨bs, v, h1, h2, rfl⟩ | ⟨h1, T, x, v, rfl⟩
    · exact ⟨v, _, rfl, .inl ⟨rfl, bs, h1, h2⟩⟩
    · exact ⟨v, _, rfl, .inr ⟨h1, T, x, rfl⟩⟩
  have HD : Hid ((er = .nilIface ∧ ∃ bs, RbY o m zs bs ∧ OVB w1 w.heap.size v bs) ∨ ((¬ ∃ bs, RbY o m zs bs) ∧ ∃ T x, er = .iface T x)) := hd2
  have HB1 : Hid (Below w.heap.size w w1) := hb1
  have HK : Hid (w1.cell? ⟨b, off, none⟩ = some (.int .u8 m)) := keep hb1 hbl c0
  clear hd hd2 hb1 hb1'
  dsimp only
  refine hK.out _ _ (by exact HK.out) (fun hHeld => ?_)
  clear hK K
  try simp only [List.getElem_toArray, List.getElem_cons_zero, List.getElem_cons_succ, Act.put, List.setIfInBounds_toArray, List.set_cons_zero, List.set_cons_succ]
  refine wpAnyH_take (i := 7) (v := ?_) rfl (by kernel_rfl) (by kernel_rfl) (by kernel_rfl) (fun _ _ _ h => h) (Or.inl ⟨by rfl, ?_⟩) (by assumption) ?_
  rotate_left 1
  · (intro w hSw; (try dsimp only at hSw); go_simp; try (with_reducible rfl))
  try simp only [List.getElem_toArray, List.getElem_cons_zero, List.getElem_cons_succ, Act.put, List.setIfInBounds_toArray, List.set_cons_zero, List.set_cons_succ]
  refine wpAnyH_take (i := 8) (v := ?_) rfl (by kernel_rfl) (by kernel_rfl) (by kernel_rfl) (fun _ _ _ h => h) (Or.inl ⟨by rfl, ?_⟩) (by assumption) ?_
  rotate_left 1
  · (intro w hSw; (try dsimp only at hSw); go_simp; try (with_reducible rfl))
  try simp only [List.getElem_toArray, List.getElem_cons_zero, List.getElem_cons_succ, Act.put, List.setIfInBounds_toArray, List.set_cons_zero, List.set_cons_succ]
  refine wpAnyH_take (i := 9) (v := ?_) rfl (by kernel_rfl) (by kernel_rfl) (by kernel_rfl) (fun _ _ _ h => h) (Or.inl ⟨by rfl, ?_⟩) (by assumption) ?_
  rotate_left 1
  · (intro w hSw; (try dsimp only at hSw); go_simp; try (with_reducible rfl))
  try simp only [List.getElem_toArray, List.getElem_cons_zero, List.getElem_cons_succ, Act.put, List.setIfInBounds_toArray, List.set_cons_zero, List.set_cons_succ]
  refine wpAnyH_take (i := 10) (v := ?_) rfl (by kernel_rfl) (by kernel_rfl) (by kernel_rfl) (fun _ _ _ h => h) (Or.inl ⟨by rfl, ?_⟩) (by assumption) ?_
  rotate_left 1
  · (intro w hSw; (try dsimp only at hSw); go_simp; try (with_reducible rfl))
  try simp only [List.getElem_toArray, List.getElem_cons_zero, List.getElem_cons_succ, Act.put, List.setIfInBounds_toArray, List.set_cons_zero, List.set_cons_succ]
  refine wpAnyH_take (i := 11) (v := ?_) rfl (by kernel_rfl) (by kernel_rfl) (by kernel_rfl) (fun _ _ _ h => h) (Or.inl ⟨by rfl, ?_⟩) (by assumption) ?_
  rotate_left 1
  · (intro w hSw; (try dsimp only at hSw); go_simp; try (with_reducible rfl))
  try simp only [List.getElem_toArray, List.getElem_cons_zero, List.getElem_cons_succ, Act.put, List.setIfInBounds_toArray, List.set_cons_zero, List.set_cons_succ]
  refine wpAnyH_done (by kernel_rfl) ?_ _
  simp only [cutQ, List.drop_succ_cons, List.drop_zero]
  rcases HD.out with ⟨rfl, bs, hy, hov⟩ | ⟨hno, T, x, rfl⟩
  · have HO : Hid (RbY o m zs bs ∧ OVB w1 w.heap.size v bs) := ⟨hy, hov⟩
    obtain ⟨va, vc, rfl⟩ := hov.form
    clear hy hov HD HRB
    go_wp2
    go_ret2
    exact ⟨HB1.out, .inl ⟨bs, _, HO.out.1, HO.out.2, rfl⟩⟩
  · have HN : Hid (¬ ∃ bs, RbY o m zs bs) := hno
    have hz1 := HB1.out.size
    clear hno HD HRB
    go_wp2
    go_ret2
    exact ⟨HB1.out.alloc (by omega) _, .inr ⟨HN.out, _, _, _, rfl⟩⟩

set_option maxRecDepth 20000 in
set_option maxHeartbeats 4000000 in
theorem readBlob_no (a : Option Addr) (cap n : Nat) (w : World) (hn : n < 2 ∨ 65 < n) (hS : SentB w) :
    Calls Tryz.prog 73 #[.slice a n cap] w fun e w' => Below w.heap.size w w' ∧ ∃ T x v, e = .returned (.tuple #[v, .iface T x]) := by
  obtain ⟨T, x, hc⟩ := hS.b3
  have hl1 := hS.hB
  clear hS
  go_enter Tryz.func73, Tryz.ntmps73
  rcases hn with hn | hn
  · have g1 : (n : Int) < 2 := by omega
    go_wp2
    go_region
    all_goals
      go_wp2
      go_ret2
      exact ⟨((Below.refl w.heap.size w).drew).alloc (by simp) _, _, _, _, rfl⟩
  · have g1 : ¬ (n : Int) < 2 := by omega
    have g2 : (65 : Int) < n := by omega
    go_wp2
    go_region
    all_goals
      go_wp2
      go_ret2
      exact ⟨((Below.refl w.heap.size w).drew).alloc (by simp) _, _, _, _, rfl⟩

set_option maxRecDepth 20000 in
set_option maxHeartbeats 1000000 in
theorem decodeI_any (a : Option Addr) (cap m : Nat) (zs : List Int) (o : Option (Nat × Nat)) (w : World) (hb : Byt w a ((m : Int) :: zs)) (h1 : 1 ≤ zs.length) (h2 : zs.length ≤ 64) (hcap : zs.length + 1 ≤ cap) (hO : OpnW zs o) (hS : SentB w) :
    Calls Tryz.prog 64 #[.slice a (zs.length + 1) cap] w fun e w' => Below w.heap.size w w' ∧
      ((∃ bs v, RbY o m zs bs ∧ OVB w' w.heap.size v bs ∧ e = .returned (.tuple #[v, .bool true])) ∨ ((¬ ∃ bs, RbY o m zs bs) ∧ e = .returned (.tuple #[.slice none 0 0, .bool false]))) := by
  have HR := readBlob_any a cap m zs o w hb h1 h2 hcap hO hS
  clear hb hO hS
  go_enter Tryz.func64, Tryz.ntmps64
  go_wp2_with fail
  refine HR.mono ?_
  clear HR
  rintro e w1 ⟨hb1, ⟨bs, v, hy, hov, rfl⟩ | ⟨hno, T, x, v, rfl⟩⟩
  · have HO : Hid (RbY o m zs bs ∧ OVB w1 w.heap.size v bs ∧ Below w.heap.size w w1) := ⟨hy, hov, hb1⟩
    obtain ⟨va, vc, rfl⟩ := hov.form
    clear hy hov hb1
    go_wp2
    go_ret2
    exact ⟨HO.out.2.2, .inl ⟨bs, _, HO.out.1, HO.out.2.1, rfl⟩⟩
  · have HO : Hid ((¬ ∃ bs, RbY o m zs bs) ∧ Below w.heap.size w w1) := ⟨hno, hb1⟩
    clear hno hb1
    go_wp2
    go_ret2
    exact ⟨HO.out.2, .inr ⟨HO.out.1, rfl⟩⟩

set_option maxHeartbeats 1000000 in
theorem decodeI_no (a : Option Addr) (cap n : Nat) (w : World) (hn : n < 2 ∨ 65 < n) (hS : SentB w) :
    Calls Tryz.prog 64 #[.slice a n cap] w fun e w' => Below w.heap.size w w' ∧ e = .returned (.tuple #[.slice none 0 0, .bool false]) := by
  have HR := readBlob_no a cap n w hn hS
  clear hS
  go_enter Tryz.func64, Tryz.ntmps64
  go_wp2_with fail
  refine HR.mono ?_
  clear HR
  rintro e w1 ⟨hb1, T, x, v, rfl⟩
  have HO : Hid (Below w.heap.size w w1) := hb1
  clear hb1
  go_wp2
  go_ret2
  exact ⟨HO.out, rfl⟩
end Go.Proofs.YtennmikgehidiaaGreatDoor
