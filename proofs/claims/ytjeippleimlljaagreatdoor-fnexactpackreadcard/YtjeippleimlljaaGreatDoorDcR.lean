/-
  The model's l5decode at the modes that have symbols, by l5read's contract.
-/
import Derived.Test.YtjeippleimlljaaGreatDoorCut
import Derived.Test.YtjeippleimlljaaGreatDoorUs1
import Derived.Test.YtjeippleimlljaaGreatDoorUs4
import Derived.Test.YtjeippleimlljaaGreatDoorSqY
namespace Go.Proofs.YtjeippleimlljaaGreatDoor
open Go.RowKit
set_option linter.unusedVariables false
set_option linter.unusedSimpArgs false

theorem Byt.head1 {w : World} {a : Option Addr} {z : Int} {zs : List Int} (h : Byt w a (z :: zs)) : ∃ b off, a = some ⟨b, off, none⟩ ∧ b < w.heap.size ∧ w.cell? ⟨b, off, none⟩ = some (.int .u8 z) ∧ Byt w (some ⟨b, off + 1, none⟩) zs ∧ 0 ≤ z ∧ z ≤ 255 := by
  obtain ⟨b, off, rfl, hb, hc⟩ := h.2 (by simp)
  have hz := h.1 z (by simp)
  refine ⟨b, off, rfl, hb, by simpa using hc 0 (by simp), ⟨fun x hx => h.1 x (by simp [hx]), fun _ => ⟨b, off + 1, rfl, hb, fun i hi => ?_⟩⟩, hz⟩
  have := hc (i + 1) (by simp; omega)
  rw [show off + 1 + i = off + (i + 1) by omega, this]
  simp

set_option maxRecDepth 20000 in
set_option maxHeartbeats 4000000 in
theorem readBlob_any (a : Option Addr) (cap m : Nat) (zs : List Int) (o : Option (Nat × Nat)) (w : World) (hb : Byt w a ((m : Int) :: zs)) (h1 : 1 ≤ zs.length) (h2 : zs.length ≤ 64) (hcap : zs.length + 1 ≤ cap) (hO : OpnW zs o) (hS : SentB w) :
    Calls Tryz.prog 58 #[.slice a (zs.length + 1) cap] w fun e w' => Below w.heap.size w w' ∧
      ((∃ bs v, RbY o m zs bs ∧ OVB w' w.heap.size v bs ∧ e = .returned (.tuple #[v, .nilIface])) ∨ ((¬ ∃ bs, RbY o m zs bs) ∧ ∃ T x v, e = .returned (.tuple #[v, .iface T x]))) := by
  obtain ⟨b, off, rfl, hbl, c0, hbt, hm0, hm1⟩ := hb.head1
  have HRB : Hid (Calls Tryz.prog 61 #[.int .i64 m, .slice (some ⟨b, off + 1, none⟩) zs.length (cap - 1)] w.drew fun e w' => Below w.drew.heap.size w.drew w' ∧
      ((∃ bs v, RbY o m zs bs ∧ OVB w' w.drew.heap.size v bs ∧ e = .returned (.tuple #[v, .nilIface])) ∨ ((¬ ∃ bs, RbY o m zs bs) ∧ ∃ T x v, e = .returned (.tuple #[v, .iface T x])))) :=
    readBlock_any m _ _ zs o w.drew (hbt.drewN 1) h1 h2 hO (hS.below ((Below.refl _ _).drew))
  clear hb hbt hO hS
  have g1 : ¬ ((zs.length : Int) + 1 < 2) := by omega
  have g2 : ¬ ((65 : Int) < (zs.length : Int) + 1) := by omega
  have g3 : IntKind.i64.wrap (m : Int) = m := by rw [IntKind.wrap_i64]; omega
  have g6 : (1 : Int) ≤ (zs.length : Int) + 1 := by omega
  have g4 : ¬ cap = 1 := by omega
  have g5 : ¬ cap = 0 := by omega
  go_enter Tryz.func58, Tryz.ntmps58
  go_wp2_with fail
  refine wp_region_cut (S := fun W => W.cell? ⟨b, off, none⟩ = some (.int .u8 m)) 12 (by kernel_rfl) (by kernel_rfl) (by exact c0) (fun hHeld => ?_)
  refine wpAnyH_take (i := 0) (v := ?_) rfl (by kernel_rfl) (by kernel_rfl) (by kernel_rfl) (fun _ _ _ h => h) (Or.inl ⟨by rfl, ?_⟩) (by assumption) ?_
  rotate_left 1
  · (intro w hSw; (try dsimp only at hSw); go_simp; try (with_reducible rfl))
  try simp only [List.getElem_toArray, List.getElem_cons_zero, List.getElem_cons_succ, Act.put, List.setIfInBounds_toArray, List.set_cons_zero, List.set_cons_succ]
  refine wpAnyH_take (i := 1) (v := ?_) rfl (by kernel_rfl) (by kernel_rfl) (by kernel_rfl) (fun _ _ _ h => h) (Or.inl ⟨by rfl, ?_⟩) (by assumption) ?_
  rotate_left 1
  · (intro w hSw; (try dsimp only at hSw); go_simp; try (with_reducible rfl))
  try simp only [List.getElem_toArray, List.getElem_cons_zero, List.getElem_cons_succ, Act.put, List.setIfInBounds_toArray, List.set_cons_zero, List.set_cons_succ]
  refine wpAnyH_take (i := 2) (v := ?_) rfl (by kernel_rfl) (by kernel_rfl) (by kernel_rfl) (fun _ _ _ h => h) (Or.inl ⟨by rfl, ?_⟩) (by assumption) ?_
  rotate_left 1
  · (intro w hSw; (try dsimp only at hSw); go_simp; try (with_reducible rfl))
  try simp only [List.getElem_toArray, List.getElem_cons_zero, List.getElem_cons_succ, Act.put, List.setIfInBounds_toArray, List.set_cons_zero, List.set_cons_succ]
  refine wpAnyH_take (i := 3) (v := ?_) rfl (by kernel_rfl) (by kernel_rfl) (by kernel_rfl) (fun _ _ _ h => h) (Or.inl ⟨by rfl, ?_⟩) (by assumption) ?_
  rotate_left 1
  · (intro w hSw; (try dsimp only at hSw); go_simp; try (with_reducible rfl))
  try simp only [List.getElem_toArray, List.getElem_cons_zero, List.getElem_cons_succ, Act.put, List.setIfInBounds_toArray, List.set_cons_zero, List.set_cons_succ]
  refine wpAnyH_take (i := 4) (v := ?_) rfl (by kernel_rfl) (by kernel_rfl) (by kernel_rfl) (fun _ _ _ h => h) (Or.inl ⟨by rfl, ?_⟩) (by assumption) ?_
  rotate_left 1
  · (intro w hSw; (try dsimp only at hSw); go_simp; try (with_reducible rfl))
  try simp only [List.getElem_toArray, List.getElem_cons_zero, List.getElem_cons_succ, Act.put, List.setIfInBounds_toArray, List.set_cons_zero, List.set_cons_succ]
  refine wpAnyH_take (i := 5) (v := ?_) rfl (by kernel_rfl) (by kernel_rfl) (by kernel_rfl) (fun _ _ _ h => h) (Or.inl ⟨by rfl, ?_⟩) (by assumption) ?_
  rotate_left 1
  · (intro w hSw; (try dsimp only at hSw); go_simp; try (with_reducible rfl))
  try simp only [List.getElem_toArray, List.getElem_cons_zero, List.getElem_cons_succ, Act.put, List.setIfInBounds_toArray, List.set_cons_zero, List.set_cons_succ]
  refine wpAnyH_ready (rs := [6]) (by kernel_rfl) (by simp) ?_
  refine AllReadyH.cons rfl (fun K hK => ?_) AllReadyH.nil
  go_simp
  refine (HRB.out).mono ?_
  rintro e w1 ⟨hb1', hd⟩
  have hb1 : Below w.heap.size w w1 := Below.drewS hb1'
  obtain ⟨v, er, rfl, hd2⟩ : ∃ v er, e = .returned (.tuple #[v, er]) ∧ ((er = .nilIface ∧ ∃ bs, RbY o m zs bs ∧ OVB w1 w.heap.size v bs) ∨ ((¬ ∃ bs, RbY o m zs bs) ∧ ∃ T x, er = .iface T x)) := by
    rcases hd with ⟨bs, v, h1, h2, rfl⟩ | ⟨h1, T, x, v, rfl⟩
    · exact ⟨v, _, rfl, .inl ⟨rfl, bs, h1, h2⟩⟩
    · exact ⟨v, _, rfl, .inr ⟨h1, T, x, rfl⟩⟩
  have HD : Hid ((er = .nilIface ∧ ∃ bs, RbY o m zs bs ∧ OVB w1 w.heap.size v bs) ∨ ((¬ ∃ bs, RbY o m zs bs) ∧ ∃ T x, er = .iface T x)) := hd2
  have HB1 : Hid (Below w.heap.size w w1) := hb1
  have HK : Hid (w1.cell? ⟨b, off, none⟩ = some (.int .u8 m)) := keep hb1 hbl c0
  clear hd hd2 hb1 hb1'
  dsimp only
  refine hK.out _ _ (by exact HK.out) (fun hHeld => ?_)
  clear hK K
  try simp only [List.getElem_toArray, List.getElem_cons_zero, List.getElem_cons_succ, Act.put, List.setIfInBounds_toArray, List.set_cons_zero, List.set_cons_succ]
  refine wpAnyH_take (i := 7) (v := ?_) rfl (by kernel_rfl) (by kernel_rfl) (by kernel_rfl) (fun _ _ _ h => h) (Or.inl ⟨by rfl, ?_⟩) (by assumption) ?_
  rotate_left 1
  · (intro w hSw; (try dsimp only at hSw); go_simp; try (with_reducible rfl))
  try simp only [List.getElem_toArray, List.getElem_cons_zero, List.getElem_cons_succ, Act.put, List.setIfInBounds_toArray, List.set_cons_zero, List.set_cons_succ]
  refine wpAnyH_take (i := 8) (v := ?_) rfl (by kernel_rfl) (by kernel_rfl) (by kernel_rfl) (fun _ _ _ h => h) (Or.inl ⟨by rfl, ?_⟩) (by assumption) ?_
  rotate_left 1
  · (intro w hSw; (try dsimp only at hSw); go_simp; try (with_reducible rfl))
  try simp only [List.getElem_toArray, List.getElem_cons_zero, List.getElem_cons_succ, Act.put, List.setIfInBounds_toArray, List.set_cons_zero, List.set_cons_succ]
  refine wpAnyH_take (i := 9) (v := ?_) rfl (by kernel_rfl) (by kernel_rfl) (by kernel_rfl) (fun _ _ _ h => h) (Or.inl ⟨by rfl, ?_⟩) (by assumption) ?_
  rotate_left 1
  · (intro w hSw; (try dsimp only at hSw); go_simp; try (with_reducible rfl))
  try simp only [List.getElem_toArray, List.getElem_cons_zero, List.getElem_cons_succ, Act.put, List.setIfInBounds_toArray, List.set_cons_zero, List.set_cons_succ]
  refine wpAnyH_take (i := 10) (v := ?_) rfl (by kernel_rfl) (by kernel_rfl) (by kernel_rfl) (fun _ _ _ h => h) (Or.inl ⟨by rfl, ?_⟩) (by assumption) ?_
  rotate_left 1
  · (intro w hSw; (try dsimp only at hSw); go_simp; try (with_reducible rfl))
  try simp only [List.getElem_toArray, List.getElem_cons_zero, List.getElem_cons_succ, Act.put, List.setIfInBounds_toArray, List.set_cons_zero, List.set_cons_succ]
  refine wpAnyH_take (i := 11) (v := ?_) rfl (by kernel_rfl) (by kernel_rfl) (by kernel_rfl) (fun _ _ _ h => h) (Or.inl ⟨by rfl, ?_⟩) (by assumption) ?_
  rotate_left 1
  · (intro w hSw; (try dsimp only at hSw); go_simp; try (with_reducible rfl))
  try simp only [List.getElem_toArray, List.getElem_cons_zero, List.getElem_cons_succ, Act.put, List.setIfInBounds_toArray, List.set_cons_zero, List.set_cons_succ]
  refine wpAnyH_done (by kernel_rfl) ?_ _
  simp only [cutQ, List.drop_succ_cons, List.drop_zero]
  rcases HD.out with ⟨rfl, bs, hy, hov⟩ | ⟨hno, T, x, rfl⟩
  · have HO : Hid (RbY o m zs bs ∧ OVB w1 w.heap.size v bs) := ⟨hy, hov⟩
    obtain ⟨va, vc, rfl⟩ := hov.form
    clear hy hov HD HRB
    go_wp2
    go_ret2
    exact ⟨HB1.out, .inl ⟨bs, _, HO.out.1, HO.out.2, rfl⟩⟩
  · have HN : Hid (¬ ∃ bs, RbY o m zs bs) := hno
    have hz1 := HB1.out.size
    clear hno HD HRB
    go_wp2
    go_ret2
    exact ⟨HB1.out.alloc (by omega) _, .inr ⟨HN.out, _, _, _, rfl⟩⟩

set_option maxRecDepth 20000 in
set_option maxHeartbeats 4000000 in
theorem readBlob_no (a : Option Addr) (cap n : Nat) (w : World) (hn : n < 2 ∨ 65 < n) (hS : SentB w) :
    Calls Tryz.prog 58 #[.slice a n cap] w fun e w' => Below w.heap.size w w' ∧ ∃ T x v, e = .returned (.tuple #[v, .iface T x]) := by
  obtain ⟨T, x, hc⟩ := hS.b3
  have hl1 := hS.hB
  clear hS
  go_enter Tryz.func58, Tryz.ntmps58
  rcases hn with hn | hn
  · have g1 : (n : Int) < 2 := by omega
    go_wp2
    go_region
    all_goals
      go_wp2
      go_ret2
      exact ⟨((Below.refl w.heap.size w).drew).alloc (by simp) _, _, _, _, rfl⟩
  · have g1 : ¬ (n : Int) < 2 := by omega
    have g2 : (65 : Int) < n := by omega
    go_wp2
    go_region
    all_goals
      go_wp2
      go_ret2
      exact ⟨((Below.refl w.heap.size w).drew).alloc (by simp) _, _, _, _, rfl⟩

set_option maxRecDepth 20000 in
set_option maxHeartbeats 1000000 in
theorem decodeI_any (a : Option Addr) (cap m : Nat) (zs : List Int) (o : Option (Nat × Nat)) (w : World) (hb : Byt w a ((m : Int) :: zs)) (h1 : 1 ≤ zs.length) (h2 : zs.length ≤ 64) (hcap : zs.length + 1 ≤ cap) (hO : OpnW zs o) (hS : SentB w) :
    Calls Tryz.prog 50 #[.slice a (zs.length + 1) cap] w fun e w' => Below w.heap.size w w' ∧
      ((∃ bs v, RbY o m zs bs ∧ OVB w' w.heap.size v bs ∧ e = .returned (.tuple #[v, .bool true])) ∨ ((¬ ∃ bs, RbY o m zs bs) ∧ e = .returned (.tuple #[.slice none 0 0, .bool false]))) := by
  have HR := readBlob_any a cap m zs o w hb h1 h2 hcap hO hS
  clear hb hO hS
  go_enter Tryz.func50, Tryz.ntmps50
  go_wp2_with fail
  refine HR.mono ?_
  clear HR
  rintro e w1 ⟨hb1, ⟨bs, v, hy, hov, rfl⟩ | ⟨hno, T, x, v, rfl⟩⟩
  · have HO : Hid (RbY o m zs bs ∧ OVB w1 w.heap.size v bs ∧ Below w.heap.size w w1) := ⟨hy, hov, hb1⟩
    obtain ⟨va, vc, rfl⟩ := hov.form
    clear hy hov hb1
    go_wp2
    go_ret2
    exact ⟨HO.out.2.2, .inl ⟨bs, _, HO.out.1, HO.out.2.1, rfl⟩⟩
  · have HO : Hid ((¬ ∃ bs, RbY o m zs bs) ∧ Below w.heap.size w w1) := ⟨hno, hb1⟩
    clear hno hb1
    go_wp2
    go_ret2
    exact ⟨HO.out.2, .inr ⟨HO.out.1, rfl⟩⟩

set_option maxHeartbeats 1000000 in
theorem decodeI_no (a : Option Addr) (cap n : Nat) (w : World) (hn : n < 2 ∨ 65 < n) (hS : SentB w) :
    Calls Tryz.prog 50 #[.slice a n cap] w fun e w' => Below w.heap.size w w' ∧ e = .returned (.tuple #[.slice none 0 0, .bool false]) := by
  have HR := readBlob_no a cap n w hn hS
  clear hS
  go_enter Tryz.func50, Tryz.ntmps50
  go_wp2_with fail
  refine HR.mono ?_
  clear HR
  rintro e w1 ⟨hb1, T, x, v, rfl⟩
  have HO : Hid (Below w.heap.size w w1) := hb1
  clear hb1
  go_wp2
  go_ret2
  exact ⟨HO.out, rfl⟩
end Go.Proofs.YtjeippleimlljaaGreatDoor
namespace Go.Proofs.YtjeippleimlljaaGreatDoor
open Go.RowKit
set_option linter.unusedVariables false
set_option linter.unusedSimpArgs false

set_option maxHeartbeats 1000000 in
theorem l5decode_no (a : Option Addr) (cap n : Nat) (w : World) (hn : n < 2 ∨ 65 < n) :
    Calls Tryz.prog 30 #[.slice a n cap] w fun e w' => w' = w ∧ e = .returned (.tuple #[.slice none 0 0, .bool false]) := by
  go_enter Tryz.func30, Tryz.ntmps30
  rcases hn with hn | hn
  · have g1 : (n : Int) < 2 := by omega
    go_wp2
    go_ret2
    exact ⟨rfl, rfl⟩
  · have g1 : ¬ (n : Int) < 2 := by omega
    have g2 : (65 : Int) < n := by omega
    go_wp2
    go_ret2
    exact ⟨rfl, rfl⟩

/-- What l5decode answers. -/
def DcP (o : Option (Nat × Nat)) (m : Nat) (zs : List Int) (w : World) (e : Ending) (w' : World) : Prop := Below w.heap.size w w' ∧
  ((∃ bs v, RbY o m zs bs ∧ OVB w' w.heap.size v bs ∧ e = .returned (.tuple #[v, .bool true])) ∨ ((¬ ∃ bs, RbY o m zs bs) ∧ ∃ v, e = .returned (.tuple #[v, .bool false])))
theorem DcP.yes {o : Option (Nat × Nat)} {m : Nat} {zs : List Int} {w w' : World} {e : Ending} (h : Below w.heap.size w w') (bs : List Int) (v : Value) (h1 : RbY o m zs bs) (h2 : OVB w' w.heap.size v bs) (h3 : e = .returned (.tuple #[v, .bool true])) : DcP o m zs w e w' := ⟨h, .inl ⟨bs, v, h1, h2, h3⟩⟩
theorem DcP.no {o : Option (Nat × Nat)} {m : Nat} {zs : List Int} {w w' : World} {e : Ending} (h : Below w.heap.size w w') (h1 : ¬ ∃ bs, RbY o m zs bs) (v : Value) (h3 : e = .returned (.tuple #[v, .bool false])) : DcP o m zs w e w' := ⟨h, .inr ⟨h1, v, h3⟩⟩

set_option maxRecDepth 20000 in
set_option maxHeartbeats 2000000 in
theorem l5decode_other (a : Option Addr) (cap m : Nat) (zs : List Int) (o : Option (Nat × Nat)) (w : World) (hb : Byt w a ((m : Int) :: zs)) (h1 : 1 ≤ zs.length) (h2 : zs.length ≤ 64) (hm : 4 ≤ m) :
    Calls Tryz.prog 30 #[.slice a (zs.length + 1) cap] w (DcP o m zs w) := by
  obtain ⟨b, off, rfl, hbl, c0, hbt, hm0, hm1⟩ := hb.head1
  have HN : Hid (¬ ∃ bs, RbY o m zs bs) := by
    rintro ⟨bs, -, ⟨h0, _⟩ | ⟨h0, _⟩ | ⟨h0, _⟩⟩ <;> omega
  clear hb hbt
  have g1 : ¬ ((zs.length : Int) + 1 < 2) := by omega
  have g2 : ¬ ((65 : Int) < (zs.length : Int) + 1) := by omega
  have e0 : ((m : Int) == 0) = false := by simp; omega
  have e1 : ((m : Int) == 1) = false := by simp; omega
  have e2 : ((m : Int) == 2) = false := by simp; omega
  have e3 : ((m : Int) == 3) = false := by simp; omega
  have g3 : (0 : Int) < (zs.length : Int) + 1 := by omega
  go_enter Tryz.func30, Tryz.ntmps30
  go_wp2
  go_ret2
  exact DcP.no (Below.refl _ _) HN.out _ rfl

set_option maxRecDepth 20000 in
set_option maxHeartbeats 2000000 in
theorem l5decode_raw (a : Option Addr) (cap : Nat) (zs : List Int) (o : Option (Nat × Nat)) (w : World) (hb : Byt w a (((0 : Nat) : Int) :: zs)) (h1 : 1 ≤ zs.length) (h2 : zs.length ≤ 64) (hcap : zs.length + 1 ≤ cap) :
    Calls Tryz.prog 30 #[.slice a (zs.length + 1) cap] w (DcP o 0 zs w) := by
  obtain ⟨b, off, rfl, hbl, c0, hbt, hm0, hm1⟩ := hb.head1
  have HO : Hid (OVB (w.alloc (Obj.cells #[] 5)) w.heap.size (.slice (some ⟨w.heap.size, 0, none⟩) 0 0) []) := OVB.empty w _ (Nat.le_refl _)
  have HY : Hid (Byt (w.alloc (Obj.cells #[] 5)) (some ⟨b, off + 1, none⟩) zs) := hbt.alloc _
  have HB : Hid (Below w.heap.size w (w.alloc (Obj.cells #[] 5))) := (Below.refl _ _).alloc (Nat.le_refl _) _
  clear hb hbt
  have g1 : ¬ ((zs.length : Int) + 1 < 2) := by omega
  have g2 : ¬ ((65 : Int) < (zs.length : Int) + 1) := by omega
  have g3 : (0 : Int) < (zs.length : Int) + 1 := by omega
  have g6 : (1 : Int) ≤ (zs.length : Int) + 1 := by omega
  have g4 : ¬ cap = 1 := by omega
  have g5 : ¬ cap = 0 := by omega
  simp only [Int.natCast_zero] at c0
  go_enter Tryz.func30, Tryz.ntmps30
  go_wp2_with (at_builtin; (refine wpList_append_byt rfl (.tmp 27) (.tmp 29) rfl w.heap.size (.slice (some ⟨w.heap.size, 0, none⟩) 0 0) [] rfl HO.out (some ⟨b, off + 1, none⟩) (cap - 1) zs rfl HY.out (by simp; omega) (by simp) ?_; intro v1 w1 hov1 hgr1; have HB1 : Hid (Below w.heap.size w w1) := appB_below HB.out (by simp) HO.out hgr1; have HV1 : Hid (OVB w1 w.heap.size v1 zs) := (by simpa [Hid] using hov1); clear hov1 hgr1))
  go_ret2
  by_cases h64 : zs.length = 64
  · refine DcP.yes HB1.out zs v1 ⟨h64, .inl ⟨rfl, rfl⟩⟩ HV1.out ?_
    simp [h64]
  · refine DcP.no HB1.out ?_ v1 ?_
    · rintro ⟨bs, h, ⟨_, rfl⟩ | ⟨h0, _⟩ | ⟨h0, _⟩⟩
      · exact h64 h
      · omega
      · omega
    · have : ¬ (zs.length : Int) + 1 = 65 := by omega
      simp [this]

theorem dbl_one (z : Int) : dbl [z] 6 = List.replicate 64 z := by rfl

set_option maxRecDepth 20000 in
set_option maxHeartbeats 2000000 in
theorem l5decode_run (a : Option Addr) (cap : Nat) (zs : List Int) (o : Option (Nat × Nat)) (w : World) (hb : Byt w a (((1 : Nat) : Int) :: zs)) (h1 : 1 ≤ zs.length) (h2 : zs.length ≤ 64) (hcap : zs.length + 1 ≤ cap) :
    Calls Tryz.prog 30 #[.slice a (zs.length + 1) cap] w (DcP o 1 zs w) := by
  obtain ⟨b, off, rfl, hbl, c0, hbt, hm0, hm1⟩ := hb.head1
  obtain ⟨z, zt, hzs⟩ : ∃ z zt, zs = z :: zt := by
    cases zs with
    | nil => simp at h1
    | cons z zt => exact ⟨z, zt, rfl⟩
  have hbt' := hbt
  rw [hzs] at hbt'
  obtain ⟨b', off', hbo, -, c1, -, hz0', hz1'⟩ := hbt'.head1
  cases hbo
  have HZ : Hid ((0 ≤ z ∧ z ≤ 255) ∧ zs = z :: zt) := ⟨⟨hz0', hz1'⟩, hzs⟩
  obtain ⟨rs, hrs⟩ : ∃ rs, rs = List.replicate 64 z := ⟨_, rfl⟩
  have HL : Hid (rs.length = 64 ∧ (∀ k, k < 64 → rs.getD k 0 = z) ∧ rs = List.replicate 64 z) := by
    refine ⟨by rw [hrs, List.length_replicate], fun k hk => ?_, hrs⟩
    rw [hrs, List.getD, List.getElem?_replicate, if_pos hk]
    rfl
  clear hb hbt hbt' hrs hzs hz0' hz1'
  obtain ⟨i0, hi, hz0, hz1, hz2⟩ := info_parts Tryz.infoU8
  have g1 : ¬ ((zs.length : Int) + 1 < 2) := by omega
  have g2 : ¬ ((65 : Int) < (zs.length : Int) + 1) := by omega
  have g3 : (0 : Int) < (zs.length : Int) + 1 := by omega
  have g4 : (1 : Int) < (zs.length : Int) + 1 := by omega
  simp only [Int.natCast_one] at c0
  go_enter Tryz.func30, Tryz.ntmps30
  go_wp2_with (at_make; refine wpList_make_full _ rfl _ _ 22 rfl w.heap.size 5 i0 (.int .u8 0) 1 Tryz.underlying22 hi hz0 hz1 .i64 .i64 _ _ 64 rfl rfl rfl rfl (by rw [hz2]; omega) (by unfold maxLen; omega) (Nat.le_refl _) ?_; intro w1 hown hgrow)
  have h0 : Own w1 w.heap.size w.heap.size 64 (part rs 0) := by
    rw [part_zero, HL.out.1]
    refine ⟨?_, by intro z hz; simp at hz; omega⟩
    rw [made_zero] at hown
    simpa using hown
  have hbw : Below w.heap.size w w1 := (Below.refl _ _).grown hgrow (Nat.le_refl _) (by intro k hk; cases hk)
  have H0 : Hid (Own w1 w.heap.size w.heap.size 64 (part rs 0)) := h0
  clear h0 hown hgrow hi hz0 hz1 hz2
  go_loopw [5] (fun i wr => ∃ k : Nat, k ≤ 64 ∧ i = .int .i64 k ∧ Own wr w.heap.size w.heap.size 64 (part rs k) ∧ Below w.heap.size w wr) (fun i _ => 64 - (intOf i).toNat)
  case atStart => exact ⟨0, Nat.zero_le _, rfl, H0.out, hbw⟩
  case round =>
    obtain ⟨k, hk, rfl, hown, hbel⟩ := hrel
    have HO : Hid (Own wr w.heap.size w.heap.size 64 (part rs k)) := hown
    have HBE : Hid (Below w.heap.size w wr) := hbel
    clear hown hbw H0
    by_cases hlt : k < 64
    · have hpl : (part rs k).length = 64 := by rw [part_len _ _ (by rw [HL.out.1]; omega)]; exact HL.out.1
      have hlt' : (k : Int) < 64 := by omega
      have hsrc : wr.cell? ⟨b, off + 1, none⟩ = some (.int .u8 z) := (hbel.cell (p := ⟨b, off + 1, none⟩) hbl).trans c1
      have hdst := HO.out.cell k (by omega)
      have hfz := HO.out.frozen k
      have R := HO.out.store k (rs.getD k 0) (by rw [HL.out.2.1 k hlt]; exact HZ.out.1)
      rw [part_set _ _ (by rw [HL.out.1]; exact hlt), HL.out.2.1 k hlt] at R
      have HR : Hid (Own (wr.setCell ⟨w.heap.size, k, none⟩ (.int .u8 z)) w.heap.size w.heap.size 64 (part rs (k + 1))) := R
      have hbel' := hbel.setCell (p := ⟨w.heap.size, k, none⟩) (Nat.le_refl _) (.int .u8 z)
      have HB : Hid (Below w.heap.size w (wr.setCell ⟨w.heap.size, k, none⟩ (.int .u8 z))) := hbel'
      clear R hpl hbel' hbel
      go_wp2
      go_roundw
      case rel => exact ⟨k + 1, by omega, by go_num, by simpa using HR.out, by simpa using HB.out⟩
      case measure => simp [intOf]; omega
    · have hkn : k = 64 := by omega
      subst hkn
      have hall := HO.out
      rw [← HL.out.1, part_all, HL.out.1] at hall
      have HA : Hid (OVB wr w.heap.size (.slice (some ⟨w.heap.size, 0, none⟩) 64 64) rs) := by
        have := hall
        unfold Own at this
        rw [HL.out.1] at this
        unfold Hid OVB
        rw [HL.out.1]
        exact this
      clear hall hbel
      go_wp2
      go_ret2
      by_cases h64 : zs.length = 1
      · refine DcP.yes HBE.out rs (.slice (some ⟨w.heap.size, 0, none⟩) 64 64) ⟨HL.out.1, .inr (.inl ⟨rfl, h64, ?_⟩)⟩ HA.out (by simp [h64])
        obtain rfl : zt = [] := by
          have := HZ.out.2
          rw [this] at h64
          simpa using h64
        rw [HZ.out.2, dbl_one, HL.out.2.2]
      · refine DcP.no HBE.out ?_ (.slice (some ⟨w.heap.size, 0, none⟩) 64 64) ?_
        · rintro ⟨bs, h, ⟨h0, _⟩ | ⟨_, h0, _⟩ | ⟨h0, _⟩⟩
          · omega
          · exact h64 h0
          · omega
        · have h9 : ¬ (zs.length : Int) + 1 = 2 := by omega
          simp [h9]
end Go.Proofs.YtjeippleimlljaaGreatDoor
namespace Go.Proofs.YtjeippleimlljaaGreatDoor
open Go.RowKit
set_option linter.unusedVariables false
set_option linter.unusedSimpArgs false

/-- What l5read answers of n bits of the number V. -/
def RdR (n V m : Nat) (w : World) (e : Ending) (w' : World) : Prop := Below w.heap.size w w' ∧
  ((∃ ts M U a1 c1 a2 c2, RdS n V m ts M U ∧ e = .returned (.tuple #[.slice a1 ts.length c1, .agg #[.slice a2 (enc M U).length c2, .int .i64 (M : Nat)], .bool true]) ∧ MinI w' w.heap.size w'.heap.size a1 c1 ts ∧ Mine w' w.heap.size w'.heap.size a2 c2 (enc M U)) ∨
   ((¬ ∃ ts M U, RdS n V m ts M U) ∧ ∃ v a2 l2 c2 M, e = .returned (.tuple #[v, .agg #[.slice a2 l2 c2, .int .i64 M], .bool false])))
/-- The same, told of its parts. -/
def RdF (n V m : Nat) (w w' : World) (v : Value) (a2 : Option Addr) (l2 c2 : Nat) (M : Int) (t : Bool) : Prop := Below w.heap.size w w' ∧
  ((t = true ∧ ∃ ts N U a1 c1, RdS n V m ts N U ∧ M = (N : Nat) ∧ v = .slice a1 ts.length c1 ∧ l2 = (enc N U).length ∧ MinI w' w.heap.size w'.heap.size a1 c1 ts ∧ Mine w' w.heap.size w'.heap.size a2 c2 (enc N U)) ∨ (t = false ∧ ¬ ∃ ts M U, RdS n V m ts M U))
theorem RdR.form {n V m : Nat} {w w' : World} {e : Ending} (h : RdR n V m w e w') : ∃ v a2 l2 c2 M t, e = .returned (.tuple #[v, .agg #[.slice a2 l2 c2, .int .i64 M], .bool t]) ∧ Hid (RdF n V m w w' v a2 l2 c2 M t) := by
  obtain ⟨hb, ⟨ts, M, U, a1, c1, a2, c2, h1, rfl, h2, h3⟩ | ⟨h1, v, a2, l2, c2, M, rfl⟩⟩ := h
  · exact ⟨_, a2, _, c2, _, true, rfl, ⟨hb, .inl ⟨rfl, ts, M, U, a1, c1, h1, rfl, rfl, rfl, h2, h3⟩⟩⟩
  · exact ⟨v, a2, l2, c2, M, false, rfl, ⟨hb, .inr ⟨rfl, h1⟩⟩⟩
theorem RdF.late {n V m : Nat} {w w' : World} {v : Value} {a2 : Option Addr} {l2 c2 : Nat} {M : Int} {t : Bool} (h : Hid (RdF n V m w w' v a2 l2 c2 M t)) (Y : Nat) :
    (Y < w.heap.size ∧ w.cell? ⟨Y, 0, none⟩ = some (.slice none 0 0) ∧ w.cell? ⟨Y, 1, none⟩ = some (.int .i64 0) ∧ w.frozen? ⟨Y, 0, none⟩ = false ∧ w.frozen? ⟨Y, 1, none⟩ = false) →
      w'.cell? ⟨Y, 0, none⟩ = some (.slice none 0 0) ∧ w'.cell? ⟨Y, 1, none⟩ = some (.int .i64 0) ∧ w'.frozen? ⟨Y, 0, none⟩ = false ∧ w'.frozen? ⟨Y, 1, none⟩ = false := by
  rintro ⟨h0, h1, h2, h3, h4⟩
  exact ⟨keep h.out.1 h0 h1, keep h.out.1 h0 h2, (h.out.1.frozen (p := ⟨Y, 0, none⟩) h0).trans h3, (h.out.1.frozen (p := ⟨Y, 1, none⟩) h0).trans h4⟩
def RdC : Prop := ∀ (n V m : Nat) (a : Option Addr) (cap : Nat) (w : World), n ≤ 4096 → V < 2 ^ n → (m = 2 ∨ m = 3) → Byt w a (enc n V) →
  Calls Tryz.prog 38 #[.agg #[.slice a (enc n V).length cap, .int .i64 (n : Nat)], .int .i64 m] w (RdR n V m w)

set_option maxRecDepth 20000 in
set_option maxHeartbeats 4000000 in
theorem l5decode_symN (a : Option Addr) (cap m : Nat) (zs : List Int) (w : World) (hm : m = 2 ∨ m = 3) (hb : Byt w a ((m : Int) :: zs)) (h1 : 1 ≤ zs.length) (h2 : zs.length ≤ 64) (hcap : zs.length + 1 ≤ cap) (hO : OpnW zs none) :
    Calls Tryz.prog 30 #[.slice a (zs.length + 1) cap] w (DcP none m zs w) := by
  obtain ⟨b, off, rfl, hbl, c0, hbt, hm0, hm1⟩ := hb.head1
  have HC := hO.1 _ (cap - 1) w (by omega) hbt
  have HN : Hid (¬ ∃ bs, RbY none m zs bs) := by
    rintro ⟨bs, -, ⟨h0, _⟩ | ⟨h0, _⟩ | ⟨_, q, hq, _⟩⟩
    · omega
    · omega
    · cases hq
  clear hb hbt hO
  have g1 : ¬ ((zs.length : Int) + 1 < 2) := by omega
  have g2 : ¬ ((65 : Int) < (zs.length : Int) + 1) := by omega
  have g3 : (0 : Int) < (zs.length : Int) + 1 := by omega
  have g6 : (1 : Int) ≤ (zs.length : Int) + 1 := by omega
  have g4 : ¬ cap = 1 := by omega
  have g5 : ¬ cap = 0 := by omega
  go_enter Tryz.func30, Tryz.ntmps30
  rcases hm with rfl | rfl
  all_goals
    simp only [Int.cast_ofNat_Int] at c0
    go_wp2_with fail
    refine HC.mono ?_
    clear HC
    rintro e w1 ⟨a', l, cp, M, rfl, hb1⟩
    have HB : Hid (Below w.heap.size w w1) := hb1
    have hz1 := hb1.size
    clear hb1
    go_wp2
    go_ret2
    refine DcP.no ?_ HN.out _ rfl
    have hbb := HB.out
    repeat (first | exact hbb | refine Below.setCell ?_ (by first | exact hz1 | (simp; omega)) _ | refine Below.alloc ?_ (by first | exact hz1 | (simp; omega)) _)
end Go.Proofs.YtjeippleimlljaaGreatDoor
