/-
  The draws: numbers below a bound, once in so often, one of a list; a new cursor.
-/
import Derived.Test.YtojnomdlkihgmaaGreatDoorPcN
import Derived.Test.YtojnomdlkihgmaaGreatDoorRbI
import Derived.Test.YtojnomdlkihgmaaGreatDoorCut
import Derived.Test.YtojnomdlkihgmaaGreatDoorOpen3
import Derived.Test.YtojnomdlkihgmaaGreatDoorOsI
import Derived.Test.YtojnomdlkihgmaaGreatDoorSyM
import Derived.Test.YtojnomdlkihgmaaGreatDoorITxtI
import Derived.Laws.BytesArg
import Derived.Laws.BitsAllLaws
import Derived.BigQuiet
namespace Go.Proofs.YtojnomdlkihgmaaGreatDoor
open Go.RowKit
set_option linter.unusedVariables false
set_option linter.unusedSimpArgs false

theorem Byt.head1 {w : World} {a : Option Addr} {z : Int} {zs : List Int} (h : Byt w a (z :: zs)) : ∃ b off, a = some ⟨b, off, none⟩ ∧ b < w.heap.size ∧ w.cell? ⟨b, off, none⟩ = some (.int .u8 z) ∧ Byt w (some ⟨b, off + 1, none⟩) zs ∧ 0 ≤ z ∧ z ≤ 255 := by
  obtain ⟨b, off, rfl, hb, hc⟩ := h.2 (by simp)
  have hz := h.1 z (by simp)
  refine ⟨b, off, rfl, hb, by simpa using hc 0 (by simp), ⟨fun x hx => h.1 x (by simp [hx]), fun _ => ⟨b, off + 1, rfl, hb, fun i hi => ?_⟩⟩, hz⟩
  have := hc (i + 1) (by simp; omega)
  rw [show off + 1 + i = off + (i + 1) by omega, this]
  simp

set_option maxRecDepth 20000 in
set_option maxHeartbeats 4000000 in
theorem readBlob_any (a : Option Addr) (cap m : Nat) (zs : List Int) (o : Option (Nat × Nat)) (w : World) (hb : Byt w a ((m : Int) :: zs)) (h1 : 1 ≤ zs.length) (h2 : zs.length ≤ 64) (hcap : zs.length + 1 ≤ cap) (hO : OpnP zs o) (hS : SentB w) :
    Calls Tryz.prog 32 #[.slice a (zs.length + 1) cap] w fun e w' => Below w.heap.size w w' ∧
      ((∃ bs v, RbY o m zs bs ∧ OVB w' w.heap.size v bs ∧ e = .returned (.tuple #[v, .nilIface])) ∨ ((¬ ∃ bs, RbY o m zs bs) ∧ ∃ T x v, e = .returned (.tuple #[v, .iface T x]))) := by
  obtain ⟨b, off, rfl, hbl, c0, hbt, hm0, hm1⟩ := hb.head1
  have HRB : Hid (Calls Tryz.prog 36 #[.int .i64 m, .slice (some ⟨b, off + 1, none⟩) zs.length (cap - 1)] w.drew fun e w' => Below w.drew.heap.size w.drew w' ∧
      ((∃ bs v, RbY o m zs bs ∧ OVB w' w.drew.heap.size v bs ∧ e = .returned (.tuple #[v, .nilIface])) ∨ ((¬ ∃ bs, RbY o m zs bs) ∧ ∃ T x v, e = .returned (.tuple #[v, .iface T x])))) :=
    readBlock_any m _ _ zs o w.drew (hbt.drewN 1) h1 h2 hO (hS.below ((Below.refl _ _).drew))
  clear hb hbt hO hS
  have g1 : ¬ ((zs.length : Int) + 1 < 2) := by omega
  have g2 : ¬ ((65 : Int) < (zs.length : Int) + 1) := by omega
  have g3 : IntKind.i64.wrap (m : Int) = m := by rw [IntKind.wrap_i64]; omega
  have g6 : (1 : Int) ≤ (zs.length : Int) + 1 := by omega
  have g4 : ¬ cap = 1 := by omega
  have g5 : ¬ cap = 0 := by omega
  go_enter Tryz.func32, Tryz.ntmps32
  go_wp2_with fail
  refine wp_region_cut (S := fun W => W.cell? ⟨b, off, none⟩ = some (.int .u8 m)) 12 (by kernel_rfl) (by kernel_rfl) (by exact c0) (fun hHeld => ?_)
  refine tk 0 (v := ?_) ?_ ?_
  rotate_left 1
  · (intro w hSw; (try dsimp only at hSw); go_simp; try (with_reducible rfl))
  try simp only [tkS]
  refine tk 1 (v := ?_) ?_ ?_
  rotate_left 1
  · (intro w hSw; (try dsimp only at hSw); go_simp; try (with_reducible rfl))
  try simp only [tkS]
  refine tk 2 (v := ?_) ?_ ?_
  rotate_left 1
  · (intro w hSw; (try dsimp only at hSw); go_simp; try (with_reducible rfl))
  try simp only [tkS]
  refine tk 3 (v := ?_) ?_ ?_
  rotate_left 1
  · (intro w hSw; (try dsimp only at hSw); go_simp; try (with_reducible rfl))
  try simp only [tkS]
  refine tk 4 (v := ?_) ?_ ?_
  rotate_left 1
  · (intro w hSw; (try dsimp only at hSw); go_simp; try (with_reducible rfl))
  try simp only [tkS]
  refine tk 5 (v := ?_) ?_ ?_
  rotate_left 1
  · (intro w hSw; (try dsimp only at hSw); go_simp; try (with_reducible rfl))
  try simp only [tkS]
  refine wpAnyH_ready (rs := [6]) (by kernel_rfl) (by simp) ?_
  refine AllReadyH.cons rfl (fun K hK => ?_) AllReadyH.nil
  go_simp
  refine (HRB.out).mono ?_
  rintro e w1 ⟨hb1', hd⟩
  have hb1 : Below w.heap.size w w1 := Below.drewS hb1'
  obtain ⟨v, er, rfl, hd2⟩ : ∃ v er, e = .returned (.tuple #[v, er]) ∧ ((er = .nilIface ∧ ∃ bs, RbY o m zs bs ∧ OVB w1 w.heap.size v bs) ∨ ((¬ ∃ bs, RbY o m zs bs) ∧ ∃ T x, er = .iface T x)) := by
    rcases hd with ⟨bs, v, h1, h2, rfl⟩ | ⟨h1, T, x, v, rfl⟩
    · exact ⟨v, _, rfl, .inl ⟨rfl, bs, h1, h2⟩⟩
    · exact ⟨v, _, rfl, .inr ⟨h1, T, x, rfl⟩⟩
  have HD : Hid ((er = .nilIface ∧ ∃ bs, RbY o m zs bs ∧ OVB w1 w.heap.size v bs) ∨ ((¬ ∃ bs, RbY o m zs bs) ∧ ∃ T x, er = .iface T x)) := hd2
  have HB1 : Hid (Below w.heap.size w w1) := hb1
  have HK : Hid (w1.cell? ⟨b, off, none⟩ = some (.int .u8 m)) := keep hb1 hbl c0
  clear hd hd2 hb1 hb1'
  dsimp only
  refine hK.out _ _ (by exact HK.out) (fun hHeld => ?_)
  clear hK K
  try simp only [tkS]
  refine tk 7 (v := ?_) ?_ ?_
  rotate_left 1
  · (intro w hSw; (try dsimp only at hSw); go_simp; try (with_reducible rfl))
  try simp only [tkS]
  refine tk 8 (v := ?_) ?_ ?_
  rotate_left 1
  · (intro w hSw; (try dsimp only at hSw); go_simp; try (with_reducible rfl))
  try simp only [tkS]
  refine tk 9 (v := ?_) ?_ ?_
  rotate_left 1
  · (intro w hSw; (try dsimp only at hSw); go_simp; try (with_reducible rfl))
  try simp only [tkS]
  refine tk 10 (v := ?_) ?_ ?_
  rotate_left 1
  · (intro w hSw; (try dsimp only at hSw); go_simp; try (with_reducible rfl))
  try simp only [tkS]
  refine tk 11 (v := ?_) ?_ ?_
  rotate_left 1
  · (intro w hSw; (try dsimp only at hSw); go_simp; try (with_reducible rfl))
  try simp only [tkS]
  refine wpAnyH_done (by kernel_rfl) ?_ _
  simp only [cutQ, List.drop_succ_cons, List.drop_zero]
  rcases HD.out with ⟨rfl, bs, hy, hov⟩ | ⟨hno, T, x, rfl⟩
  · have HO : Hid (RbY o m zs bs ∧ OVB w1 w.heap.size v bs) := ⟨hy, hov⟩
    obtain ⟨va, vc, rfl⟩ := hov.form
    clear hy hov HD HRB
    go_wp2
    go_ret2
    exact ⟨HB1.out, .inl ⟨bs, _, HO.out.1, HO.out.2, rfl⟩⟩
  · have HN : Hid (¬ ∃ bs, RbY o m zs bs) := hno
    have hz1 := HB1.out.size
    clear hno HD HRB
    go_wp2
    go_ret2
    exact ⟨HB1.out.alloc (by omega) _, .inr ⟨HN.out, _, _, _, rfl⟩⟩

set_option maxRecDepth 20000 in
set_option maxHeartbeats 4000000 in
theorem readBlob_no (a : Option Addr) (cap n : Nat) (w : World) (hn : n < 2 ∨ 65 < n) (hS : SentB w) :
    Calls Tryz.prog 32 #[.slice a n cap] w fun e w' => Below w.heap.size w w' ∧ ∃ T x v, e = .returned (.tuple #[v, .iface T x]) := by
  obtain ⟨T, x, hc⟩ := hS.b3
  have hl1 := hS.hB
  clear hS
  go_enter Tryz.func32, Tryz.ntmps32
  rcases hn with hn | hn
  · have g1 : (n : Int) < 2 := by omega
    go_wp2
    go_region
    all_goals
      go_wp2
      go_ret2
      exact ⟨((Below.refl w.heap.size w).drew).alloc (by simp) _, _, _, _, rfl⟩
  · have g1 : ¬ (n : Int) < 2 := by omega
    have g2 : (65 : Int) < n := by omega
    go_wp2
    go_region
    all_goals
      go_wp2
      go_ret2
      exact ⟨((Below.refl w.heap.size w).drew).alloc (by simp) _, _, _, _, rfl⟩

set_option maxRecDepth 20000 in
set_option maxHeartbeats 1000000 in
theorem decodeI_any (a : Option Addr) (cap m : Nat) (zs : List Int) (o : Option (Nat × Nat)) (w : World) (hb : Byt w a ((m : Int) :: zs)) (h1 : 1 ≤ zs.length) (h2 : zs.length ≤ 64) (hcap : zs.length + 1 ≤ cap) (hO : OpnP zs o) (hS : SentB w) :
    Calls Tryz.prog 21 #[.slice a (zs.length + 1) cap] w fun e w' => Below w.heap.size w w' ∧
      ((∃ bs v, RbY o m zs bs ∧ OVB w' w.heap.size v bs ∧ e = .returned (.tuple #[v, .bool true])) ∨ ((¬ ∃ bs, RbY o m zs bs) ∧ e = .returned (.tuple #[.slice none 0 0, .bool false]))) := by
  have HR := readBlob_any a cap m zs o w hb h1 h2 hcap hO hS
  clear hb hO hS
  go_enter Tryz.func21, Tryz.ntmps21
  go_wp2_with fail
  refine HR.mono ?_
  clear HR
  rintro e w1 ⟨hb1, ⟨bs, v, hy, hov, rfl⟩ | ⟨hno, T, x, v, rfl⟩⟩
  · have HO : Hid (RbY o m zs bs ∧ OVB w1 w.heap.size v bs ∧ Below w.heap.size w w1) := ⟨hy, hov, hb1⟩
    obtain ⟨va, vc, rfl⟩ := hov.form
    clear hy hov hb1
    go_wp2
    go_ret2
    exact ⟨HO.out.2.2, .inl ⟨bs, _, HO.out.1, HO.out.2.1, rfl⟩⟩
  · have HO : Hid ((¬ ∃ bs, RbY o m zs bs) ∧ Below w.heap.size w w1) := ⟨hno, hb1⟩
    clear hno hb1
    go_wp2
    go_ret2
    exact ⟨HO.out.2, .inr ⟨HO.out.1, rfl⟩⟩

set_option maxHeartbeats 1000000 in
theorem decodeI_no (a : Option Addr) (cap n : Nat) (w : World) (hn : n < 2 ∨ 65 < n) (hS : SentB w) :
    Calls Tryz.prog 21 #[.slice a n cap] w fun e w' => Below w.heap.size w w' ∧ e = .returned (.tuple #[.slice none 0 0, .bool false]) := by
  have HR := readBlob_no a cap n w hn hS
  clear hS
  go_enter Tryz.func21, Tryz.ntmps21
  go_wp2_with fail
  refine HR.mono ?_
  clear HR
  rintro e w1 ⟨hb1, T, x, v, rfl⟩
  have HO : Hid (Below w.heap.size w w1) := hb1
  clear hb1
  go_wp2
  go_ret2
  exact ⟨HO.out, rfl⟩
theorem Mine.capBl {w : World} {B U : Nat} {a : Option Addr} {c : Nat} {zs : List Int} (h : Mine w B U a c zs) : zs.length ≤ c := by
  rcases h with ⟨_, rfl, _⟩ | ⟨g, _, _, _, ho⟩
  · simp
  · rcases ho.1.2 with ⟨e, e2⟩ | ⟨_, _, _, e, _, _, h1, h2, _⟩
    · simp at e
    · simp at e
      omega
theorem dbl_noughts : dbl [0] 6 = List.replicate 64 0 := by decide
theorem rby_noughts {o : Option (Nat × Nat)} {bs : List Int} : RbY o 1 [0] bs ↔ bs = List.replicate 64 0 := by
  unfold RbY
  rw [dbl_noughts]
  constructor
  · rintro ⟨h, ⟨h1, _⟩ | ⟨_, _, rfl⟩ | ⟨h1, _⟩⟩
    · omega
    · rfl
    · omega
  · rintro rfl
    exact ⟨by simp, .inr (.inl ⟨rfl, rfl, rfl⟩)⟩

set_option maxRecDepth 20000 in
set_option maxHeartbeats 4000000 in
theorem blobs_any (w : World) (hE : SentE w) (hD : SentB w) :
    Calls Tryz.prog 7 #[] w fun e w' => e = .returned (.bool true) ∧ Below w.heap.size w w' := by
  obtain ⟨i0, hi, hz0, hz1, hz2⟩ := info_parts Tryz.infoU8
  obtain ⟨rs, hrs⟩ : ∃ rs : List Int, rs = List.replicate 64 0 := ⟨_, rfl⟩
  have HL : Hid (rs.length = 64 ∧ rs = List.replicate 64 0) := ⟨by rw [hrs, List.length_replicate], hrs⟩
  have HS : Hid (SentE w ∧ SentB w) := ⟨hE, hD⟩
  clear hrs hE hD
  go_enter Tryz.func7, Tryz.ntmps7
  go_wp2_with (at_make; refine wpList_make_full _ rfl _ _ 22 rfl w.heap.size 5 i0 (.int .u8 0) 1 Tryz.underlying22 hi hz0 hz1 .i64 .i64 _ _ 64 rfl rfl rfl rfl (by rw [hz2]; omega) (by unfold maxLen; omega) (Nat.le_refl _) ?_; intro w1 hown hgrow)
  have h0 : Own w1 w.heap.size w.heap.size 64 (part rs 0) := by
    rw [part_zero, HL.out.1]
    refine ⟨?_, by intro z hz; simp at hz; omega⟩
    rw [made_zero] at hown
    simpa using hown
  rw [part_zero, HL.out.1, ← HL.out.2] at h0
  have hbw : Below w.heap.size w w1 := (Below.refl _ _).grown hgrow (Nat.le_refl _) (by intro k hk; cases hk)
  have HB1 : Hid (Below w.heap.size w w1) := hbw
  have HEN : Hid (Calls Tryz.prog 20 #[.slice (some ⟨w.heap.size, 0, none⟩) 64 64] w1 fun e w' => pkA w1 w' (some [1, 0]) e) := by
    have h := implEncode_any (some ⟨w.heap.size, 0, none⟩) 64 rs w1 h0.mine.byt (by have := HL.out.1; omega) (HS.out.1.below hbw)
    rw [HL.out.1, HL.out.2, enO_noughts] at h
    exact h
  clear h0 hbw hown hgrow hi hz0 hz1 hz2
  go_wp2_with fail
  refine HEN.out.mono ?_
  clear HEN
  rintro e w2 ⟨⟨a2, c2, rfl, hm2⟩, hb2⟩
  simp only [Option.getD_some, Option.isSome_some] at hm2 ⊢
  have hb02 := HB1.out.trans (hb2.mono HB1.out.size)
  obtain ⟨o, ho⟩ := opnP [0] (by simp) (by simp)
  have HB2 : Hid (Below w.heap.size w w2) := hb02
  have HDC := decodeI_any a2 c2 1 [0] o w2 hm2.byt (by simp) (by simp) hm2.capBl ho (HS.out.2.below hb02)
  clear hm2 hb2 hb02 HB1 ho
  simp only [rby_noughts] at HDC
  go_wp2_with fail
  refine HDC.mono ?_
  clear HDC
  rintro e w3 ⟨hb3, ⟨bs, v, rfl, hov, rfl⟩ | ⟨hno, rfl⟩⟩
  · obtain ⟨va, vc, rfl⟩ := hov.form
    have hbb := hov.byt
    rw [List.length_replicate] at *
    obtain ⟨b, off, rfl, hbl, hc⟩ := hbb.2 (by simp)
    have h9 : w3.cell? ⟨b, off + 9, none⟩ = some (.int .u8 0) := hc 9 (by simp)
    have HB3 : Hid (Below w.heap.size w w3) := HB2.out.trans (hb3.mono HB2.out.size)
    clear hc hbb hov hb3 HB2
    go_wp2
    go_ret
    exact ⟨rfl, HB3.out⟩
  · exact absurd ⟨_, rfl⟩ hno
theorem getD_app_l {xs ys : List Int} {q : Nat} (h : q < xs.length) : (xs ++ ys).getD q 0 = xs.getD q 0 := by
  rw [List.getD_eq_getElem?_getD, List.getElem?_append_left h, ← List.getD_eq_getElem?_getD]
theorem getD_app_r {xs ys : List Int} {j : Nat} : (xs ++ ys).getD (xs.length + j) 0 = ys.getD j 0 := by
  rw [List.getD_eq_getElem?_getD, List.getElem?_append_right (by omega), show xs.length + j - xs.length = j by omega, ← List.getD_eq_getElem?_getD]
theorem rep_pre (b : List Int) (d : Nat) : ∀ k q, q < b.length → (rep b d k).getD q 0 = b.getD q 0
  | 0, q, h => rfl
  | k + 1, q, h => by
    simp only [rep]
    rw [getD_app_l (by rw [rep_len]; omega)]
    exact rep_pre b d k q h
theorem rep_mono (b : List Int) (d : Nat) (k : Nat) : ∀ e q, q < b.length + k → (rep b d (k + e)).getD q 0 = (rep b d k).getD q 0
  | 0, q, h => rfl
  | e + 1, q, h => by
    rw [← Nat.add_assoc]
    simp only [rep]
    rw [getD_app_l (by rw [rep_len]; omega)]
    exact rep_mono b d k e q h
theorem rep_at (b : List Int) (d k j : Nat) (hj : j < k) (h1 : 1 ≤ d) (h2 : d ≤ b.length + j) : (rep b d k).getD (b.length + j) 0 = (rep b d k).getD (b.length + j - d) 0 := by
  obtain ⟨e, rfl⟩ : ∃ e, k = (j + 1) + e := ⟨k - (j + 1), by omega⟩
  rw [rep_mono b d (j + 1) e _ (by omega), rep_mono b d (j + 1) e _ (by omega)]
  simp only [rep]
  have hl := rep_len b d j
  rw [getD_app_l (q := b.length + j - d) (by omega), ← hl, show (rep b d j).length = (rep b d j).length + 0 by omega, getD_app_r]
  rfl
theorem exb_grow (ss : List Sq) (k : Nat) : ∀ e, (exb ss k).length ≤ (exb ss (k + e)).length ∧ ∀ q, q < (exb ss k).length → (exb ss (k + e)).getD q 0 = (exb ss k).getD q 0
  | 0 => ⟨Nat.le_refl _, fun q h => rfl⟩
  | e + 1 => by
    obtain ⟨h1, h2⟩ := exb_grow ss k e
    rw [← Nat.add_assoc]
    simp only [exb]
    refine ⟨by rw [rep_len, List.length_append]; omega, fun q h => ?_⟩
    rw [rep_pre _ _ _ _ (by rw [List.length_append]; omega), getD_app_l (by omega)]
    exact h2 q h
theorem sqn_pos {ss : List Sq} {m : Nat} (h : sqn ss = some m) (k : Nat) (hk : k < ss.length) : 0 < (ss.getD k dq).ls.length + (ss.getD k dq).n.toNat := by
  unfold sqn at h
  split at h
  · cases h
  · cases h1 : sqc ss (k + 1) with
    | none => rw [sqc_none h1 _ (by omega)] at h; cases h
    | some m1 =>
      simp only [sqc, Option.bind_eq_some_iff] at h1
      obtain ⟨m0, g1, g2⟩ := h1
      unfold stp at g2
      split at g2
      · cases g2
      · split at g2
        · split at g2
          · omega
          · cases g2
        · split at g2
          · omega
          · cases g2
/-- What there is of the sequence k in the whole. -/
structure ExP (ss : List Sq) (B : List Int) (k : Nat) : Prop where
  next : (exb ss k).length + (ss.getD k dq).ls.length + (ss.getD k dq).n.toNat = (exb ss (k + 1)).length
  le : (exb ss (k + 1)).length ≤ B.length
  n0 : 0 ≤ (ss.getD k dq).n
  pos : 0 < (ss.getD k dq).ls.length + (ss.getD k dq).n.toNat
  lits : cutL B (exb ss k).length ((exb ss k).length + (ss.getD k dq).ls.length) = (ss.getD k dq).ls
  piece : ∀ j, j < (ss.getD k dq).n.toNat → ∃ d : Nat, (ss.getD k dq).d = (d : Int) ∧ 1 ≤ d ∧ d ≤ (exb ss k).length + (ss.getD k dq).ls.length + j ∧ B.getD ((exb ss k).length + (ss.getD k dq).ls.length + j) 0 = B.getD ((exb ss k).length + (ss.getD k dq).ls.length + j - d) 0
theorem exP {ss : List Sq} {m : Nat} (h : sqn ss = some m) (k : Nat) (hk : k < ss.length) : ExP ss (exb ss ss.length) k := by
  obtain ⟨h1, h2, h3, h4⟩ := sqn_at h
  have ha := h4 k hk
  obtain ⟨e, he⟩ : ∃ e, ss.length = k + 1 + e := ⟨ss.length - (k + 1), by omega⟩
  obtain ⟨g1, g2⟩ := exb_grow ss (k + 1) e
  rw [← he] at g1 g2
  have hnx : (exb ss (k + 1)).length = (exb ss k).length + (ss.getD k dq).ls.length + (ss.getD k dq).n.toNat := by simp only [exb]; rw [rep_len, List.length_append]
  have hin : ∀ q, q < (exb ss (k + 1)).length → (exb ss ss.length).getD q 0 = (rep (exb ss k ++ (ss.getD k dq).ls) (ss.getD k dq).d.toNat (ss.getD k dq).n.toNat).getD q 0 := g2
  refine ⟨hnx.symm, g1, ha.hn, sqn_pos h k hk, ?_, fun j hj => ?_⟩
  · refine List.ext_getElem? fun j => ?_
    unfold cutL
    rw [List.getElem?_take]
    split
    · rename_i hj
      rw [List.getElem?_drop]
      have hq := hin ((exb ss k).length + j) (by omega)
      rw [rep_pre _ _ _ _ (by rw [List.length_append]; omega), getD_app_r] at hq
      rw [List.getD_eq_getElem?_getD, List.getD_eq_getElem?_getD, List.getElem?_eq_getElem (by omega), List.getElem?_eq_getElem (by omega)] at hq
      rw [List.getElem?_eq_getElem (by omega), List.getElem?_eq_getElem (by omega)]
      simpa using hq
    · rename_i hj
      rw [List.getElem?_eq_none (by omega)]
  · have h0 : 0 < (ss.getD k dq).n := by have := ha.hn; omega
    obtain ⟨d1, d2⟩ := ha.hd h0
    refine ⟨(ss.getD k dq).d.toNat, by omega, by omega, by omega, ?_⟩
    rw [hin _ (by omega), hin _ (by omega)]
    have := rep_at (exb ss k ++ (ss.getD k dq).ls) (ss.getD k dq).d.toNat (ss.getD k dq).n.toNat j hj (by omega) (by rw [List.length_append]; omega)
    rw [List.length_append] at this
    exact this
theorem conv_bytes (w : World) (a : Option Addr) (c : Nat) (zs : List Int) (hb : Byt w a zs) : (convert 22 9 (.slice a zs.length c)).run Tryz.prog w = .ok (.string (strOfNums zs)) w := by
  rcases Nat.eq_zero_or_pos zs.length with h0 | h0
  · obtain rfl : zs = [] := List.eq_nil_of_length_eq_zero h0
    cases a with
    | none => exact run_convert_bytes_nil (P := Tryz.prog) w 22 5 Tryz.underlying22 Tryz.underlying5 0 c 9 Tryz.underlying9
    | some x =>
      show (convert 22 9 (.slice (some x) 0 c)).run Tryz.prog w = _
      rw [run_convert_bytes_string w 22 9 5 _ _ c Tryz.underlying22 Tryz.underlying5 Tryz.underlying9, run_bytesToString w x 0 c [] (by simp [loadCells, loadCellsFrom])]
      rfl
  · obtain ⟨b, off, rfl, _, hc⟩ := hb.2 h0
    exact run_convert_bytes_arg (P := Tryz.prog) w 22 5 Tryz.underlying22 Tryz.underlying5 b off zs.length c zs rfl hc 9 Tryz.underlying9

set_option maxHeartbeats 800000 in
theorem same_yes (a b : Option Addr) (ca cb : Nat) (zs : List Int) (w : World) (ha : Byt w a zs) (hb : Byt w b zs) :
    Calls Tryz.prog 10 #[.slice a zs.length ca, .slice b zs.length cb] w fun e w' => e = .returned (.bool true) ∧ w' = w := by
  have h1 := conv_bytes w a ca zs ha
  have h2 := conv_bytes w b cb zs hb
  generalize strOfNums zs = S at *
  go_enter Tryz.func10, Tryz.ntmps10
  go_wp2
  go_ret
  exact ⟨rfl, rfl⟩

theorem ins_newN (W : World) (T : TypeId) (zs : List Int) (hr : ∀ z ∈ zs, -9223372036854775808 ≤ z ∧ z ≤ 9223372036854775807) : Ins (W.alloc (.cells (zs.map (Value.int .i64)).toArray T)) (some ⟨W.heap.size, 0, none⟩) zs := by
  refine ⟨hr, fun hp => ⟨W.heap.size, 0, rfl, by simp, fun i hi => ?_⟩⟩
  rw [Nat.zero_add, cell_of_row _ W.heap.size i _ T (0, 0) (heap_alloc_new W _)]
  simp [hi]
theorem and255 (y : Int) : 0 ≤ bits .and .i64 y 255 ∧ bits .and .i64 y 255 ≤ 255 := by
  have h : bits .and .i64 y 255 = IntKind.i64.wrap ((BitVec.ofInt 64 y &&& BitVec.ofInt 64 255).toNat : Int) := rfl
  rw [h, BitVec.toNat_and]
  have h2 : (BitVec.ofInt 64 y).toNat &&& (BitVec.ofInt 64 255).toNat ≤ 255 := Nat.le_trans Nat.and_le_right (by decide)
  generalize (BitVec.ofInt 64 y).toNat &&& (BitVec.ofInt 64 255).toNat = q at *
  rw [IntWalk.i64_in _ (by omega)]
  omega

/-- A cursor at R over the bytes that lie at a. -/
def Cur (w : World) (B R : Nat) (a : Option Addr) (L cap : Nat) : Prop := ∃ i h : Int, w.heap[R]? = some (.cells #[.slice a L cap, .int .i64 i, .int .i64 h] 52 (0, 0)) ∧ 0 ≤ i ∧ i ≤ L ∧ B ≤ R ∧ B ≤ w.heap.size
theorem cellC {w : World} {R j : Nat} {cur : Array Value} {T : TypeId} {v : Value} (hR : w.heap[R]? = some (.cells cur T (0, 0))) (hv : cur[j]? = some v) : w.cell? ⟨R, j, none⟩ = some v := by
  rw [cell_of_row w R j cur T (0, 0) hR]; exact hv
theorem Cur.only {w w' : World} {B R : Nat} {a : Option Addr} {L cap : Nat} {S : Nat → Prop} (h : Cur w B R a L cap) (ho : Only S w w') (hs : ¬ S R) : Cur w' B R a L cap := by
  obtain ⟨i, x, hR, h1, h2, h3, h4⟩ := h
  exact ⟨i, x, (ho.block R (Array.getElem?_eq_some_iff.1 hR).1 hs).trans hR, h1, h2, h3, Nat.le_trans h4 ho.size⟩
theorem Cur.lt {w : World} {B R : Nat} {a : Option Addr} {L cap : Nat} (h : Cur w B R a L cap) : B ≤ R ∧ R < w.heap.size := by
  obtain ⟨i, x, hR, h1, h2, h3, h4⟩ := h
  exact ⟨h3, (Array.getElem?_eq_some_iff.1 hR).1⟩
theorem only_below {w w' : World} {B R : Nat} (h : Only (fun k => k = R) w w') (hB : B ≤ w.heap.size) (hR : B ≤ R) : Below B w w' := h.below hB (fun k hk => by rw [hk]; exact hR)

set_option maxHeartbeats 1600000 in
theorem l1Byte_any (R B : Nat) (a : Option Addr) (bs : List Int) (cap : Nat) (w0 w : World) (hb : Byt w0 a bs) (hB : w0.heap.size = B) (hl : bs.length ≤ maxLen) (hbel : Below B w0 w) (hc : Cur w B R a bs.length cap) :
    Calls Tryz.prog 26 #[.pointer (some ⟨R, 0, none⟩)] w fun e w' => (∃ x : Int, 0 ≤ x ∧ x ≤ 255 ∧ e = .returned (.int .i64 x)) ∧ Cur w' B R a bs.length cap ∧ Only (fun k => k = R) w w' := by
  obtain ⟨i, h, hR, hi0, hi1, hBR, hBw⟩ := hc
  have hRl : R < w.heap.size := (Array.getElem?_eq_some_iff.1 hR).1
  have c0 := cellC (j := 0) hR rfl
  have c1 := cellC (j := 1) hR rfl
  have c2 := cellC (j := 2) hR rfl
  have f2 : w.frozen? ⟨R, 2, none⟩ = false := frozen_of_row w R 2 _ _ hR
  have HR : Hid (w.heap[R]? = some (.cells #[.slice a bs.length cap, .int .i64 i, .int .i64 h] 52 (0, 0))) := hR
  clear hR
  unfold maxLen at hl
  go_enter Tryz.func26, Tryz.ntmps26
  go_wp2
  clear c0 c1 c2 f2
  generalize wrap64 (wrap64 (h * 6364136223846793005) + 1442695040888963407) = h2
  have hR2 : (w.setCell ⟨R, 2, none⟩ (.int .i64 h2)).heap[R]? = some (.cells #[.slice a bs.length cap, .int .i64 i, .int .i64 h2] 52 (0, 0)) := by
    rw [heap_setCell_same _ R 2 _ _ _ HR.out]; simp
  have hO : Only (fun k => k = R) w (w.setCell ⟨R, 2, none⟩ (.int .i64 h2)) := Only.setCell (Only.refl (fun k => k = R) w) (p := ⟨R, 2, none⟩) (.inl rfl) _
  generalize w.setCell ⟨R, 2, none⟩ (.int .i64 h2) = W at *
  have hbW : Below B w0 W := hbel.trans (only_below hO hBw hBR)
  have c0 := cellC (j := 0) hR2 rfl
  have c1 := cellC (j := 1) hR2 rfl
  have c2 := cellC (j := 2) hR2 rfl
  have f1 : W.frozen? ⟨R, 1, none⟩ = false := frozen_of_row W R 1 _ _ hR2
  have HR2 : Hid (W.heap[R]? = some (.cells #[.slice a bs.length cap, .int .i64 i, .int .i64 h2] 52 (0, 0))) := hR2
  have HO : Hid (Only (fun k => k = R) w W) := hO
  have hsW := hO.size
  clear hR2 hO HR
  generalize hx : bits .and .i64 (bits .xor .i64 (h2 / 2 ^ 33) (h2 / 2 ^ 45)) 255 = x0
  by_cases hlt : i < bs.length
  · obtain ⟨q, rfl⟩ := Int.eq_ofNat_of_zero_le hi0
    obtain ⟨b1, o1, rfl, hb1, hc1⟩ := (hb.below hbW (by omega)).len_pos q (by omega)
    have hs1 := hc1 q (by omega)
    have hz := getD_rng hb.1 q
    clear hc1
    generalize bs.getD q 0 = z at *
    go_wp2
    go_quiet (fail)
    go_wp2
    go_quiet (fail)
    go_wp2
    go_quiet (fail)
    go_wp2
    go_ret
    have hB2 : B ≤ W.heap.size := by omega
    refine ⟨⟨_, (and255 _).1, (and255 _).2, rfl⟩, ⟨(q : Int) + 1, h2, by rw [heap_setCell_same _ R 1 _ _ _ (by exact HR2.out)]; simp, by omega, by omega, hBR, ?_⟩, ?_⟩
    · simp [World.setCell]; exact hB2
    · refine Only.setCell (S := fun k => k = R) (p := ⟨R, 1, none⟩) ?_ (.inl rfl) _
      have H := HO.out
      exact ⟨H.os, H.tape, H.output, H.size, H.block⟩
  · go_wp2
    go_quiet (fail)
    go_wp2
    go_quiet (fail)
    go_wp2
    go_ret
    have H := HO.out
    exact ⟨⟨_, (and255 _).1, (and255 _).2, rfl⟩, ⟨i, h2, HR2.out, hi0, hi1, hBR, by have := hsW; show B ≤ W.heap.size; omega⟩, ⟨H.os, H.tape, H.output, H.size, H.block⟩⟩
/-- What a draw finds and leaves. -/
structure Dr (w0 w : World) (B R : Nat) (a : Option Addr) (bs : List Int) (cap : Nat) : Prop where
  byt : Byt w0 a bs
  hB : w0.heap.size = B
  hl : bs.length ≤ maxLen
  bel : Below B w0 w
  cur : Cur w B R a bs.length cap
theorem Dr.step {w0 w w' : World} {B R : Nat} {a : Option Addr} {bs : List Int} {cap : Nat} (h : Dr w0 w B R a bs cap) (hc : Cur w' B R a bs.length cap) (ho : Only (fun k => k = R) w w') : Dr w0 w' B R a bs cap :=
  ⟨h.byt, h.hB, h.hl, h.bel.trans (only_below ho (by have := h.bel.size; have := h.hB; omega) h.cur.lt.1), hc⟩
theorem Dr.byte {w0 w : World} {B R : Nat} {a : Option Addr} {bs : List Int} {cap : Nat} (h : Dr w0 w B R a bs cap) :
    Calls Tryz.prog 26 #[.pointer (some ⟨R, 0, none⟩)] w fun e w' => (∃ x : Int, 0 ≤ x ∧ x ≤ 255 ∧ e = .returned (.int .i64 x)) ∧ Dr w0 w' B R a bs cap ∧ Only (fun k => k = R) w w' := by
  refine (l1Byte_any R B a bs cap w0 w h.byt h.hB h.hl h.bel h.cur).mono ?_
  rintro e w' ⟨hx, hc, ho⟩
  exact ⟨hx, h.step hc ho, ho⟩
/-- Another part of the heap has turned; the cursor stays. -/
theorem Dr.other {w0 w w' : World} {B R : Nat} {a : Option Addr} {bs : List Int} {cap : Nat} {S : Nat → Prop} (h : Dr w0 w B R a bs cap) (ho : Only S w w') (hs : ¬ S R) (hb : ∀ k, S k → B ≤ k) : Dr w0 w' B R a bs cap :=
  ⟨h.byt, h.hB, h.hl, h.bel.trans (ho.below (by have := h.bel.size; have := h.hB; omega) hb), h.cur.only ho hs⟩

set_option maxHeartbeats 800000 in
theorem Dr.below {w0 w : World} {B R : Nat} {a : Option Addr} {bs : List Int} {cap : Nat} (h : Dr w0 w B R a bs cap) (n : Int) (hn : 0 < n) (hn2 : n ≤ 256) :
    Calls Tryz.prog 25 #[.pointer (some ⟨R, 0, none⟩), .int .i64 n] w fun e w' => (∃ x : Int, 0 ≤ x ∧ x < n ∧ e = .returned (.int .i64 x)) ∧ Dr w0 w' B R a bs cap ∧ Only (fun k => k = R) w w' := by
  have H : Hid (Dr w0 w B R a bs cap) := h
  clear h
  go_enter Tryz.func25, Tryz.ntmps25
  go_wp2_with fail
  refine H.out.byte.mono ?_
  rintro e w1 ⟨⟨x, h1, h2, rfl⟩, hd, ho⟩
  have HD : Hid _ := hd
  have HO : Hid _ := ho
  clear hd ho H
  go_wp2
  go_ret
  refine ⟨⟨_, ?_, ?_, rfl⟩, HD.out, HO.out⟩
  · exact Int.emod_nonneg _ (by omega)
  · exact Int.emod_lt_of_pos _ hn

set_option maxHeartbeats 800000 in
theorem Dr.once {w0 w : World} {B R : Nat} {a : Option Addr} {bs : List Int} {cap : Nat} (h : Dr w0 w B R a bs cap) (n : Int) (hn : 0 < n) (hn2 : n ≤ 256) :
    Calls Tryz.prog 27 #[.pointer (some ⟨R, 0, none⟩), .int .i64 n] w fun e w' => (∃ b : Bool, e = .returned (.bool b)) ∧ Dr w0 w' B R a bs cap ∧ Only (fun k => k = R) w w' := by
  have H : Hid (Dr w0 w B R a bs cap) := h
  clear h
  go_enter Tryz.func27, Tryz.ntmps27
  go_wp2_with fail
  refine (H.out.below n hn hn2).mono ?_
  rintro e w1 ⟨⟨x, h1, h2, rfl⟩, hd, ho⟩
  have HD : Hid _ := hd
  have HO : Hid _ := ho
  clear hd ho H
  go_wp2
  go_ret
  exact ⟨⟨_, rfl⟩, HD.out, HO.out⟩

set_option maxHeartbeats 800000 in
theorem Dr.pick {w0 w : World} {B R : Nat} {a : Option Addr} {bs : List Int} {cap : Nat} (h : Dr w0 w B R a bs cap) (b c : Nat) (l : List Int) (hl : Ins w (some ⟨b, 0, none⟩) l) (hb : b ≠ R) (h0 : 0 < l.length) (h1 : l.length ≤ 200) :
    Calls Tryz.prog 16 #[.pointer (some ⟨R, 0, none⟩), .slice (some ⟨b, 0, none⟩) l.length c] w fun e w' => (∃ x ∈ l, e = .returned (.int .i64 x)) ∧ Dr w0 w' B R a bs cap ∧ Only (fun k => k = R) w w' := by
  have H : Hid (Dr w0 w B R a bs cap) := h
  have HLL : Hid (Ins w (some ⟨b, 0, none⟩) l) := hl
  clear h hl
  generalize hq : l.length = m at *
  have HQ : Hid (l.length = m) := hq
  clear hq
  go_enter Tryz.func16, Tryz.ntmps16
  go_wp2_with fail
  refine (H.out.below (m : Nat) (by omega) (by omega)).mono ?_
  rintro e w1 ⟨⟨x, h2, h3, rfl⟩, hd, ho⟩
  obtain ⟨j, rfl⟩ := Int.eq_ofNat_of_zero_le h2
  obtain ⟨b', o', he, hbl, hc⟩ := HLL.out.len_pos j (by rw [HQ.out]; omega)
  obtain ⟨rfl, rfl⟩ : b = b' ∧ 0 = o' := by simpa using he
  have hs := ho.cell hbl (by simpa using hb) (hc j (by rw [HQ.out]; omega))
  simp only [Nat.zero_add] at hs
  have HMM : Hid (l.getD j 0 ∈ l) := by
    unfold Hid
    rw [List.getD_eq_getElem?_getD, List.getElem?_eq_getElem (by rw [HQ.out]; omega)]
    exact List.getElem_mem _
  have HD : Hid _ := hd
  have HO : Hid _ := ho
  clear hd ho H hc he HLL
  generalize l.getD j 0 = y at *
  go_wp2
  go_ret
  exact ⟨⟨y, HMM.out, rfl⟩, HD.out, HO.out⟩

set_option maxHeartbeats 1600000 in
theorem l1New_any (a : Option Addr) (bs : List Int) (cap : Nat) (w : World) (hb : Byt w a bs) (hl : bs.length ≤ maxLen) :
    Calls Tryz.prog 14 #[.slice a bs.length cap] w fun e w' => e = .returned (.pointer (some ⟨w.heap.size, 0, none⟩)) ∧ Dr w w' w.heap.size w.heap.size a bs cap := by
  have HLM : Hid (bs.length ≤ maxLen) := hl
  unfold maxLen at hl
  generalize hlen : bs.length = n at *
  have HL : Hid (bs.length = n) := hlen
  clear hlen
  go_enter Tryz.func14, Tryz.ntmps14
  go_wp2
  go_loop [3, 4] (fun x i => ∃ (k : Nat) (h : Int), k ≤ n ∧ k ≤ 4000 ∧ i = .int .i64 k ∧ x = .int .i64 h) (fun _ i => 4000 - (intOf i).toNat)
  case atStart => exact ⟨0, _, Nat.zero_le _, by omega, rfl, rfl⟩
  case round =>
    obtain ⟨k, h, hk, hk4, rfl, rfl⟩ := hrel
    by_cases hlt : k < n
    · by_cases h4 : k < 4000
      · obtain ⟨b1, o1, rfl, hb1, hc1⟩ := hb.len_pos k (by rw [HL.out]; exact hlt)
        have hs1 := hc1 k (by rw [HL.out]; exact hlt)
        have hz := getD_rng hb.1 k
        clear hc1
        generalize bs.getD k 0 = z at *
        have hd4 : decide ((k : Int) < 4000) = true := by simp; omega
        have H4 : Hid (k < 4000) := h4
        have HK4 : Hid (k ≤ 4000) := hk4
        clear h4 hk4
        go_wp2
        go_round
        case rel => exact ⟨k + 1, _, by omega, by have := H4.out; omega, by go_num, rfl⟩
        case measure => have := H4.out; simp [intOf]; omega
      · have hd4 : decide ((k : Int) < 4000) = false := by simp; omega
        go_wp2
        go_ret
        exact ⟨rfl, hb, rfl, by rw [HL.out]; exact HLM.out, (Below.refl _ _).alloc (Nat.le_refl _) _, 0, h, by rw [HL.out]; exact heap_alloc_new w _, by omega, by omega, Nat.le_refl _, by simp⟩
    · have hkn : k = n := by omega
      subst hkn
      go_wp2
      go_ret
      exact ⟨rfl, hb, rfl, by rw [HL.out]; exact HLM.out, (Below.refl _ _).alloc (Nat.le_refl _) _, 0, h, by rw [HL.out]; exact heap_alloc_new w _, by omega, by omega, Nat.le_refl _, by simp⟩
end Go.Proofs.YtojnomdlkihgmaaGreatDoor
