/-
  laws.toPlace, toPlaceS and toMap copy places into memory of their own; what szMap answers.
-/
import Derived.Test.YthihdnmdmfdhdaaPlP
namespace Go.Proofs.Ythihdnmdmfdhdaa
open Go.RowKit
set_option linter.unusedVariables false

set_option maxHeartbeats 800000 in
theorem toPlace_any (x y : Int) (w : World) :
    Calls Try.prog 50 #[.agg #[.int .i64 x, .int .i64 y]] w fun e w' => e = .returned (.agg #[.int .i64 x, .int .i64 y]) ∧ Below w.heap.size w w' := by
  go_enter Try.func50, Try.ntmps50
  go_wp2
  refine bodyPost_ret (v := .agg #[.int .i64 x, .int .i64 y]) (by simp [results, Try.results50, go_sem]) rfl ⟨rfl, ?_⟩
  repeat (refine Below.setCell ?_ (by first | (simp; done) | (simp; omega)) _)
  exact (((Below.refl _ _).alloc (Nat.le_refl _) _).alloc (by simp) _).alloc (by simp; omega) _

/-- What a copying loop has behind k rounds. -/
def partP (ps : List (Int × Int)) (k : Nat) : List (Int × Int) := ps.take k ++ List.replicate (ps.length - k) dp
theorem partP_len (ps : List (Int × Int)) (k : Nat) (h : k ≤ ps.length) : (partP ps k).length = ps.length := by simp [partP]; omega
theorem partP_all (ps : List (Int × Int)) : partP ps ps.length = ps := by simp [partP]
theorem partP_zero (ps : List (Int × Int)) : partP ps 0 = List.replicate ps.length dp := by simp [partP]
theorem partP_set (ps : List (Int × Int)) (k : Nat) (h : k < ps.length) : (partP ps k).set k (ps.getD k dp) = partP ps (k + 1) := by
  unfold partP
  rw [List.set_append_right _ _ (by simp; omega), List.length_take, Nat.min_eq_left (by omega), Nat.sub_self, show ps.length - k = (ps.length - (k + 1)) + 1 from by omega, List.replicate_succ, List.set_cons_zero, List.take_succ_eq_append_getElem h, List.append_assoc]
  simp [List.getD_eq_getElem?_getD, List.getElem?_eq_getElem h]

set_option maxHeartbeats 1600000 in
theorem toPlaceS_any (a : Option Addr) (cap : Nat) (ps : List (Int × Int)) (w : World) (hb : Pls w a ps) (hn : ps.length ≤ 1048576) :
    Calls Try.prog 38 #[.slice a ps.length cap] w fun e w' =>
      e = .returned (.slice (some ⟨w.heap.size, 0, none⟩) ps.length ps.length) ∧ OwP w' w.heap.size w.heap.size ps.length ps ∧ Below w.heap.size w w' := by
  obtain ⟨i0, hi, hz0, hz1, hz2⟩ := info_parts Try.infoPl
  have HSS : Hid (Pls w a ps) := hb
  clear hb
  generalize hlen : ps.length = n at *
  have HL : Hid (ps.length = n ∧ True) := ⟨hlen, trivial⟩
  clear hlen
  go_enter Try.func38, Try.ntmps38
  go_wp2_with (at_make; refine wpList_make_full _ rfl _ _ 27 rfl w.heap.size 38 i0 (.agg #[.int .i64 0, .int .i64 0]) 2 Try.underlying27 hi hz0 hz1 .i64 .i64 _ _ n rfl rfl rfl rfl (by rw [hz2]; omega) (by unfold maxLen; omega) (Nat.le_refl _) ?_; intro w1 hown hgrow)
  have hbw : Below w.heap.size w w1 := (Below.refl _ _).grown hgrow (Nat.le_refl _) (by intro k hk; cases hk)
  have H0 : Hid (OwP w1 w.heap.size w.heap.size n (partP ps 0)) := by
    rw [partP_zero, HL.out.1]
    exact OwP.made hown
  clear hown hgrow hi hz0 hz1 hz2
  go_loopw [4] (fun i wr => ∃ (k : Nat), k ≤ n ∧ i = .int .i64 k ∧ OwP wr w.heap.size w.heap.size n (partP ps k) ∧ Below w.heap.size w wr) (fun i _ => n - (intOf i).toNat)
  case atStart => exact ⟨0, Nat.zero_le _, rfl, H0.out, hbw⟩
  case round =>
    clear H0 hbw
    obtain ⟨k, hk, rfl, hown, hbel⟩ := hrel
    have HO : Hid (OwP wr w.heap.size w.heap.size n (partP ps k)) := hown
    clear hown
    by_cases hlt : k < n
    · obtain ⟨b, off, rfl, hb1, hc1⟩ := (HSS.out.below hbel (Nat.le_refl _)).len_pos k (by rw [HL.out.1]; exact hlt)
      obtain ⟨c0, c1⟩ := hc1 k (by rw [HL.out.1]; exact hlt)
      have HRG : Hid (rP (ps.getD k dp)) := HSS.out.rng k (by rw [HL.out.1]; exact hlt)
      have HST : Hid ((partP ps k).set k (ps.getD k dp) = partP ps (k + 1) ∧ (partP ps k).length = n) := ⟨partP_set ps k (by rw [HL.out.1]; exact hlt), by rw [partP_len ps k (by rw [HL.out.1]; omega), HL.out.1]⟩
      clear hc1
      generalize ps.getD k dp = p at *
      obtain ⟨x, y⟩ := p
      simp only at c0 c1
      go_wp2_with fail
      refine (toPlace_any x y _).mono ?_
      rintro e w2 ⟨rfl, hb2⟩
      have hb3 := hbel.trans (hb2.mono hbel.size)
      have HO2 : Hid (OwP w2 w.heap.size w.heap.size n (partP ps k)) := OVp.below HO.out hb2
      obtain ⟨d0, d1⟩ := HO2.out.cell k (by rw [HST.out.2]; exact hlt)
      have f0 := HO2.out.frozen (k * 2)
      have f1 := HO2.out.frozen (k * 2 + 1)
      have HR : Hid (OwP ((w2.setCell ⟨w.heap.size, k * 2, none⟩ (.int .i64 x)).setCell ⟨w.heap.size, k * 2 + 1, none⟩ (.int .i64 y)) w.heap.size w.heap.size n (partP ps (k + 1))) := by
        have := HO2.out.store k (by rw [HST.out.2]; exact hlt) (x, y) HRG.out
        rw [HST.out.1] at this
        exact this
      have HB : Hid (Below w.heap.size w ((w2.setCell ⟨w.heap.size, k * 2, none⟩ (.int .i64 x)).setCell ⟨w.heap.size, k * 2 + 1, none⟩ (.int .i64 y))) := (hb3.setCell (p := ⟨w.heap.size, _, none⟩) (Nat.le_refl _) _).setCell (p := ⟨w.heap.size, _, none⟩) (Nat.le_refl _) _
      generalize ((partP ps k).getD k dp).1 = o0 at *
      generalize ((partP ps k).getD k dp).2 = o1 at *
      clear hb2 hb3 hbel c0 c1 HO HO2
      go_wp2
      go_roundw
      case rel => exact ⟨k + 1, by omega, by go_num, HR.out, HB.out⟩
      case measure => simp [intOf]; omega
    · have hkn : k = n := by omega
      subst hkn
      have HA : Hid (OwP wr w.heap.size w.heap.size k ps) := by
        have := HO.out
        rw [show partP ps k = ps from by rw [← HL.out.1]; exact partP_all ps] at this
        exact this
      clear HO
      go_wp2
      go_ret
      exact ⟨rfl, HA.out, hbel⟩

set_option maxHeartbeats 800000 in
theorem toMap_any (a : Option Addr) (cap : Nat) (ps : List (Int × Int)) (w : World) (hb : Pls w a ps) (hn : ps.length ≤ 1048576) :
    Calls Try.prog 12 #[.agg #[.slice a ps.length cap]] w fun e w' =>
      ∃ g, e = .returned (.agg #[.slice (some ⟨g, 0, none⟩) ps.length ps.length]) ∧ OwP w' w.heap.size g ps.length ps ∧ Below w.heap.size w w' := by
  go_enter Try.func12, Try.ntmps12
  go_wp2_with fail
  have hw : Below w.heap.size w (((w.alloc (Obj.cells #[Value.slice a ps.length cap] 24)).alloc (Obj.cells #[Value.slice none 0 0] 29)).alloc (Obj.cells #[Value.slice none 0 0] 29)) :=
    (((Below.refl _ _).alloc (Nat.le_refl _) _).alloc (by simp) _).alloc (by simp; omega) _
  refine (toPlaceS_any a cap ps _ (hb.below hw (Nat.le_refl _)) hn).mono ?_
  rintro e w1 ⟨rfl, hown, hbel⟩
  obtain ⟨hc, hf⟩ := bcell hbel
  have hz := hbel.size
  have hb2 := hw.trans (hbel.mono (by simp; omega))
  simp at hc hf hz hown
  clear hbel hw
  go_wp2
  refine bodyPost_ret (v := .agg #[.slice (some ⟨w.heap.size + 1 + 1 + 1, 0, none⟩) ps.length ps.length]) (by simp [results, Try.results12, go_sem, hc]) rfl ⟨_, rfl, ?_, ?_⟩
  · refine OVp.weak (B := w.heap.size + 1 + 1 + 1) ?_ (by omega)
    repeat (refine OwP.other ?_ (by simp) _)
    exact hown
  · repeat (refine Below.setCell ?_ (by first | (simp; done) | (simp; omega)) _)
    exact hb2

set_option maxHeartbeats 800000 in
theorem szMap_any (a : Option Addr) (n cap : Nat) (w : World) (hm : n ≤ maxLen) :
    Calls Try.prog 10 #[.agg #[.slice a n cap], .int .i64 1048576] w fun e w' => e = .returned (.int .i64 (if (n : Int) ≤ 1048576 then 1048576 - n else -1)) ∧ Below w.heap.size w w' := by
  unfold maxLen at hm
  have hw : Below w.heap.size w (w.alloc (Obj.cells #[Value.slice a n cap] 24)) := (Below.refl _ _).alloc (Nat.le_refl _) _
  have key : ∀ w : World, Calls Try.prog 37 #[.slice a n cap, .int .i64 1048576] w fun e w' => e = .returned (.int .i64 (if (n : Int) ≤ 1048576 then 1048576 - n else -1)) ∧ w' = w := by
    intro w
    by_cases h : (n : Int) ≤ 1048576
    · rw [if_pos h]
      go_enter Try.func37, Try.ntmps37
      go_wp2
      go_ret
      exact ⟨rfl, rfl⟩
    · rw [if_neg h]
      go_enter Try.func37, Try.ntmps37
      go_wp2
      go_ret
      exact ⟨rfl, rfl⟩
  by_cases h : (n : Int) ≤ 1048576
  · rw [if_pos h] at key ⊢
    go_enter Try.func10, Try.ntmps10
    go_wp2_with fail
    refine (key _).mono ?_
    rintro e w' ⟨rfl, rfl⟩
    go_wp2
    go_ret
    exact ⟨rfl, hw⟩
  · rw [if_neg h] at key ⊢
    go_enter Try.func10, Try.ntmps10
    go_wp2_with fail
    refine (key _).mono ?_
    rintro e w' ⟨rfl, rfl⟩
    go_wp2
    go_ret
    exact ⟨rfl, hw⟩
end Go.Proofs.Ythihdnmdmfdhdaa
