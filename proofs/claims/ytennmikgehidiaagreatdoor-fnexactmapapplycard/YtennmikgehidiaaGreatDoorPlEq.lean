/-
  eqPlace, eqPlaceS and eqMap answer true of what is the same.
-/
import Derived.Test.YtennmikgehidiaaGreatDoorMpAs
import Derived.Test.YtennmikgehidiaaGreatDoorElN
import Derived.Test.YtennmikgehidiaaGreatDoorPlP
import Derived.Deep.RegionHeld3
namespace Go.Proofs.YtennmikgehidiaaGreatDoor
open Go.RowKit
set_option linter.unusedVariables false

section
variable {w w' : World} {B : Nat} {v : Value} {es : List El}
theorem OVt.letters (h : OVt w B v es) (k : Nat) (hk : k < es.length) (s : El) (hs : s.cells true = (es.getD k de).cells true) (hm : Mine w B w.heap.size (es.getD k de).a (es.getD k de).c (es.getD k de).ls) (ho : Only (rowOf (es.getD k de).a) w w') : OVt w' B v (es.set k s) := by
  have h2 := h.stay ho (fun b hb => h.other hm hb)
  exact ⟨by rw [List.length_set, flat_setE true es s k hk hs]; exact h2.own⟩
end

set_option maxHeartbeats 4000000 in
theorem markItemS_own (a : Option Addr) (cap B : Nat) (ss : List El) (k : Int) (w : World) (h : OVt w B (.slice a ss.length cap) ss) (hd : Deep w B ss) (hn : ss.length + elets ss ≤ 1048576) (h0 : 0 ≤ k) (h1 : k + ss.length + elets ss ≤ 2097152) :
    Calls Tryz.prog 30 #[.slice a ss.length cap, .int .i64 k] w fun e w' => e = .returned (.int .i64 (k + elets ss + ss.length)) ∧ (OVt w' B (.slice a ss.length cap) (mkE true k ss) ∧ Deep w' B (mkE true k ss)) ∧ Only (fun b => (Value.slice a ss.length cap).ownBlock = some b ∨ ∃ s ∈ ss, rowOf s.a b) w w' := by
  have HST : Hid _ := mkE_step true k ss
  have HGE : Hid _ := mkE_rest true k ss
  have HSU : Hid _ := mkA_succ true k ss
  have HLB : Hid _ := mkA_le true k ss
  have HLE : Hid (∀ j, j ≤ ss.length → (mkE true k (ss.take j) ++ ss.drop j).length = ss.length) := fun j hj => by rw [List.length_append, mkE_len, List.length_take, List.length_drop]; omega
  have HO : Hid (OVt w B (.slice a ss.length cap) ss ∧ Deep w B ss) := ⟨h, hd⟩
  have HMM : Hid (∀ j, j < ss.length → ss.getD j de ∈ ss ∧ (ss.getD j de).ls.length ≤ elets ss) := fun j hj => ⟨getD_memE hj, elets_mem (getD_memE hj)⟩
  clear h hd
  have HFI : Hid (mkE true k (ss.take ss.length) ++ ss.drop ss.length = mkE true k ss ∧ mkA true k ss ss.length = k + elets ss + ss.length) := ⟨by rw [List.take_length]; simp, by rw [mkA_all]; simp [eO]⟩
  generalize hlen : ss.length = n at *
  have HL : Hid (ss.length = n ∧ True) := ⟨hlen, trivial⟩
  clear hlen
  generalize hT : elets ss = T at *
  clear hT
  go_enter Tryz.func30, Tryz.ntmps30
  go_wp2
  go_loopw [1, 5] (fun q i wr => ∃ (j : Nat) (y : Int), j ≤ n ∧ i = .int .i64 j ∧ q = .int .i64 y ∧ y = mkA true k ss j ∧ OVt wr B (.slice a n cap) (mkE true k (ss.take j) ++ ss.drop j) ∧ Deep wr B (mkE true k (ss.take j) ++ ss.drop j) ∧ Only (fun b => (Value.slice a n cap).ownBlock = some b ∨ ∃ s ∈ ss, rowOf s.a b) w wr) (fun _ i _ => n - (intOf i).toNat)
  case atStart => exact ⟨0, k, Nat.zero_le _, rfl, rfl, by simp [mkA, elets], by simpa [mkE] using HO.out.1, by simpa [mkE] using HO.out.2, Only.refl _ _⟩
  case round =>
    clear HO
    obtain ⟨j, y, hj, rfl, rfl, hy, hown, hdeep, honly⟩ := hrel
    have hyb := HLB.out j hj
    have HY : Hid (y = mkA true k ss j ∧ True) := ⟨hy, trivial⟩
    rw [← hy] at hyb
    have HOW : Hid (OVt wr B (.slice a n cap) (mkE true k (ss.take j) ++ ss.drop j) ∧ Deep wr B (mkE true k (ss.take j) ++ ss.drop j)) := ⟨hown, hdeep⟩
    have HON : Hid (Only (fun b => (Value.slice a n cap).ownBlock = some b ∨ ∃ s ∈ ss, rowOf s.a b) w wr) := honly
    clear hy
    by_cases hjn : j < n
    · obtain ⟨g, cap', e', _, hg2, hfz, hli⟩ := hown.cell j (by rw [HLE.out j hj]; exact hjn)
      have hl0 := (hli j (by rw [HLE.out j hj]; exact hjn)).c0 rfl
      have hl1 := (hli j (by rw [HLE.out j hj]; exact hjn)).c1
      have hmi := hdeep.mine _ (getD_memE (k := j) (by rw [HLE.out j hj]; exact hjn))
      rw [HGE.out j hjn] at hl0 hl1 hmi
      simp only [eW, eO, cond_true] at hl0 hl1
      obtain ⟨rfl, -, rfl⟩ : a = some ⟨g, 0, none⟩ ∧ _ ∧ cap = cap' := by simpa using e'
      have f0 := hfz (j * 2)
      have hst := HST.out j hjn
      rw [← HY.out.1] at hst
      have HSTJ : Hid (_ ∧ True) := ⟨hst, trivial⟩
      obtain ⟨HIN, hT2⟩ := HMM.out j hjn
      have HGJ : Hid (_ ∧ True) := ⟨HGE.out j hjn, trivial⟩
      have HYN : Hid (mkA true k ss (j + 1) = y + 1 + (ss.getD j de).ls.length ∧ True) := ⟨by rw [HSU.out j hjn, HY.out.1]; simp [eO], trivial⟩
      have hlk : j < (mkE true k (ss.take j) ++ ss.drop j).length := by rw [HLE.out j hj]; exact hjn
      have hlk2 : ∀ s : El, j < ((mkE true k (ss.take j) ++ ss.drop j).set j s).length := fun s => by rw [List.length_set]; exact hlk
      have hgs : ∀ s : El, ((mkE true k (ss.take j) ++ ss.drop j).set j s).getD j de = s := fun s => by rw [getD_setE _ j j _ hlk, if_pos rfl]
      have hR1 := hown.store j hlk { (ss.getD j de) with n := y } 0 (by simp [eW]) (.int .i64 y) (by rw [HGE.out j hjn]; rfl) (g := g) rfl
      have hon1 : Only (fun b => b = g) wr (wr.setCell ⟨g, j * 2, none⟩ (.int .i64 y)) := (Only.refl (fun b => b = g) wr).setCell (p := ⟨g, j * 2, none⟩) (.inl rfl) _
      have hD1 := hdeep.stay hon1 (fun x hx b hb e => hown.other (hdeep.mine x hx) (g := g) rfl (e ▸ hb))
      have hD2 : Deep (wr.setCell ⟨g, j * 2, none⟩ (.int .i64 y)) B ((mkE true k (ss.take j) ++ ss.drop j).set j { (ss.getD j de) with n := y }) := by
        refine ⟨fun t ht => ?_, by rw [map_setE _ j _ (by rw [HGE.out j hjn]) hlk]; exact hD1.apart⟩
        rcases List.mem_or_eq_of_mem_set ht with ht | rfl
        · exact hD1.mine t ht
        · have := hD1.mine _ (getD_memE hlk)
          rw [HGE.out j hjn] at this
          exact this
      have hmi1 := hD2.mine _ (getD_memE (hlk2 _))
      rw [hgs] at hmi1
      simp only at hmi1
      rw [show j * eW true + 0 = j * 2 from by simp [eW]] at hR1
      have HR1 : Hid (OVt (wr.setCell ⟨g, j * 2, none⟩ (.int .i64 y)) B (.slice (some ⟨g, 0, none⟩) n cap) ((mkE true k (ss.take j) ++ ss.drop j).set j { (ss.getD j de) with n := y }) ∧ Deep (wr.setCell ⟨g, j * 2, none⟩ (.int .i64 y)) B ((mkE true k (ss.take j) ++ ss.drop j).set j { (ss.getD j de) with n := y })) := ⟨hR1, hD2⟩
      have HMI : Hid (Mine (wr.setCell ⟨g, j * 2, none⟩ (.int .i64 y)) B (wr.setCell ⟨g, j * 2, none⟩ (.int .i64 y)).heap.size (ss.getD j de).a (ss.getD j de).c (ss.getD j de).ls) := hmi1
      have HMK := markByteS_any (ss.getD j de).a B _ (ss.getD j de).c (ss.getD j de).ls (y + 1) _ hmi1 (by omega) (by omega) (by have h9 := HLB.out (j + 1) (by omega); rw [HYN.out.1] at h9; omega)
      have HIN' : Hid (ss.getD j de ∈ ss) := HIN
      have HON1 : Hid (Only (fun b => (Value.slice (some ⟨g, 0, none⟩) n cap).ownBlock = some b ∨ ∃ s ∈ ss, rowOf s.a b) w (wr.setCell ⟨g, j * 2, none⟩ (.int .i64 y))) := HON.out.trans (hon1.mono (fun b _ hb => .inl (by rw [hb]; rfl)))
      have HK2 : Hid ((∀ s : El, j < ((mkE true k (ss.take j) ++ ss.drop j).set j s).length) ∧ (∀ s : El, ((mkE true k (ss.take j) ++ ss.drop j).set j s).getD j de = s)) := ⟨hlk2, hgs⟩
      clear hst hown hdeep honly hmi hli e' HIN HY hR1 hD1 hD2 hmi1 hon1 hlk hlk2 hgs hfz HON HOW
      generalize hs : ss.getD j de = s at *
      clear hs
      go_wp2_with fail
      refine HMK.mono ?_
      clear HMK
      rintro e w2 ⟨rfl, hm2, ho2⟩
      have hc2 : (mk1 true y s).cells true = (((mkE true k (ss.take j) ++ ss.drop j).set j { s with n := y }).getD j de).cells true := by rw [HK2.out.2]; simp [mk1, El.cells, marks_len]
      have hR2 := HR1.out.1.letters j (HK2.out.1 _) (mk1 true y s) hc2 (by rw [HK2.out.2]; exact HMI.out) (w' := w2) (by rw [HK2.out.2]; exact ho2)
      have hD2 := HR1.out.2.letters j (HK2.out.1 _) (mk1 true y s) (by rw [HK2.out.2]; rfl) (w' := w2) (by rw [HK2.out.2]; exact ho2) (by simpa [mk1, eO] using hm2)
      rw [List.set_set, HSTJ.out.1] at hR2 hD2
      have HN2 : Hid _ := And.intro hR2 hD2
      have HO2 : Hid (Only (fun b => (Value.slice (some ⟨g, 0, none⟩) n cap).ownBlock = some b ∨ ∃ s ∈ ss, rowOf s.a b) w w2) := HON1.out.trans (ho2.mono (fun b _ hb => .inr ⟨s, HIN'.out, hb⟩))
      clear hR2 hD2 hc2 ho2 hm2 HMI HGJ HR1 HON1
      go_wp2
      go_roundw
      case rel => exact ⟨j + 1, _, by omega, by go_num, rfl, HYN.out.1.symm, HN2.out.1, HN2.out.2, HO2.out⟩
      case measure => simp [intOf]; omega
    · have hjn2 : j = n := by omega
      subst hjn2
      have HFO : Hid (OVt wr B (.slice a j cap) (mkE true k ss) ∧ Deep wr B (mkE true k ss)) := by rw [← HFI.out.1]; exact HOW.out
      have HYF : Hid (y = k + (T : Nat) + (j : Nat) ∧ True) := ⟨HY.out.1.trans HFI.out.2, trivial⟩
      clear HOW hown hdeep
      go_wp2
      go_ret
      exact ⟨by rw [← HYF.out.1]; rfl, HFO.out, HON.out⟩

set_option maxHeartbeats 1000000 in
theorem markPack_own (E O : Int) (a : Option Addr) (cap B : Nat) (ss : List El) (k : Int) (w : World) (h : OVt w B (.slice a ss.length cap) ss) (hd : Deep w B ss) (hn : ss.length + elets ss ≤ 1048576) (h0 : 0 ≤ k) (h1 : k + ss.length + elets ss ≤ 2097152) :
    Calls Tryz.prog 13 #[.agg #[.int .i64 E, .int .i64 O, .slice a ss.length cap], .int .i64 k] w fun e w' => e = .returned (.int .i64 (k + elets ss + ss.length)) ∧ (OVt w' B (.slice a ss.length cap) (mkE true k ss) ∧ Deep w' B (mkE true k ss)) ∧ Only (fun b => (Value.slice a ss.length cap).ownBlock = some b ∨ ∃ s ∈ ss, rowOf s.a b) w w' := by
  have hw : Below w.heap.size w (w.alloc (Obj.cells #[Value.int IntKind.i64 E, Value.int IntKind.i64 O, Value.slice a ss.length cap] 38)) := (Below.refl _ _).alloc (Nat.le_refl _) _
  have HM := markItemS_own a cap B ss k _ (h.below hw) (hd.below hw) hn h0 h1
  clear h hd
  go_enter Tryz.func13, Tryz.ntmps13
  go_wp2_with fail
  refine HM.mono ?_
  clear HM
  rintro e w1 ⟨rfl, h2, h3⟩
  have HF : Hid ((OVt w1 B (.slice a ss.length cap) (mkE true k ss) ∧ Deep w1 B (mkE true k ss)) ∧ Only (fun b => (Value.slice a ss.length cap).ownBlock = some b ∨ ∃ s ∈ ss, rowOf s.a b) w w1) := ⟨h2, ((Only.refl (fun b => (Value.slice a ss.length cap).ownBlock = some b ∨ ∃ s ∈ ss, rowOf s.a b) w).alloc _).trans h3⟩
  clear h2 h3 hw
  go_wp2
  go_ret
  exact ⟨rfl, HF.out.1, HF.out.2⟩
end Go.Proofs.YtennmikgehidiaaGreatDoor
namespace Go.Proofs.YtennmikgehidiaaGreatDoor
open Go.RowKit
set_option linter.unusedVariables false

theorem markItemS_nil (a : Option Addr) (cap : Nat) (k : Int) (w : World) : Calls Tryz.prog 30 #[.slice a 0 cap, .int .i64 k] w fun e w' => e = .returned (.int .i64 k) ∧ w' = w := by
  go_enter Tryz.func30, Tryz.ntmps30
  go_wp2
  go_loopw [1, 5] (fun q i wr => i = .int .i64 0 ∧ q = .int .i64 k ∧ wr = w) (fun _ _ _ => 0)
  case atStart => exact ⟨rfl, rfl, rfl⟩
  case round =>
    obtain ⟨rfl, rfl, rfl⟩ := hrel
    go_wp2
    go_ret
    exact ⟨rfl, rfl⟩
theorem markPack_nil (E O : Int) (a : Option Addr) (cap : Nat) (k : Int) (w : World) : Calls Tryz.prog 13 #[.agg #[.int .i64 E, .int .i64 O, .slice a 0 cap], .int .i64 k] w fun e w' => e = .returned (.int .i64 k) ∧ Below w.heap.size w w' := by
  have hw : Below w.heap.size w (w.alloc (Obj.cells #[Value.int IntKind.i64 E, Value.int IntKind.i64 O, Value.slice a 0 cap] 38)) := (Below.refl _ _).alloc (Nat.le_refl _) _
  have HM := markItemS_nil a cap k (w.alloc (Obj.cells #[Value.int IntKind.i64 E, Value.int IntKind.i64 O, Value.slice a 0 cap] 38))
  go_enter Tryz.func13, Tryz.ntmps13
  go_wp2_with fail
  refine HM.mono ?_
  clear HM
  rintro e w1 ⟨rfl, rfl⟩
  go_wp2
  go_ret
  exact ⟨rfl, hw⟩
/-- What the marks of a pack's copy do, for every number of marks that the laws write. -/
theorem markPack_only (E O : Int) (a : Option Addr) (cap B : Nat) (ss : List El) (k : Int) (w : World) (h : OVt w B (.slice a ss.length cap) ss) (hd : Deep w B ss) (hn : ss.length + elets ss ≤ 1048576) (h0 : 0 ≤ k) (h1 : ss.length = 0 ∨ k + ss.length + elets ss ≤ 2097152) :
    Calls Tryz.prog 13 #[.agg #[.int .i64 E, .int .i64 O, .slice a ss.length cap], .int .i64 k] w fun e w' => e = .returned (.int .i64 (k + elets ss + ss.length)) ∧ Only (fun b => (Value.slice a ss.length cap).ownBlock = some b ∨ ∃ s ∈ ss, rowOf s.a b) w w' := by
  rcases h1 with h1 | h1
  · obtain rfl : ss = [] := List.eq_nil_of_length_eq_zero h1
    refine (markPack_nil E O a cap k w).mono ?_
    rintro e w1 ⟨rfl, hb⟩
    exact ⟨by simp [elets], Only.ofBelow hb (Nat.le_refl _)⟩
  · exact (markPack_own E O a cap B ss k w h hd hn h0 h1).mono fun e w1 h2 => ⟨h2.1, h2.2.2⟩
end Go.Proofs.YtennmikgehidiaaGreatDoor
namespace Go.Proofs.YtennmikgehidiaaGreatDoor
open Go.RowKit
set_option linter.unusedVariables false

set_option maxHeartbeats 800000 in
theorem toPlace_any (x y : Int) (w : World) :
    Calls Tryz.prog 37 #[.agg #[.int .i64 x, .int .i64 y]] w fun e w' => e = .returned (.agg #[.int .i64 x, .int .i64 y]) ∧ Below w.heap.size w w' := by
  go_enter Tryz.func37, Tryz.ntmps37
  go_wp2
  refine bodyPost_ret (v := .agg #[.int .i64 x, .int .i64 y]) (by simp [results, Tryz.results37, go_sem]) rfl ⟨rfl, ?_⟩
  repeat (refine Below.setCell ?_ (by first | (simp; done) | (simp; omega)) _)
  exact (((Below.refl _ _).alloc (Nat.le_refl _) _).alloc (by simp) _).alloc (by simp; omega) _

/-- What a copying loop has behind k rounds. -/
def partP (ps : List (Int × Int)) (k : Nat) : List (Int × Int) := ps.take k ++ List.replicate (ps.length - k) dp
theorem partP_len (ps : List (Int × Int)) (k : Nat) (h : k ≤ ps.length) : (partP ps k).length = ps.length := by simp [partP]; omega
theorem partP_all (ps : List (Int × Int)) : partP ps ps.length = ps := by simp [partP]
theorem partP_zero (ps : List (Int × Int)) : partP ps 0 = List.replicate ps.length dp := by simp [partP]
theorem partP_set (ps : List (Int × Int)) (k : Nat) (h : k < ps.length) : (partP ps k).set k (ps.getD k dp) = partP ps (k + 1) := by
  unfold partP
  rw [List.set_append_right _ _ (by simp; omega), List.length_take, Nat.min_eq_left (by omega), Nat.sub_self, show ps.length - k = (ps.length - (k + 1)) + 1 from by omega, List.replicate_succ, List.set_cons_zero, List.take_succ_eq_append_getElem h, List.append_assoc]
  simp [List.getD_eq_getElem?_getD, List.getElem?_eq_getElem h]

set_option maxHeartbeats 1600000 in
theorem toPlaceS_any (a : Option Addr) (cap : Nat) (ps : List (Int × Int)) (w : World) (hb : Pls w a ps) (hn : ps.length ≤ 1048576) :
    Calls Tryz.prog 21 #[.slice a ps.length cap] w fun e w' =>
      e = .returned (.slice (some ⟨w.heap.size, 0, none⟩) ps.length ps.length) ∧ OwP w' w.heap.size w.heap.size ps.length ps ∧ Below w.heap.size w w' := by
  obtain ⟨i0, hi, hz0, hz1, hz2⟩ := info_parts Tryz.infoPl
  have HSS : Hid (Pls w a ps) := hb
  clear hb
  generalize hlen : ps.length = n at *
  have HL : Hid (ps.length = n ∧ True) := ⟨hlen, trivial⟩
  clear hlen
  go_enter Tryz.func21, Tryz.ntmps21
  go_wp2_with (at_make; refine wpList_make_full _ rfl _ _ 30 rfl w.heap.size 72 i0 (.agg #[.int .i64 0, .int .i64 0]) 2 Tryz.underlying30 hi hz0 hz1 .i64 .i64 _ _ n rfl rfl rfl rfl (by rw [hz2]; omega) (by unfold maxLen; omega) (Nat.le_refl _) ?_; intro w1 hown hgrow)
  have hbw : Below w.heap.size w w1 := (Below.refl _ _).grown hgrow (Nat.le_refl _) (by intro k hk; cases hk)
  have H0 : Hid (OwP w1 w.heap.size w.heap.size n (partP ps 0)) := by
    rw [partP_zero, HL.out.1]
    exact OwP.made hown
  clear hown hgrow hi hz0 hz1 hz2
  go_loopw [4] (fun i wr => ∃ (k : Nat), k ≤ n ∧ i = .int .i64 k ∧ OwP wr w.heap.size w.heap.size n (partP ps k) ∧ Below w.heap.size w wr) (fun i _ => n - (intOf i).toNat)
  case atStart => exact ⟨0, Nat.zero_le _, rfl, H0.out, hbw⟩
  case round =>
    clear H0 hbw
    obtain ⟨k, hk, rfl, hown, hbel⟩ := hrel
    have HO : Hid (OwP wr w.heap.size w.heap.size n (partP ps k)) := hown
    clear hown
    by_cases hlt : k < n
    · obtain ⟨b, off, rfl, hb1, hc1⟩ := (HSS.out.below hbel (Nat.le_refl _)).len_pos k (by rw [HL.out.1]; exact hlt)
      obtain ⟨c0, c1⟩ := hc1 k (by rw [HL.out.1]; exact hlt)
      have HRG : Hid (rP (ps.getD k dp)) := HSS.out.rng k (by rw [HL.out.1]; exact hlt)
      have HST : Hid ((partP ps k).set k (ps.getD k dp) = partP ps (k + 1) ∧ (partP ps k).length = n) := ⟨partP_set ps k (by rw [HL.out.1]; exact hlt), by rw [partP_len ps k (by rw [HL.out.1]; omega), HL.out.1]⟩
      clear hc1
      generalize ps.getD k dp = p at *
      obtain ⟨x, y⟩ := p
      simp only at c0 c1
      go_wp2_with fail
      refine (toPlace_any x y _).mono ?_
      rintro e w2 ⟨rfl, hb2⟩
      have hb3 := hbel.trans (hb2.mono hbel.size)
      have HO2 : Hid (OwP w2 w.heap.size w.heap.size n (partP ps k)) := OVp.below HO.out hb2
      obtain ⟨d0, d1⟩ := HO2.out.cell k (by rw [HST.out.2]; exact hlt)
      have f0 := HO2.out.frozen (k * 2)
      have f1 := HO2.out.frozen (k * 2 + 1)
      have HR : Hid (OwP ((w2.setCell ⟨w.heap.size, k * 2, none⟩ (.int .i64 x)).setCell ⟨w.heap.size, k * 2 + 1, none⟩ (.int .i64 y)) w.heap.size w.heap.size n (partP ps (k + 1))) := by
        have := HO2.out.store k (by rw [HST.out.2]; exact hlt) (x, y) HRG.out
        rw [HST.out.1] at this
        exact this
      have HB : Hid (Below w.heap.size w ((w2.setCell ⟨w.heap.size, k * 2, none⟩ (.int .i64 x)).setCell ⟨w.heap.size, k * 2 + 1, none⟩ (.int .i64 y))) := (hb3.setCell (p := ⟨w.heap.size, _, none⟩) (Nat.le_refl _) _).setCell (p := ⟨w.heap.size, _, none⟩) (Nat.le_refl _) _
      generalize ((partP ps k).getD k dp).1 = o0 at *
      generalize ((partP ps k).getD k dp).2 = o1 at *
      clear hb2 hb3 hbel c0 c1 HO HO2
      go_wp2
      go_roundw
      case rel => exact ⟨k + 1, by omega, by go_num, HR.out, HB.out⟩
      case measure => simp [intOf]; omega
    · have hkn : k = n := by omega
      subst hkn
      have HA : Hid (OwP wr w.heap.size w.heap.size k ps) := by
        have := HO.out
        rw [show partP ps k = ps from by rw [← HL.out.1]; exact partP_all ps] at this
        exact this
      clear HO
      go_wp2
      go_ret
      exact ⟨rfl, HA.out, hbel⟩

set_option maxHeartbeats 800000 in
theorem toMap_any (a : Option Addr) (cap : Nat) (ps : List (Int × Int)) (w : World) (hb : Pls w a ps) (hn : ps.length ≤ 1048576) :
    Calls Tryz.prog 7 #[.agg #[.slice a ps.length cap]] w fun e w' =>
      ∃ g, e = .returned (.agg #[.slice (some ⟨g, 0, none⟩) ps.length ps.length]) ∧ OwP w' w.heap.size g ps.length ps ∧ Below w.heap.size w w' := by
  go_enter Tryz.func7, Tryz.ntmps7
  go_wp2_with fail
  have hw : Below w.heap.size w (((w.alloc (Obj.cells #[Value.slice a ps.length cap] 24)).alloc (Obj.cells #[Value.slice none 0 0] 32)).alloc (Obj.cells #[Value.slice none 0 0] 32)) :=
    (((Below.refl _ _).alloc (Nat.le_refl _) _).alloc (by simp) _).alloc (by simp; omega) _
  refine (toPlaceS_any a cap ps _ (hb.below hw (Nat.le_refl _)) hn).mono ?_
  rintro e w1 ⟨rfl, hown, hbel⟩
  obtain ⟨hc, hf⟩ := bcell hbel
  have hz := hbel.size
  have hb2 := hw.trans (hbel.mono (by simp; omega))
  simp at hc hf hz hown
  clear hbel hw
  go_wp2
  refine bodyPost_ret (v := .agg #[.slice (some ⟨w.heap.size + 1 + 1 + 1, 0, none⟩) ps.length ps.length]) (by simp [results, Tryz.results7, go_sem, hc]) rfl ⟨_, rfl, ?_, ?_⟩
  · refine OVp.weak (B := w.heap.size + 1 + 1 + 1) ?_ (by omega)
    repeat (refine OwP.other ?_ (by simp) _)
    exact hown
  · repeat (refine Below.setCell ?_ (by first | (simp; done) | (simp; omega)) _)
    exact hb2

set_option maxHeartbeats 800000 in
theorem szMap_any (a : Option Addr) (n cap : Nat) (w : World) (hm : n ≤ maxLen) :
    Calls Tryz.prog 4 #[.agg #[.slice a n cap], .int .i64 1048576] w fun e w' => e = .returned (.int .i64 (if (n : Int) ≤ 1048576 then 1048576 - n else -1)) ∧ Below w.heap.size w w' := by
  unfold maxLen at hm
  have hw : Below w.heap.size w (w.alloc (Obj.cells #[Value.slice a n cap] 24)) := (Below.refl _ _).alloc (Nat.le_refl _) _
  have key : ∀ w : World, Calls Tryz.prog 15 #[.slice a n cap, .int .i64 1048576] w fun e w' => e = .returned (.int .i64 (if (n : Int) ≤ 1048576 then 1048576 - n else -1)) ∧ w' = w := by
    intro w
    by_cases h : (n : Int) ≤ 1048576
    · rw [if_pos h]
      go_enter Tryz.func15, Tryz.ntmps15
      go_wp2
      go_ret
      exact ⟨rfl, rfl⟩
    · rw [if_neg h]
      go_enter Tryz.func15, Tryz.ntmps15
      go_wp2
      go_ret
      exact ⟨rfl, rfl⟩
  by_cases h : (n : Int) ≤ 1048576
  · rw [if_pos h] at key ⊢
    go_enter Tryz.func4, Tryz.ntmps4
    go_wp2_with fail
    refine (key _).mono ?_
    rintro e w' ⟨rfl, rfl⟩
    go_wp2
    go_ret
    exact ⟨rfl, hw⟩
  · rw [if_neg h] at key ⊢
    go_enter Tryz.func4, Tryz.ntmps4
    go_wp2_with fail
    refine (key _).mono ?_
    rintro e w' ⟨rfl, rfl⟩
    go_wp2
    go_ret
    exact ⟨rfl, hw⟩
end Go.Proofs.YtennmikgehidiaaGreatDoor
namespace Go.Proofs.YtennmikgehidiaaGreatDoor
open Go.RowKit
set_option linter.unusedVariables false

set_option maxHeartbeats 800000 in
theorem eqPlace_yes (x y : Int) (w : World) :
    Calls Tryz.prog 45 #[.agg #[.int .i64 x, .int .i64 y], .agg #[.int .i64 x, .int .i64 y]] w fun e w' => e = .returned (.bool true) ∧ Below w.heap.size w w' := by
  have hw : Below w.heap.size w ((w.alloc (Obj.cells #[Value.int IntKind.i64 x, Value.int IntKind.i64 y] 72)).alloc (Obj.cells #[Value.int IntKind.i64 x, Value.int IntKind.i64 y] 72)) :=
    ((Below.refl _ _).alloc (Nat.le_refl _) _).alloc (by simp) _
  have h1 : (x != x) = false := by simp
  have h2 : (y != y) = false := by simp
  go_enter Tryz.func45, Tryz.ntmps45
  go_wp2
  go_ret
  exact ⟨rfl, hw⟩

set_option maxHeartbeats 1600000 in
theorem eqPlaceS_yes (a b : Option Addr) (ca cb : Nat) (ps : List (Int × Int)) (w : World) (ha : Pls w a ps) (hb : Pls w b ps) (hx : ps.length ≤ 1048576) :
    Calls Tryz.prog 27 #[.slice a ps.length ca, .slice b ps.length cb] w fun e w' => e = .returned (.bool true) ∧ Below w.heap.size w w' := by
  have HA : Hid (Pls w a ps) := ha
  have HB : Hid (Pls w b ps) := hb
  clear ha hb
  generalize hlen : ps.length = n at *
  have HL : Hid (ps.length = n ∧ True) := ⟨hlen, trivial⟩
  clear hlen
  have hnn : ((n : Int) != (n : Int)) = false := by simp
  go_enter Tryz.func27, Tryz.ntmps27
  go_wp2
  go_loopw [5] (fun i wr => ∃ k : Nat, k ≤ n ∧ i = .int .i64 k ∧ Below w.heap.size w wr) (fun i _ => n - (intOf i).toNat)
  case atStart => exact ⟨0, Nat.zero_le _, rfl, Below.refl _ _⟩
  case round =>
    obtain ⟨k, hk, rfl, hbel⟩ := hrel
    by_cases hlt : k < n
    · obtain ⟨b1, o1, rfl, hb1, hc1⟩ := (HA.out.below hbel (Nat.le_refl _)).len_pos k (by rw [HL.out.1]; exact hlt)
      obtain ⟨b2, o2, rfl, hb2, hc2⟩ := (HB.out.below hbel (Nat.le_refl _)).len_pos k (by rw [HL.out.1]; exact hlt)
      obtain ⟨c0, c1⟩ := hc1 k (by rw [HL.out.1]; exact hlt)
      obtain ⟨d0, d1⟩ := hc2 k (by rw [HL.out.1]; exact hlt)
      clear hc1 hc2
      generalize ps.getD k dp = p at *
      obtain ⟨x, y⟩ := p
      simp only at c0 c1 d0 d1
      have HC : Hid (wr.cell? ⟨b1, o1 + k * 2, none⟩ = some (.int .i64 x) ∧ wr.cell? ⟨b1, o1 + k * 2 + 1, none⟩ = some (.int .i64 y) ∧ wr.cell? ⟨b2, o2 + k * 2, none⟩ = some (.int .i64 x) ∧ wr.cell? ⟨b2, o2 + k * 2 + 1, none⟩ = some (.int .i64 y)) := ⟨c0, c1, d0, d1⟩
      clear c0 c1 d0 d1
      go_wp2_with fail
      go_region_held3 (fun W => W.cell? ⟨b1, o1 + k * 2, none⟩ = some (.int .i64 x) ∧ W.cell? ⟨b1, o1 + k * 2 + 1, none⟩ = some (.int .i64 y) ∧ W.cell? ⟨b2, o2 + k * 2, none⟩ = some (.int .i64 x) ∧ W.cell? ⟨b2, o2 + k * 2 + 1, none⟩ = some (.int .i64 y))
        (first | exact HC.out | exact HC8.out)
        (first
          | (go_at_call 45; refine (eqPlace_yes x y _).mono ?_; rintro e w8 ⟨rfl, hb8'⟩; have HB8 : Hid (Below w.heap.size w w8) := hbel.trans ((Below.drewS hb8').mono hbel.size); have HC8 : Hid (w8.cell? ⟨b1, o1 + k * 2, none⟩ = some (.int .i64 x) ∧ w8.cell? ⟨b1, o1 + k * 2 + 1, none⟩ = some (.int .i64 y) ∧ w8.cell? ⟨b2, o2 + k * 2, none⟩ = some (.int .i64 x) ∧ w8.cell? ⟨b2, o2 + k * 2 + 1, none⟩ = some (.int .i64 y)) := ⟨keep (Below.drewS hb8') hb1 HC.out.1, keep (Below.drewS hb8') hb1 HC.out.2.1, keep (Below.drewS hb8') hb2 HC.out.2.2.1, keep (Below.drewS hb8') hb2 HC.out.2.2.2⟩))
      clear HC HC8
      go_wp2
      go_roundw
      case rel => exact ⟨k + 1, by omega, by go_num, HB8.out⟩
      case measure => simp [intOf]; omega
    · have hkn : k = n := by omega
      subst hkn
      go_wp2
      go_ret
      exact ⟨rfl, hbel⟩

set_option maxHeartbeats 800000 in
theorem eqMap_yes (a b : Option Addr) (ca cb : Nat) (ps : List (Int × Int)) (w : World) (ha : Pls w a ps) (hb : Pls w b ps) (hx : ps.length ≤ 1048576) :
    Calls Tryz.prog 10 #[.agg #[.slice a ps.length ca], .agg #[.slice b ps.length cb]] w fun e w' => e = .returned (.bool true) ∧ Below w.heap.size w w' := by
  have hw : Below w.heap.size w ((w.alloc (Obj.cells #[Value.slice a ps.length ca] 32)).alloc (Obj.cells #[Value.slice b ps.length cb] 32)) :=
    ((Below.refl _ _).alloc (Nat.le_refl _) _).alloc (by simp) _
  go_enter Tryz.func10, Tryz.ntmps10
  go_wp2_with fail
  refine (eqPlaceS_yes a b ca cb ps _ (ha.below hw (Nat.le_refl _)) (hb.below hw (Nat.le_refl _)) hx).mono ?_
  rintro e w1 ⟨rfl, hb1⟩
  go_wp2
  go_ret
  exact ⟨rfl, hw.trans (hb1.mono (by simp; omega))⟩
end Go.Proofs.YtennmikgehidiaaGreatDoor
