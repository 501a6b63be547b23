/-
  Named variables, one behind the other.
-/
import Derived.Test.YtjeippleimlljaaGreatDoorItF
import Derived.Test.YtjeippleimlljaaGreatDoorElN
import Derived.Test.YtjeippleimlljaaGreatDoorRp2
import Derived.Test.YtjeippleimlljaaGreatDoorStb
import Derived.Test.YtjeippleimlljaaGreatDoorRows
import Derived.WalkKit
import Derived.ProofKit
import Derived.OpenShut
import Derived.ShutString
import Derived.ChangeOld
import Derived.Below
import Derived.Lib.SmallJoins
import Derived.Test.YtjeippleimlljaaGreatDoorCards
import Derived.Test.YtjeippleimlljaaGreatDoorTie
import Derived.LaidMore
import Derived.Stop.Joined
import Derived.Stop.LaidErr
import Derived.WalkSmall
import Derived.SevenTiedAt
namespace Go.Proofs.YtjeippleimlljaaGreatDoor
open Go.RowKit
set_option linter.unusedVariables false

section
variable {w w' : World} {B : Nat} {v : Value} {es : List El}
theorem OVt.letters (h : OVt w B v es) (k : Nat) (hk : k < es.length) (s : El) (hs : s.cells true = (es.getD k de).cells true) (hm : Mine w B w.heap.size (es.getD k de).a (es.getD k de).c (es.getD k de).ls) (ho : Only (rowOf (es.getD k de).a) w w') : OVt w' B v (es.set k s) := by
  have h2 := h.stay ho (fun b hb => h.other hm hb)
  exact ⟨by rw [List.length_set, flat_setE true es s k hk hs]; exact h2.own⟩
end

set_option maxHeartbeats 4000000 in
theorem markItemS_own (a : Option Addr) (cap B : Nat) (ss : List El) (k : Int) (w : World) (h : OVt w B (.slice a ss.length cap) ss) (hd : Deep w B ss) (hn : ss.length + elets ss ≤ 1048576) (h0 : 0 ≤ k) (h1 : k + ss.length + elets ss ≤ 2097152) :
    Calls Tryz.prog 17 #[.slice a ss.length cap, .int .i64 k] w fun e w' => e = .returned (.int .i64 (k + elets ss + ss.length)) ∧ (OVt w' B (.slice a ss.length cap) (mkE true k ss) ∧ Deep w' B (mkE true k ss)) ∧ Only (fun b => (Value.slice a ss.length cap).ownBlock = some b ∨ ∃ s ∈ ss, rowOf s.a b) w w' := by
  have HST : Hid _ := mkE_step true k ss
  have HGE : Hid _ := mkE_rest true k ss
  have HSU : Hid _ := mkA_succ true k ss
  have HLB : Hid _ := mkA_le true k ss
  have HLE : Hid (∀ j, j ≤ ss.length → (mkE true k (ss.take j) ++ ss.drop j).length = ss.length) := fun j hj => by rw [List.length_append, mkE_len, List.length_take, List.length_drop]; omega
  have HO : Hid (OVt w B (.slice a ss.length cap) ss ∧ Deep w B ss) := ⟨h, hd⟩
  have HMM : Hid (∀ j, j < ss.length → ss.getD j de ∈ ss ∧ (ss.getD j de).ls.length ≤ elets ss) := fun j hj => ⟨getD_memE hj, elets_mem (getD_memE hj)⟩
  clear h hd
  have HFI : Hid (mkE true k (ss.take ss.length) ++ ss.drop ss.length = mkE true k ss ∧ mkA true k ss ss.length = k + elets ss + ss.length) := ⟨by rw [List.take_length]; simp, by rw [mkA_all]; simp [eO]⟩
  generalize hlen : ss.length = n at *
  have HL : Hid (ss.length = n ∧ True) := ⟨hlen, trivial⟩
  clear hlen
  generalize hT : elets ss = T at *
  clear hT
  go_enter Tryz.func17, Tryz.ntmps17
  go_wp2
  go_loopw [1, 5] (fun q i wr => ∃ (j : Nat) (y : Int), j ≤ n ∧ i = .int .i64 j ∧ q = .int .i64 y ∧ y = mkA true k ss j ∧ OVt wr B (.slice a n cap) (mkE true k (ss.take j) ++ ss.drop j) ∧ Deep wr B (mkE true k (ss.take j) ++ ss.drop j) ∧ Only (fun b => (Value.slice a n cap).ownBlock = some b ∨ ∃ s ∈ ss, rowOf s.a b) w wr) (fun _ i _ => n - (intOf i).toNat)
  case atStart => exact ⟨0, k, Nat.zero_le _, rfl, rfl, by simp [mkA, elets], by simpa [mkE] using HO.out.1, by simpa [mkE] using HO.out.2, Only.refl _ _⟩
  case round =>
    clear HO
    obtain ⟨j, y, hj, rfl, rfl, hy, hown, hdeep, honly⟩ := hrel
    have hyb := HLB.out j hj
    have HY : Hid (y = mkA true k ss j ∧ True) := ⟨hy, trivial⟩
    rw [← hy] at hyb
    have HOW : Hid (OVt wr B (.slice a n cap) (mkE true k (ss.take j) ++ ss.drop j) ∧ Deep wr B (mkE true k (ss.take j) ++ ss.drop j)) := ⟨hown, hdeep⟩
    have HON : Hid (Only (fun b => (Value.slice a n cap).ownBlock = some b ∨ ∃ s ∈ ss, rowOf s.a b) w wr) := honly
    clear hy
    by_cases hjn : j < n
    · obtain ⟨g, cap', e', _, hg2, hfz, hli⟩ := hown.cell j (by rw [HLE.out j hj]; exact hjn)
      have hl0 := (hli j (by rw [HLE.out j hj]; exact hjn)).c0 rfl
      have hl1 := (hli j (by rw [HLE.out j hj]; exact hjn)).c1
      have hmi := hdeep.mine _ (getD_memE (k := j) (by rw [HLE.out j hj]; exact hjn))
      rw [HGE.out j hjn] at hl0 hl1 hmi
      simp only [eW, eO, cond_true] at hl0 hl1
      obtain ⟨rfl, -, rfl⟩ : a = some ⟨g, 0, none⟩ ∧ _ ∧ cap = cap' := by simpa using e'
      have f0 := hfz (j * 2)
      have hst := HST.out j hjn
      rw [← HY.out.1] at hst
      have HSTJ : Hid (_ ∧ True) := ⟨hst, trivial⟩
      obtain ⟨HIN, hT2⟩ := HMM.out j hjn
      have HGJ : Hid (_ ∧ True) := ⟨HGE.out j hjn, trivial⟩
      have HYN : Hid (mkA true k ss (j + 1) = y + 1 + (ss.getD j de).ls.length ∧ True) := ⟨by rw [HSU.out j hjn, HY.out.1]; simp [eO], trivial⟩
      have hlk : j < (mkE true k (ss.take j) ++ ss.drop j).length := by rw [HLE.out j hj]; exact hjn
      have hlk2 : ∀ s : El, j < ((mkE true k (ss.take j) ++ ss.drop j).set j s).length := fun s => by rw [List.length_set]; exact hlk
      have hgs : ∀ s : El, ((mkE true k (ss.take j) ++ ss.drop j).set j s).getD j de = s := fun s => by rw [getD_setE _ j j _ hlk, if_pos rfl]
      have hR1 := hown.store j hlk { (ss.getD j de) with n := y } 0 (by simp [eW]) (.int .i64 y) (by rw [HGE.out j hjn]; rfl) (g := g) rfl
      have hon1 : Only (fun b => b = g) wr (wr.setCell ⟨g, j * 2, none⟩ (.int .i64 y)) := (Only.refl (fun b => b = g) wr).setCell (p := ⟨g, j * 2, none⟩) (.inl rfl) _
      have hD1 := hdeep.stay hon1 (fun x hx b hb e => hown.other (hdeep.mine x hx) (g := g) rfl (e ▸ hb))
      have hD2 : Deep (wr.setCell ⟨g, j * 2, none⟩ (.int .i64 y)) B ((mkE true k (ss.take j) ++ ss.drop j).set j { (ss.getD j de) with n := y }) := by
        refine ⟨fun t ht => ?_, by rw [map_setE _ j _ (by rw [HGE.out j hjn]) hlk]; exact hD1.apart⟩
        rcases List.mem_or_eq_of_mem_set ht with ht | rfl
        · exact hD1.mine t ht
        · have := hD1.mine _ (getD_memE hlk)
          rw [HGE.out j hjn] at this
          exact this
      have hmi1 := hD2.mine _ (getD_memE (hlk2 _))
      rw [hgs] at hmi1
      simp only at hmi1
      rw [show j * eW true + 0 = j * 2 from by simp [eW]] at hR1
      have HR1 : Hid (OVt (wr.setCell ⟨g, j * 2, none⟩ (.int .i64 y)) B (.slice (some ⟨g, 0, none⟩) n cap) ((mkE true k (ss.take j) ++ ss.drop j).set j { (ss.getD j de) with n := y }) ∧ Deep (wr.setCell ⟨g, j * 2, none⟩ (.int .i64 y)) B ((mkE true k (ss.take j) ++ ss.drop j).set j { (ss.getD j de) with n := y })) := ⟨hR1, hD2⟩
      have HMI : Hid (Mine (wr.setCell ⟨g, j * 2, none⟩ (.int .i64 y)) B (wr.setCell ⟨g, j * 2, none⟩ (.int .i64 y)).heap.size (ss.getD j de).a (ss.getD j de).c (ss.getD j de).ls) := hmi1
      have HMK := markByteS_any (ss.getD j de).a B _ (ss.getD j de).c (ss.getD j de).ls (y + 1) _ hmi1 (by omega) (by omega) (by have h9 := HLB.out (j + 1) (by omega); rw [HYN.out.1] at h9; omega)
      have HIN' : Hid (ss.getD j de ∈ ss) := HIN
      have HON1 : Hid (Only (fun b => (Value.slice (some ⟨g, 0, none⟩) n cap).ownBlock = some b ∨ ∃ s ∈ ss, rowOf s.a b) w (wr.setCell ⟨g, j * 2, none⟩ (.int .i64 y))) := HON.out.trans (hon1.mono (fun b _ hb => .inl (by rw [hb]; rfl)))
      have HK2 : Hid ((∀ s : El, j < ((mkE true k (ss.take j) ++ ss.drop j).set j s).length) ∧ (∀ s : El, ((mkE true k (ss.take j) ++ ss.drop j).set j s).getD j de = s)) := ⟨hlk2, hgs⟩
      clear hst hown hdeep honly hmi hli e' HIN HY hR1 hD1 hD2 hmi1 hon1 hlk hlk2 hgs hfz HON HOW
      generalize hs : ss.getD j de = s at *
      clear hs
      go_wp2_with fail
      refine HMK.mono ?_
      clear HMK
      rintro e w2 ⟨rfl, hm2, ho2⟩
      have hc2 : (mk1 true y s).cells true = (((mkE true k (ss.take j) ++ ss.drop j).set j { s with n := y }).getD j de).cells true := by rw [HK2.out.2]; simp [mk1, El.cells, marks_len]
      have hR2 := HR1.out.1.letters j (HK2.out.1 _) (mk1 true y s) hc2 (by rw [HK2.out.2]; exact HMI.out) (w' := w2) (by rw [HK2.out.2]; exact ho2)
      have hD2 := HR1.out.2.letters j (HK2.out.1 _) (mk1 true y s) (by rw [HK2.out.2]; rfl) (w' := w2) (by rw [HK2.out.2]; exact ho2) (by simpa [mk1, eO] using hm2)
      rw [List.set_set, HSTJ.out.1] at hR2 hD2
      have HN2 : Hid _ := And.intro hR2 hD2
      have HO2 : Hid (Only (fun b => (Value.slice (some ⟨g, 0, none⟩) n cap).ownBlock = some b ∨ ∃ s ∈ ss, rowOf s.a b) w w2) := HON1.out.trans (ho2.mono (fun b _ hb => .inr ⟨s, HIN'.out, hb⟩))
      clear hR2 hD2 hc2 ho2 hm2 HMI HGJ HR1 HON1
      go_wp2
      go_roundw
      case rel => exact ⟨j + 1, _, by omega, by go_num, rfl, HYN.out.1.symm, HN2.out.1, HN2.out.2, HO2.out⟩
      case measure => simp [intOf]; omega
    · have hjn2 : j = n := by omega
      subst hjn2
      have HFO : Hid (OVt wr B (.slice a j cap) (mkE true k ss) ∧ Deep wr B (mkE true k ss)) := by rw [← HFI.out.1]; exact HOW.out
      have HYF : Hid (y = k + (T : Nat) + (j : Nat) ∧ True) := ⟨HY.out.1.trans HFI.out.2, trivial⟩
      clear HOW hown hdeep
      go_wp2
      go_ret
      exact ⟨by rw [← HYF.out.1]; rfl, HFO.out, HON.out⟩

set_option maxHeartbeats 1000000 in
theorem markPack_own (E O : Int) (a : Option Addr) (cap B : Nat) (ss : List El) (k : Int) (w : World) (h : OVt w B (.slice a ss.length cap) ss) (hd : Deep w B ss) (hn : ss.length + elets ss ≤ 1048576) (h0 : 0 ≤ k) (h1 : k + ss.length + elets ss ≤ 2097152) :
    Calls Tryz.prog 10 #[.agg #[.int .i64 E, .int .i64 O, .slice a ss.length cap], .int .i64 k] w fun e w' => e = .returned (.int .i64 (k + elets ss + ss.length)) ∧ (OVt w' B (.slice a ss.length cap) (mkE true k ss) ∧ Deep w' B (mkE true k ss)) ∧ Only (fun b => (Value.slice a ss.length cap).ownBlock = some b ∨ ∃ s ∈ ss, rowOf s.a b) w w' := by
  have hw : Below w.heap.size w (w.alloc (Obj.cells #[Value.int IntKind.i64 E, Value.int IntKind.i64 O, Value.slice a ss.length cap] 25)) := (Below.refl _ _).alloc (Nat.le_refl _) _
  have HM := markItemS_own a cap B ss k _ (h.below hw) (hd.below hw) hn h0 h1
  clear h hd
  go_enter Tryz.func10, Tryz.ntmps10
  go_wp2_with fail
  refine HM.mono ?_
  clear HM
  rintro e w1 ⟨rfl, h2, h3⟩
  have HF : Hid ((OVt w1 B (.slice a ss.length cap) (mkE true k ss) ∧ Deep w1 B (mkE true k ss)) ∧ Only (fun b => (Value.slice a ss.length cap).ownBlock = some b ∨ ∃ s ∈ ss, rowOf s.a b) w w1) := ⟨h2, ((Only.refl (fun b => (Value.slice a ss.length cap).ownBlock = some b ∨ ∃ s ∈ ss, rowOf s.a b) w).alloc _).trans h3⟩
  clear h2 h3 hw
  go_wp2
  go_ret
  exact ⟨rfl, HF.out.1, HF.out.2⟩
end Go.Proofs.YtjeippleimlljaaGreatDoor
namespace Go.Proofs.YtjeippleimlljaaGreatDoor
open Go.RowKit
set_option linter.unusedVariables false

set_option maxHeartbeats 400000 in
theorem heldByteS_any (a : Option Addr) (cap n : Nat) (k : Int) (w : World) (h : Byt w a (marks k n)) (hn : n ≤ 2097152) (h0 : 0 ≤ k) (h1 : k ≤ 2097152) :
    Calls Tryz.prog 29 #[.slice a n cap, .int .i64 k] w fun e w' => e = .returned (.int .i64 (k + n)) ∧ w' = w := by
  have hl := marks_len k n
  have HB : Hid (Byt w a (marks k n)) := h
  clear h
  go_enter Tryz.func29, Tryz.ntmps29
  go_wp2
  go_loop [1, 5] (fun q i => ∃ j : Nat, j ≤ n ∧ i = .int .i64 j ∧ q = .int .i64 (k + j)) (fun _ i => n - (intOf i).toNat)
  case atStart => exact ⟨0, Nat.zero_le _, rfl, by simp⟩
  case round =>
    obtain ⟨j, hj, rfl, rfl⟩ := hrel
    by_cases hlt : j < n
    · obtain ⟨b, off, rfl, hbl, hc⟩ := HB.out.len_pos j (by rw [hl]; exact hlt)
      have hs := hc j (by rw [hl]; exact hlt)
      rw [marks_get k n j hlt] at hs
      have hq : ((k + j) % 256 != (k + j) % 256) = false := by simp
      clear hc hl
      go_wp2
      go_round
      case rel => exact ⟨j + 1, by omega, by go_num, by go_num⟩
      case measure => simp [intOf]; omega
    · have hjn : j = n := by omega
      subst hjn
      go_wp2
      go_ret
      exact ⟨rfl, rfl⟩
end Go.Proofs.YtjeippleimlljaaGreatDoor
namespace Go.Proofs.YtjeippleimlljaaGreatDoor
open Go.RowKit
set_option linter.unusedVariables false

set_option maxHeartbeats 4000000 in
theorem heldItemS_any (a : Option Addr) (cap : Nat) (ss : List El) (k : Int) (w : World) (h : Els true w a (mkE true k ss)) (hn : ss.length + elets ss ≤ 1048576) (h0 : 0 ≤ k) (h1 : k + ss.length + elets ss < 2097152) :
    Calls Tryz.prog 18 #[.slice a ss.length cap, .int .i64 k] w fun e w' => e = .returned (.int .i64 (k + elets ss + ss.length)) ∧ w' = w := by
  have HGE : Hid _ := mkE_get true k ss
  have HSU : Hid _ := mkA_succ true k ss
  have HLB : Hid _ := mkA_le true k ss
  have HSS : Hid (Els true w a (mkE true k ss)) := h
  have HMM : Hid (∀ j, j < ss.length → (ss.getD j de).ls.length ≤ elets ss) := fun j hj => elets_mem (getD_memE hj)
  have HFI : Hid ((mkE true k ss).length = ss.length ∧ mkA true k ss ss.length = k + elets ss + ss.length) := ⟨mkE_len _ _ _, by rw [mkA_all]; simp [eO]⟩
  clear h
  generalize hlen : ss.length = n at *
  have HL : Hid (ss.length = n ∧ True) := ⟨hlen, trivial⟩
  clear hlen
  generalize hT : elets ss = T at *
  clear hT
  go_enter Tryz.func18, Tryz.ntmps18
  go_wp2
  go_loop [1, 5] (fun q i => ∃ (j : Nat) (y : Int), j ≤ n ∧ i = .int .i64 j ∧ q = .int .i64 y ∧ y = mkA true k ss j) (fun _ i => n - (intOf i).toNat)
  case atStart => exact ⟨0, k, Nat.zero_le _, rfl, rfl, by simp [mkA, elets]⟩
  case round =>
    obtain ⟨j, y, hj, rfl, rfl, hy⟩ := hrel
    have hyb := HLB.out j hj
    have HY : Hid (y = mkA true k ss j ∧ True) := ⟨hy, trivial⟩
    rw [← hy] at hyb
    clear hy
    by_cases hjn : j < n
    · obtain ⟨b, off, rfl, hb1, c0, c1, hby, -⟩ := HSS.out.pen j (by rw [HFI.out.1]; exact hjn)
      rw [HGE.out j hjn, ← HY.out.1] at c0 c1 hby
      simp only [mk1, marks_len, cond_true] at c0 c1 hby
      rw [show y + ((eO true : Nat) : Int) = y + 1 from by simp [eO]] at hby
      have HBY : Hid (Byt w (ss.getD j de).a (marks (y + 1) (ss.getD j de).ls.length)) := hby
      have HYN : Hid (mkA true k ss (j + 1) = y + 1 + (ss.getD j de).ls.length ∧ True) := ⟨by rw [HSU.out j hjn, HY.out.1]; simp [eO], trivial⟩
      have hT2 := HMM.out j hjn
      clear hby HY
      generalize ss.getD j de = s at *
      have HHB := heldByteS_any s.a s.c s.ls.length (y + 1) w HBY.out (by omega) (by omega) (by omega)
      generalize s.ls.length = M at *
      have hyy : (y != y) = false := by simp
      go_wp2_with fail
      refine HHB.mono ?_
      clear HHB
      rintro e w2 ⟨rfl, rfl⟩
      go_wp2
      go_round
      case rel => exact ⟨j + 1, _, by omega, by go_num, rfl, HYN.out.1.symm⟩
      case measure => simp [intOf]; omega
    · have hjn2 : j = n := by omega
      subst hjn2
      have HYF : Hid (y = k + (T : Nat) + (j : Nat) ∧ True) := ⟨HY.out.1.trans HFI.out.2, trivial⟩
      go_wp2
      go_ret
      exact ⟨by rw [← HYF.out.1]; rfl, rfl⟩
end Go.Proofs.YtjeippleimlljaaGreatDoor
namespace Go.Proofs.YtjeippleimlljaaGreatDoor
open Go.RowKit
set_option linter.unusedVariables false
set_option linter.unusedSimpArgs false

set_option maxHeartbeats 1000000 in
theorem heldPack_any (E O : Int) (a : Option Addr) (cap : Nat) (ss : List El) (k : Int) (w : World) (h : Els true w a (mkE true k ss)) (hn : ss.length + elets ss ≤ 1048576) (h0 : 0 ≤ k) (h1 : k + ss.length + elets ss < 2097152) :
    Calls Tryz.prog 11 #[.agg #[.int .i64 E, .int .i64 O, .slice a ss.length cap], .int .i64 k] w fun e w' => e = .returned (.int .i64 (k + elets ss + ss.length)) ∧ Below w.heap.size w w' := by
  have hw : Below w.heap.size w (w.alloc (Obj.cells #[Value.int IntKind.i64 E, Value.int IntKind.i64 O, Value.slice a ss.length cap] 25)) := (Below.refl _ _).alloc (Nat.le_refl _) _
  have HM := heldItemS_any a cap ss k _ (h.below hw (Nat.le_refl _)) hn h0 h1
  clear h
  go_enter Tryz.func11, Tryz.ntmps11
  go_wp2_with fail
  refine HM.mono ?_
  clear HM
  rintro e w1 ⟨rfl, h3⟩
  have HF : Hid (Below w.heap.size w w1) := by
    first | exact hw.trans (h3.mono (by simp)) | (subst h3; exact hw)
  clear h3 hw
  have hnn : ¬ (k + elets ss + ss.length < 0) := by omega
  go_wp2
  go_ret
  exact ⟨rfl, HF.out⟩
end Go.Proofs.YtjeippleimlljaaGreatDoor
namespace Go.Proofs.YtjeippleimlljaaGreatDoor
open Go.RowKit
set_option linter.unusedVariables false

structure Snp (w W : World) (N U V Z : Nat) (PB PW PX PG : World → Prop) : Prop where
  bel : Below w.heap.size w W
  ord : w.heap.size ≤ N ∧ N ≤ U ∧ U ≤ V ∧ V ≤ Z ∧ Z ≤ W.heap.size
  sb : Stab w.heap.size N PB
  hb : PB W
  sw : Stab N U PW
  hw : PW W
  sx : Stab U V PX
  hx : PX W
  sg : Stab V Z PG
  hg : PG W
section
variable {w W W' : World} {N U V Z : Nat} {PB PW PX PG : World → Prop}
theorem Snp.step (h : Snp w W N U V Z PB PW PX PG) (hb : Below W.heap.size W W') : Snp w W' N U V Z PB PW PX PG := by
  have o := h.ord; have hs := hb.size
  have ho : Only (fun _ => False) W W' := Only.ofBelow hb (Nat.le_refl _)
  exact ⟨h.bel.trans (hb.mono (by omega)), by omega, h.sb, h.sb _ _ _ h.hb ho (by simp) (by omega), h.sw, h.sw _ _ _ h.hw ho (by simp) (by omega), h.sx, h.sx _ _ _ h.hx ho (by simp) (by omega), h.sg, h.sg _ _ _ h.hg ho (by simp) (by omega)⟩
theorem Snp.drew (h : Snp w W N U V Z PB PW PX PG) (n : Nat) : Snp w (W.drewN n) N U V Z PB PW PX PG := h.step ⟨rfl, rfl, rfl, Nat.le_refl _, fun _ _ => rfl⟩
theorem Snp.markX {T : Nat → Prop} {PX' : World → Prop} (h : Snp w W N U V Z PB PW PX PG) (ho : Only T W W') (hT : ∀ k, T k → U ≤ k ∧ k < V) (sx : Stab U V PX') (hx : PX' W') : Snp w W' N U V Z PB PW PX' PG := by
  have o := h.ord; have hs := ho.size
  have hbel : Below w.heap.size W W' := ho.below (by omega) (fun k hk => by have := hT k hk; omega)
  exact ⟨h.bel.trans hbel, by omega, h.sb, h.sb _ _ _ h.hb ho (fun k h1 h2 hk => by have := hT k hk; omega) (by omega), h.sw, h.sw _ _ _ h.hw ho (fun k h1 h2 hk => by have := hT k hk; omega) (by omega), sx, hx, h.sg, h.sg _ _ _ h.hg ho (fun k h1 h2 hk => by have := hT k hk; omega) (by omega)⟩
theorem Snp.markG {T : Nat → Prop} {PG' : World → Prop} (h : Snp w W N U V Z PB PW PX PG) (ho : Only T W W') (hT : ∀ k, T k → V ≤ k ∧ k < Z) (sg : Stab V Z PG') (hg : PG' W') : Snp w W' N U V Z PB PW PX PG' := by
  have o := h.ord; have hs := ho.size
  have hbel : Below w.heap.size W W' := ho.below (by omega) (fun k hk => by have := hT k hk; omega)
  exact ⟨h.bel.trans hbel, by omega, h.sb, h.sb _ _ _ h.hb ho (fun k h1 h2 hk => by have := hT k hk; omega) (by omega), h.sw, h.sw _ _ _ h.hw ho (fun k h1 h2 hk => by have := hT k hk; omega) (by omega), h.sx, h.sx _ _ _ h.hx ho (fun k h1 h2 hk => by have := hT k hk; omega) (by omega), sg, hg⟩
end
theorem MinI.rowT {W : World} {B D : Nat} {a : Option Addr} {c : Nat} {zs : List Int} (h : MinI W B D a c zs) {k : Nat} (hk : rowOf a k) : B ≤ k ∧ k < D := by
  obtain ⟨x, hx, rfl⟩ := hk
  rcases h with ⟨h', _⟩ | ⟨g, h', g1, g2, _⟩
  · rw [h'] at hx; cases hx
  · rw [h'] at hx
    simp at hx
    rw [← hx]
    exact ⟨g1, g2⟩
theorem Mine.rowT {W : World} {B D : Nat} {a : Option Addr} {c : Nat} {zs : List Int} (h : Mine W B D a c zs) {k : Nat} (hk : rowOf a k) : B ≤ k ∧ k < D := by
  obtain ⟨x, hx, rfl⟩ := hk
  rcases h with ⟨h', _⟩ | ⟨g, h', g1, g2, _⟩
  · rw [h'] at hx; cases hx
  · rw [h'] at hx
    simp at hx
    rw [← hx]
    exact ⟨g1, g2⟩
end Go.Proofs.YtjeippleimlljaaGreatDoor
namespace Go.Proofs.YtjeippleimlljaaGreatDoor
open Go.ChangeShapes Go.WideShapes Go.ChangeAt Go.RowKit Go.Joins
set_option linter.unusedVariables false

theorem Tryz.own : ownKnob Tryz.prog.godebug = none := by kernel_rfl
theorem Tryz.laidOut : laidOutB Tryz.prog = true := by kernel_rfl

/-- A slice of bytes that came in reads as some bytes. -/
theorem byt_of_trod {H : Type} {enc : TypeId × Value → H} {W : World} {fuel : Nat} {v : Value} {y : DataW H × List MemPlace}
    (h : DataW.trod enc Tryz.prog W 0 (fun _ => true) true fuel 22 [v] = some y) :
    ∃ (a : Option Addr) (zs : List Int) (cap : Nat), v = .slice a zs.length cap ∧ Byt W a zs ∧ zs.length ≤ maxLen := by
  rcases open_ints Tryz.underlying22 Tryz.underlying5 (by kernel_rfl) h with ⟨hcs, _⟩ | ⟨x, l, c, zs, hcs, _, hl, hm, hz, _, hcell, hwz⟩
  · simp at hcs
    subst hcs
    exact ⟨.none, [], 0, rfl, ⟨by simp, by simp⟩, by simp [maxLen]⟩
  · simp at hcs
    subst hcs
    simp only [if_true] at hz
    have hlen : (zs.take l).length = l := by rw [List.length_take]; omega
    refine ⟨some x, zs.take l, c, by rw [hlen], ⟨?_, ?_⟩, by rw [hlen]; omega⟩
    · intro z hz'
      have := hwz z (List.mem_of_mem_take hz')
      simp [Lit.wf] at this
      exact bounds_u8 (hwz z (List.mem_of_mem_take hz'))
    · intro hp
      rw [hlen] at hp
      obtain ⟨b, off, spot⟩ := x
      have hc := hcell 0 (by omega)
      have hspot : spot = .none := by simpa [Addr.add] using World.cell?_spot hc
      subst hspot
      refine ⟨b, off, rfl, ?_, fun i hi => ?_⟩
      · have := World.block_lt_of_cell? _ _ hc
        simpa [Addr.add] using this
      · rw [hlen] at hi
        have := hcell i (by omega)
        have hadd : (⟨b, off, .none⟩ : Addr).add i = ⟨b, off + i, .none⟩ := by unfold Addr.add; split <;> simp_all
        rw [hadd] at this
        rw [show (zs.take l).getD i 0 = zs.getD i 0 from by simp [hi]]
        exact this

end Go.Proofs.YtjeippleimlljaaGreatDoor
namespace Go.Proofs.YtjeippleimlljaaGreatDoor
open Go.ChangeShapes Go.WideShapes Go.ChangeAt Go.RowKit Go.Joins
set_option linter.unusedVariables false

theorem Tryz.gRange : Tryz.prog.globalNamed "loop.example/g00528/impl.errRange" = some 12 := by kernel_rfl
theorem Tryz.gFull : Tryz.prog.globalNamed "loop.example/g00528/impl.errFull" = some 23 := by kernel_rfl
theorem Tryz.gOver : Tryz.prog.globalNamed "loop.example/g00528/impl.errOver" = some 13 := by kernel_rfl
theorem Tryz.tRange : (Tryz.prog.globals[12]?).map (·.type) = some 40 := by kernel_rfl
theorem Tryz.tFull : (Tryz.prog.globals[23]?).map (·.type) = some 40 := by kernel_rfl
theorem Tryz.tOver : (Tryz.prog.globals[13]?).map (·.type) = some 40 := by kernel_rfl
theorem Tryz.cellsES : Tryz.prog.cellsOf 209 = 1 := by kernel_rfl
theorem Tryz.cellsStr : Tryz.prog.cellsOf 9 = 1 := by kernel_rfl
theorem Tryz.star : "*" ++ "errors.errorString" = "*errors.errorString" := by decide
theorem Tryz.rowES (u : TypeId) (h : Tryz.prog.typeName? 3 u = some "*errors.errorString") : u = 184 :=
  typeName_ptr_named (nm := "errors.errorString") (by rw [Tryz.star]; kernel_rfl) (by kernel_rfl) (by decide) u (by rw [Tryz.star]; exact h)

/-- The head of a list of sentinels. -/
theorem sentinel {n : String} {text : List UInt8} {r : List (String × DataW Unit)} {W : World} {g : Nat} (h : laidMet Tryz.prog ((n, .iface "*errors.errorString" (.ptr (.agg [.lit (.string text)]))) :: r) W)
    (hg : Tryz.prog.globalNamed n = some g) (ht : (Tryz.prog.globals[g]?).map (·.type) = some 40) :
    ∃ a : Addr, W.var? Tryz.prog n = some #[.iface 184 (.pointer (some a))] ∧ W.cell? ⟨g, 0, .none⟩ = some (.iface 184 (.pointer (some a))) := by
  obtain ⟨a0, s0, hv0, hc0, hs0, hz0⟩ := laid_sentinel h hg ht Tryz.underlying40 Tryz.rowES Tryz.underlying184 Tryz.underlying209 rfl rfl Tryz.underlying9 Tryz.cellsES Tryz.cellsStr
  exact ⟨a0, hv0, by simpa using World.var?_cell hg hv0 0⟩

end Go.Proofs.YtjeippleimlljaaGreatDoor
namespace Go.Proofs.YtjeippleimlljaaGreatDoor
open Go.ChangeShapes Go.WideShapes Go.ChangeAt Go.RowKit Go.Joins

theorem vars_three {H : Type} (enc : TypeId × Value → H) {P : Program} {W : World} {n0 n1 n2 : String} {g0 g1 g2 : Nat} {t0 t1 t2 : TypeId} {ms0 ms1 ms2 : Array (String × TypeId)} {x0 x1 x2 : Value}
    (hg0 : P.globalNamed n0 = some g0) (ht0 : (P.globals[g0]?).map (·.type) = some t0) (hi0 : P.underlying t0 = some (.interface ms0)) (h0 : W.var? P n0 = some #[x0]) (i0 : IsIface x0)
    (hg1 : P.globalNamed n1 = some g1) (ht1 : (P.globals[g1]?).map (·.type) = some t1) (hi1 : P.underlying t1 = some (.interface ms1)) (h1 : W.var? P n1 = some #[x1]) (i1 : IsIface x1)
    (hg2 : P.globalNamed n2 = some g2) (ht2 : (P.globals[g2]?).map (·.type) = some t2) (hi2 : P.underlying t2 = some (.interface ms2)) (h2 : W.var? P n2 = some #[x2]) (i2 : IsIface x2) (sp : Nat → Bool) :
    DataW.TrodVars enc P W sp [n0, n1, n2] [tok enc x0, tok enc x1, tok enc x2] [.cell g0 0, .cell g1 0, .cell g2 0] :=
  ⟨g0, t0, #[x0], 1, [], [.cell g1 0, .cell g2 0], hg0, ht0, h0, trod_held hi0 i0 0, vars_read2 enc hg1 ht1 hi1 h1 i1 hg2 ht2 hi2 h2 i2 sp, rfl⟩
end Go.Proofs.YtjeippleimlljaaGreatDoor
namespace Go.Proofs.YtjeippleimlljaaGreatDoor
open Go.ChangeShapes Go.WideShapes Go.ChangeAt Go.RowKit Go.Joins
set_option linter.unusedVariables false

theorem vars_nil {H : Type} (enc : TypeId × Value → H) {P : Program} {W : World} (sp : Nat → Bool) : DataW.TrodVars enc P W sp [] [] [] := rfl
theorem vars_consC {H : Type} (enc : TypeId × Value → H) {P : Program} {W : World} {n : String} {g : Nat} {t : TypeId} {ms : Array (String × TypeId)} {x : Value} {ns : List String} {ds : List (DataW H)} {ps : List MemPlace} {sp : Nat → Bool}
    (hg : P.globalNamed n = some g) (ht : (P.globals[g]?).map (·.type) = some t) (hi : P.underlying t = some (.interface ms)) (h : W.var? P n = some #[x]) (ix : IsIface x) (hr : DataW.TrodVars enc P W sp ns ds ps) :
    DataW.TrodVars enc P W sp (n :: ns) (tok enc x :: ds) (.cell g 0 :: ps) := ⟨g, t, #[x], 1, [], ps, hg, ht, h, trod_held hi ix 0, hr, rfl⟩
end Go.Proofs.YtjeippleimlljaaGreatDoor
