/-
  laws.toSeq and laws.toSeqS copy sequences into memory of their own.
-/
import Derived.Test.YtecmnbdnnlifhaaDoorSqP
import Derived.Test.YtecmnbdnnlifhaaDoorCopy
namespace Go.Proofs.YtecmnbdnnlifhaaDoor
open Go.RowKit
set_option linter.unusedVariables false

set_option maxHeartbeats 800000 in
theorem toSeq_any (a : Option Addr) (cap : Nat) (zs : List Int) (n d : Int) (w : World) (hb : Byt w a zs) (hn : zs.length ≤ 1048576) :
    Calls Tryd.prog 26 #[.agg #[.slice a zs.length cap, .int .i64 n, .int .i64 d]] w fun e w' =>
      ∃ g, e = .returned (.agg #[.slice (some ⟨g, 0, none⟩) zs.length zs.length, .int .i64 n, .int .i64 d]) ∧ Own w' w.heap.size g zs.length zs ∧ Below w.heap.size w w' := by
  go_enter Tryd.func26, Tryd.ntmps26
  go_wp2_with fail
  have hw : Below w.heap.size w (((w.alloc (Obj.cells #[Value.slice a zs.length cap, Value.int IntKind.i64 n, Value.int IntKind.i64 d] 48)).alloc (Obj.cells #[Value.slice none 0 0, Value.int IntKind.i64 0, Value.int IntKind.i64 0] 52)).alloc (Obj.cells #[Value.slice none 0 0, Value.int IntKind.i64 0, Value.int IntKind.i64 0] 52)) :=
    (((Below.refl _ _).alloc (Nat.le_refl _) _).alloc (by simp) _).alloc (by simp; omega) _
  refine (toByteS_any a cap zs _ (hb.below hw (Nat.le_refl _)) hn).mono ?_
  rintro e w1 ⟨rfl, hown, hbel⟩
  obtain ⟨hc, hf⟩ := bcell hbel
  have hz := hbel.size
  have hb2 := hw.trans (hbel.mono (by simp; omega))
  simp at hc hf hz hown
  clear hbel hw
  go_wp2
  refine bodyPost_ret (v := .agg #[.slice (some ⟨w.heap.size + 1 + 1 + 1, 0, none⟩) zs.length zs.length, .int .i64 n, .int .i64 d]) (by simp [results, Tryd.results26, go_sem, hc]) rfl ⟨_, rfl, ?_, ?_⟩
  · refine Own.mono (B := w.heap.size + 1 + 1 + 1) ?_ (by omega)
    repeat (refine Own.setCell_other ?_ (by simp) _)
    exact hown
  · repeat (refine Below.setCell ?_ (by first | (simp; done) | (simp; omega)) _)
    exact hb2

theorem Tryd.infoSeq : (Tryd.prog.info? 52).map (fun i => (i.zero, i.size, i.bytes)) = some (some (.agg #[.slice none 0 0, .int .i64 0, .int .i64 0]), 3, 40) := by kernel_rfl
theorem made_seqs (n : Nat) : (madeCells (Value.agg #[.slice none 0 0, .int .i64 0, .int .i64 0]).cells (n * 3)).toList = (List.replicate n dq).flatMap Sq.cells := by
  apply List.ext_getElem?
  intro i
  by_cases hi : i < n * 3
  · have hd : i / 3 < (List.replicate n dq).length := by simp; omega
    have hg : (List.replicate n dq).getD (i / 3) dq = dq := by
      rw [List.getD_eq_getElem?_getD, List.getElem?_replicate]; split <;> rfl
    obtain ⟨f0, f1, f2⟩ := flat_get (List.replicate n dq) (i / 3) hd
    rw [hg] at f0 f1 f2
    simp only [madeCells, Array.toList_map, Array.toList_range, List.getElem?_map, List.getElem?_range hi, Option.map_some]
    have h3 : i % 3 = 0 ∨ i % 3 = 1 ∨ i % 3 = 2 := by omega
    rcases h3 with h3 | h3 | h3
    · rw [show i / 3 * 3 = i from by omega] at f0
      rw [f0]
      simp [Value.cells, h3, dq]
    · rw [show i / 3 * 3 + 1 = i from by omega] at f1
      rw [f1]
      simp [Value.cells, h3, dq]
    · rw [show i / 3 * 3 + 2 = i from by omega] at f2
      rw [f2]
      simp [Value.cells, h3, dq]
  · rw [List.getElem?_eq_none (by simp [madeCells]; omega), List.getElem?_eq_none (by rw [flat_len]; simp; omega)]

theorem getD_app_repl (bs : List Sq) (m i : Nat) (h : bs.length ≤ i) : (bs ++ List.replicate m dq).getD i dq = dq := by
  rw [List.getD_eq_getElem?_getD, List.getElem?_append_right h, List.getElem?_replicate]; split <;> rfl
theorem set_app_repl (bs : List Sq) (m k : Nat) (s : Sq) (h : bs.length = k) (hk : 0 < m) : (bs ++ List.replicate m dq).set k s = (bs ++ [s]) ++ List.replicate (m - 1) dq := by
  rw [List.set_append_right _ _ (by omega), h, Nat.sub_self, show m = (m - 1) + 1 from by omega, List.replicate_succ, List.set_cons_zero, List.append_assoc]
  rfl
theorem ct_take_succ (ss : List Sq) (k : Nat) (h : k < ss.length) : (ss.take (k + 1)).map Sq.ct = (ss.take k).map Sq.ct ++ [(ss.getD k dq).ct] := by
  rw [List.take_succ_eq_append_getElem h, List.map_append]
  simp [List.getD_eq_getElem?_getD, List.getElem?_eq_getElem h]

set_option maxHeartbeats 4000000 in
theorem toSeqS_any (a : Option Addr) (cap : Nat) (ss : List Sq) (w : World) (hb : Sqs w a ss) (hn : ss.length ≤ 1048576) (hl : ∀ s ∈ ss, s.ls.length ≤ 1048576) :
    Calls Tryd.prog 7 #[.slice a ss.length cap] w fun e w' =>
      e = .returned (.slice (some ⟨w.heap.size, 0, none⟩) ss.length ss.length) ∧ (∃ ts, ts.length = ss.length ∧ ts.map Sq.ct = ss.map Sq.ct ∧ OwS w' w.heap.size w.heap.size ss.length ts) ∧ Below w.heap.size w w' := by
  obtain ⟨i0, hi, hz0, hz1, hz2⟩ := info_parts Tryd.infoSeq
  have HSS : Hid (Sqs w a ss) := hb
  have HLS : Hid (∀ s ∈ ss, s.ls.length ≤ 1048576) := hl
  clear hb hl
  generalize hlen : ss.length = n at *
  have HL : Hid (ss.length = n) := hlen
  clear hlen
  go_enter Tryd.func7, Tryd.ntmps7
  go_wp2_with (at_make; refine wpList_make_full _ rfl _ _ 30 rfl w.heap.size 52 i0 (.agg #[.slice none 0 0, .int .i64 0, .int .i64 0]) 3 Tryd.underlying30 hi hz0 hz1 .i64 .i64 _ _ n rfl rfl rfl rfl (by rw [hz2]; omega) (by unfold maxLen; omega) (Nat.le_refl _) ?_; intro w1 hown hgrow)
  have hbw : Below w.heap.size w w1 := (Below.refl _ _).grown hgrow (Nat.le_refl _) (by intro k hk; cases hk)
  have H0 : Hid (OwS w1 w.heap.size w.heap.size n ([] ++ List.replicate n dq)) := by
    rw [List.nil_append]
    refine ⟨?_, ?_, ?_, ?_⟩
    · rw [made_seqs] at hown
      simpa using hown
    · intro s hs
      rw [(List.mem_replicate.1 hs).2]
      exact ⟨by unfold rI dq; simp, by unfold rI dq; simp, by simp [dq]⟩
    · intro s hs
      rw [(List.mem_replicate.1 hs).2]
      exact .inl ⟨rfl, rfl, rfl⟩
    · intro i j _ _ _ k hk
      have := getD_app_repl [] n i (by simp)
      rw [List.nil_append] at this
      rw [this] at hk
      obtain ⟨x, hx, _⟩ := hk
      cases hx
  clear hown hgrow hi hz0 hz1 hz2
  go_loopw [4] (fun i wr => ∃ (k : Nat) (bs : List Sq), k ≤ n ∧ i = .int .i64 k ∧ bs.length = k ∧ bs.map Sq.ct = (ss.take k).map Sq.ct ∧ OwS wr w.heap.size w.heap.size n (bs ++ List.replicate (n - k) dq) ∧ Below w.heap.size w wr) (fun i _ => n - (intOf i).toNat)
  case atStart => exact ⟨0, [], Nat.zero_le _, rfl, rfl, by simp, H0.out, hbw⟩
  case round =>
    clear H0 hbw
    obtain ⟨k, bs, hk, rfl, hbl, hct, hown, hbel⟩ := hrel
    have HBL : Hid (bs.length = k) := hbl
    have HCT : Hid (bs.map Sq.ct = (ss.take k).map Sq.ct) := hct
    have HO : Hid (OwS wr w.heap.size w.heap.size n (bs ++ List.replicate (n - k) dq)) := hown
    clear hbl hct hown
    by_cases hlt : k < n
    · obtain ⟨b, off, rfl, hb1, hc1⟩ := (HSS.out.below hbel (Nat.le_refl _)).len_pos k (by rw [HL.out]; exact hlt)
      have hli := hc1 k (by rw [HL.out]; exact hlt)
      have hrg := HSS.out.rng k (by rw [HL.out]; exact hlt)
      have hll := HLS.out _ (getD_memS (k := k) (by rw [HL.out]; exact hlt))
      have HCS : Hid ((ss.take (k + 1)).map Sq.ct = (ss.take k).map Sq.ct ++ [(ss.getD k dq).ct]) := ct_take_succ ss k (by rw [HL.out]; exact hlt)
      clear hc1
      generalize ss.getD k dq = s at *
      obtain ⟨sa, sc, sl, sn, sd⟩ := s
      obtain ⟨c0, c1, c2, hby⟩ := hli
      simp only at c0 c1 c2 hby hll hrg
      have HRG : Hid (rI sn ∧ rI sd ∧ sl.length ≤ maxLen) := hrg
      have HBY : Hid (Byt wr sa sl) := hby
      clear hrg hby
      go_wp2_with fail
      refine (toSeq_any sa sc sl sn sd wr HBY.out hll).mono ?_
      rintro e w2 ⟨g2, rfl, ho2, hb2⟩
      have hlt2 := ho2.lt
      have hlo : (bs ++ List.replicate (n - k) dq).length = n := by rw [List.length_append, List.length_replicate, HBL.out]; omega
      have hO2 : OwS w2 w.heap.size w.heap.size n (bs ++ List.replicate (n - k) dq) := HO.out.below hb2
      have hgk := HO.out.lt.2
      have hst := hO2.store k (by omega) ⟨some ⟨g2, 0, none⟩, sl.length, sl, sn, sd⟩ HRG.out (.inr ⟨g2, rfl, by have := hbel.size; omega, hlt2.2, ho2.mono hbel.size⟩) (by
        rintro i hi hik b ⟨x, hx, rfl⟩ hr
        simp at hx
        subst hx
        have := (HO.out.mine _ (getD_memS hi)).rowB hr
        simp at this
        omega)
      rw [set_app_repl bs (n - k) k _ HBL.out (by omega), show n - k - 1 = n - (k + 1) from by omega] at hst
      have HST : Hid _ := hst
      have f0 := hO2.frozen (k * 3)
      have f1 := hO2.frozen (k * 3 + 1)
      have f2 := hO2.frozen (k * 3 + 2)
      have l2 := hO2.lies k (by omega)
      rw [getD_app_repl bs (n - k) k (by rw [HBL.out]; exact Nat.le_refl _)] at l2
      have d0 := l2.c0
      have d1 := l2.c1
      have d2 := l2.c2
      rw [Nat.zero_add] at d0 d1 d2
      have HB2 : Hid (Below w.heap.size w w2) := hbel.trans (hb2.mono hbel.size)
      clear hst hO2 l2 ho2 hb2 HO hbel HBY c0 c1 c2
      go_wp2
      go_roundw
      case rel => exact ⟨k + 1, bs ++ [⟨some ⟨g2, 0, none⟩, sl.length, sl, sn, sd⟩], by omega, by go_num, by rw [List.length_append, HBL.out]; rfl, by rw [List.map_append, HCT.out, HCS.out]; rfl, HST.out, ((HB2.out.setCell (p := ⟨w.heap.size, _, none⟩) (Nat.le_refl _) _).setCell (p := ⟨w.heap.size, _, none⟩) (Nat.le_refl _) _).setCell (p := ⟨w.heap.size, _, none⟩) (Nat.le_refl _) _⟩
      case measure => simp [intOf]; omega
    · have hkn : k = n := by omega
      subst hkn
      have HA : Hid (OwS wr w.heap.size w.heap.size k bs) := by
        have := HO.out
        rw [Nat.sub_self, List.replicate_zero, List.append_nil] at this
        exact this
      clear HO
      go_wp2
      go_ret
      exact ⟨rfl, ⟨bs, HBL.out, by rw [HCT.out, List.take_of_length_le (by rw [HL.out]; exact Nat.le_refl _)], HA.out⟩, hbel⟩
end Go.Proofs.YtecmnbdnnlifhaaDoor
