/-
  The draws: numbers below a bound, once in so often, one of a list; a new cursor.
-/
import Derived.Test.YtojnomdlkihgmaaGreatDoorOpen3
import Derived.Test.YtojnomdlkihgmaaGreatDoorDcI
import Derived.Test.YtojnomdlkihgmaaGreatDoorLzS
import Derived.Test.YtojnomdlkihgmaaGreatDoorOsI
import Derived.Test.YtojnomdlkihgmaaGreatDoorSqB
import Derived.Test.YtojnomdlkihgmaaGreatDoorBCut
import Derived.Test.YtojnomdlkihgmaaGreatDoorIBump
import Derived.Laws.BytesArg
import Derived.Laws.BitsAllLaws
import Derived.BigQuiet
namespace Go.Proofs.YtojnomdlkihgmaaGreatDoor
open Go.RowKit
set_option linter.unusedVariables false
set_option linter.unusedSimpArgs false

theorem Mine.capBl {w : World} {B U : Nat} {a : Option Addr} {c : Nat} {zs : List Int} (h : Mine w B U a c zs) : zs.length ≤ c := by
  rcases h with ⟨_, rfl, _⟩ | ⟨g, _, _, _, ho⟩
  · simp
  · rcases ho.1.2 with ⟨e, e2⟩ | ⟨_, _, _, e, _, _, h1, h2, _⟩
    · simp at e
    · simp at e
      omega
theorem dbl_noughts : dbl [0] 6 = List.replicate 64 0 := by decide
theorem rby_noughts {o : Option (Nat × Nat)} {bs : List Int} : RbY o 1 [0] bs ↔ bs = List.replicate 64 0 := by
  unfold RbY
  rw [dbl_noughts]
  constructor
  · rintro ⟨h, ⟨h1, _⟩ | ⟨_, _, rfl⟩ | ⟨h1, _⟩⟩
    · omega
    · rfl
    · omega
  · rintro rfl
    exact ⟨by simp, .inr (.inl ⟨rfl, rfl, rfl⟩)⟩

set_option maxRecDepth 20000 in
set_option maxHeartbeats 4000000 in
theorem blobs_any (w : World) (hE : SentE w) (hD : SentB w) :
    Calls Tryz.prog 7 #[] w fun e w' => e = .returned (.bool true) ∧ Below w.heap.size w w' := by
  obtain ⟨i0, hi, hz0, hz1, hz2⟩ := info_parts Tryz.infoU8
  obtain ⟨rs, hrs⟩ : ∃ rs : List Int, rs = List.replicate 64 0 := ⟨_, rfl⟩
  have HL : Hid (rs.length = 64 ∧ rs = List.replicate 64 0) := ⟨by rw [hrs, List.length_replicate], hrs⟩
  have HS : Hid (SentE w ∧ SentB w) := ⟨hE, hD⟩
  clear hrs hE hD
  go_enter Tryz.func7, Tryz.ntmps7
  go_wp2_with (at_make; refine wpList_make_full _ rfl _ _ 22 rfl w.heap.size 5 i0 (.int .u8 0) 1 Tryz.underlying22 hi hz0 hz1 .i64 .i64 _ _ 64 rfl rfl rfl rfl (by rw [hz2]; omega) (by unfold maxLen; omega) (Nat.le_refl _) ?_; intro w1 hown hgrow)
  have h0 : Own w1 w.heap.size w.heap.size 64 (part rs 0) := by
    rw [part_zero, HL.out.1]
    refine ⟨?_, by intro z hz; simp at hz; omega⟩
    rw [made_zero] at hown
    simpa using hown
  rw [part_zero, HL.out.1, ← HL.out.2] at h0
  have hbw : Below w.heap.size w w1 := (Below.refl _ _).grown hgrow (Nat.le_refl _) (by intro k hk; cases hk)
  have HB1 : Hid (Below w.heap.size w w1) := hbw
  have HEN : Hid (Calls Tryz.prog 20 #[.slice (some ⟨w.heap.size, 0, none⟩) 64 64] w1 fun e w' => pkA w1 w' (some [1, 0]) e) := by
    have h := implEncode_any (some ⟨w.heap.size, 0, none⟩) 64 rs w1 h0.mine.byt (by have := HL.out.1; omega) (HS.out.1.below hbw)
    rw [HL.out.1, HL.out.2, enO_noughts] at h
    exact h
  clear h0 hbw hown hgrow hi hz0 hz1 hz2
  go_wp2_with fail
  refine HEN.out.mono ?_
  clear HEN
  rintro e w2 ⟨⟨a2, c2, rfl, hm2⟩, hb2⟩
  simp only [Option.getD_some, Option.isSome_some] at hm2 ⊢
  have hb02 := HB1.out.trans (hb2.mono HB1.out.size)
  obtain ⟨o, ho⟩ := opnP [0] (by simp) (by simp)
  have HB2 : Hid (Below w.heap.size w w2) := hb02
  have HDC := decodeI_any a2 c2 1 [0] o w2 hm2.byt (by simp) (by simp) hm2.capBl ho (HS.out.2.below hb02)
  clear hm2 hb2 hb02 HB1 ho
  simp only [rby_noughts] at HDC
  go_wp2_with fail
  refine HDC.mono ?_
  clear HDC
  rintro e w3 ⟨hb3, ⟨bs, v, rfl, hov, rfl⟩ | ⟨hno, rfl⟩⟩
  · obtain ⟨va, vc, rfl⟩ := hov.form
    have hbb := hov.byt
    rw [List.length_replicate] at *
    obtain ⟨b, off, rfl, hbl, hc⟩ := hbb.2 (by simp)
    have h9 : w3.cell? ⟨b, off + 9, none⟩ = some (.int .u8 0) := hc 9 (by simp)
    have HB3 : Hid (Below w.heap.size w w3) := HB2.out.trans (hb3.mono HB2.out.size)
    clear hc hbb hov hb3 HB2
    go_wp2
    go_ret
    exact ⟨rfl, HB3.out⟩
  · exact absurd ⟨_, rfl⟩ hno
def exC (b : List Int) (c : Ct) : List Int := rep (b ++ c.1) c.2.2.toNat c.2.1.toNat
theorem exb_fold (ss : List Sq) : ∀ k, k ≤ ss.length → exb ss k = ((ss.map Sq.ct).take k).foldl exC []
  | 0, _ => rfl
  | k + 1, h => by
    have e : (ss.map Sq.ct)[k]'(by rw [List.length_map]; omega) = (ss.getD k dq).ct := by
      rw [List.getElem_map, List.getD_eq_getElem?_getD, List.getElem?_eq_getElem (by omega)]
      rfl
    rw [List.take_succ_eq_append_getElem (by rw [List.length_map]; omega), List.foldl_append, ← exb_fold ss k (by omega), e]
    rfl
theorem take_next {ys : List Int} {q : Nat} (h : q < ys.length) : ys.take (q + 1) = ys.take q ++ [ys.getD q 0] := by
  rw [List.take_succ_eq_append_getElem h, List.getD_eq_getElem?_getD, List.getElem?_eq_getElem h]
  rfl
theorem rep_take {ys : List Int} {q d : Nat} (hd : 1 ≤ d) (hdq : d ≤ q) : ∀ n, q + n ≤ ys.length → (∀ j, j < n → ys.getD (q + j - d) 0 = ys.getD (q + j) 0) → rep (ys.take q) d n = ys.take (q + n)
  | 0, _, _ => rfl
  | n + 1, h, hal => by
    have ih := rep_take hd hdq n (by omega) (fun j hj => hal j (by omega))
    simp only [rep]
    rw [ih, ← Nat.add_assoc, take_next (by omega)]
    congr 2
    rw [List.length_take, Nat.min_eq_left (by omega), ← hal n (by omega)]
    rw [List.getD_eq_getElem?_getD, List.getD_eq_getElem?_getD, List.getElem?_take, if_pos (by omega)]
theorem cutL_take {ys : List Int} {f q : Nat} (h1 : f ≤ q) : ys.take f ++ cutL ys f q = ys.take q := by
  unfold cutL
  have h := List.take_append_drop f (ys.take q)
  rw [List.take_take, Nat.min_eq_left h1, List.drop_take] at h
  exact h
theorem go_ex (ys : List Int) (hn : ys.length ≤ 64) : ∀ (n f q : Nat) (cs : List Ct), cs.foldl exC [] = ys.take f → f ≤ q → q ≤ ys.length → (go ys n f q cs).2.foldl exC [] = ys.take (go ys n f q cs).1
  | 0, f, q, cs, h, _, _ => h
  | n + 1, f, q, cs, h, h1, h2 => by
    simp only [go]
    split
    · rename_i hq
      split
      · rename_i ht
        obtain ⟨p1, p2, p3, p4⟩ := lzA_piece hq ht.1
        refine go_ex ys hn n _ _ _ ?_ (Nat.le_refl _) (by omega)
        rw [List.foldl_append, h]
        simp only [List.foldl_cons, List.foldl_nil, exC, Int.toNat_natCast]
        rw [cutL_take h1]
        refine rep_take p2 p3 _ p4 (fun j hj => ?_)
        have e : (lz ys q).1 = alk ys (q - (lz ys q).2) q := by
          have hl := lz_at hq
          rw [hl] at p1 ⊢
          unfold lzA at p1 ⊢
          split
          · rename_i h3; rw [if_pos h3] at p1; simp at p1
          · rename_i h3
            rcases (lzD_spec ys q q).2 with h4 | ⟨d, d1, d2, d3, _⟩
            · rw [h4] at h3; simp at h3
            · rw [d3]
        have := alkF_eq ys _ (q - (lz ys q).2) q j (by show j < alk ys _ q; omega)
        rw [show q + j - (lz ys q).2 = q - (lz ys q).2 + j by omega]
        exact this
      · exact go_ex ys hn n f (q + 1) cs h (by omega) (by omega)
    · exact h
/-- Exec of what is found is the text. -/
theorem found_exb {ys : List Int} (hn : ys.length ≤ 64) {ss : List Sq} (h : ss.map Sq.ct = found ys) : exb ss ss.length = ys := by
  have hg := go_ex ys hn ys.length 0 0 [] (by simp) (Nat.le_refl _) (Nat.zero_le _)
  have hl := (go_ps ys hn ys.length 0 0 [] ⟨rfl, by simp⟩ (Nat.le_refl _) (Nat.zero_le _)).2
  rw [exb_fold ss ss.length (Nat.le_refl _)]
  have e : (ss.map Sq.ct).take ss.length = ss.map Sq.ct := by rw [← List.length_map (f := Sq.ct), List.take_length]
  rw [e, h]
  unfold found fin
  split
  · rename_i hf
    rw [List.foldl_append, hg]
    simp only [List.foldl_cons, List.foldl_nil, exC, Int.toNat_zero, rep]
    rw [cutL_take hl, List.take_length]
  · rename_i hf
    rw [hg, List.take_of_length_le (by omega)]
/-- The letters of the first k. -/
def lib (ss : List Sq) : Nat → List Int
  | 0 => []
  | k + 1 => lib ss k ++ (ss.getD k dq).ls
theorem lib_le (ss : List Sq) (k : Nat) : (lib ss k).length ≤ (exb ss k).length := by
  induction k with
  | zero => simp [lib]
  | succ k ih => simp only [lib, exb, rep_len, List.length_append]; omega
theorem lib_ct {ss ts : List Sq} (h : ss.map Sq.ct = ts.map Sq.ct) (k : Nat) : lib ss k = lib ts k := by
  induction k with
  | zero => rfl
  | succ k ih =>
    have hg : (ss.getD k dq).ct = (ts.getD k dq).ct := by
      have : (ss.map Sq.ct).getD k dq.ct = (ts.map Sq.ct).getD k dq.ct := by rw [h]
      simpa [List.getD_eq_getElem?_getD, List.getElem?_map, Option.getD_map] using this
    simp only [Sq.ct, Prod.mk.injEq] at hg
    simp only [lib, ih, hg]

set_option maxRecDepth 20000 in
set_option maxHeartbeats 4000000 in
theorem implLitsOf_any (a : Option Addr) (cap : Nat) (ss : List Sq) (w : World) (hb : Sqs w a ss) (hx : ss.length ≤ 281474976710656) (hxl : ∀ s ∈ ss, s.ls.length ≤ 281474976710656) :
    Calls Tryz.prog 12 #[.slice a ss.length cap] w fun e w' => (∃ v, e = .returned v ∧ OVB w' w.heap.size v (if (sqn ss).isSome then lib ss ss.length else [])) ∧ Below w.heap.size w w' := by
  have HSO := implSeqsOk_any a cap ss w hb hx hxl
  cases hs : sqn ss with
  | none =>
    rw [hs] at HSO
    clear hs
    go_enter Tryz.func12, Tryz.ntmps12
    go_wp2_with fail
    refine HSO.mono ?_
    rintro e w1 ⟨rfl, hb1⟩
    clear HSO
    go_wp2
    go_ret
    exact ⟨⟨_, rfl, OVB.nil _ _⟩, hb1⟩
  | some m =>
    rw [hs] at HSO
    obtain ⟨h40, hm64, hel, hat⟩ := sqn_at hs
    have HLL : Hid (∀ k, k < ss.length → (lib ss k).length + (ss.getD k dq).ls.length ≤ 64) := fun k hk => by
      have h1 := lib_le ss k
      have h2 := (hat k hk).hl
      omega
    have HIF : Hid ((if (some m).isSome then lib ss ss.length else []) = lib ss ss.length) := rfl
    generalize (if (some m).isSome then lib ss ss.length else []) = R at *
    have HSS : Hid (Sqs w a ss) := hb
    clear hs hel hat hb
    generalize hlen : ss.length = n at *
    have HL : Hid (ss.length = n) := hlen
    clear hlen
    go_enter Tryz.func12, Tryz.ntmps12
    go_wp2_with fail
    refine HSO.mono ?_
    rintro e w1 ⟨rfl, hb1⟩
    clear HSO
    go_wp2
    go_loopw [3, 11] (fun x i wr => ∃ k : Nat, k ≤ n ∧ i = .int .i64 k ∧ OVB wr w.heap.size x (lib ss k) ∧ Below w.heap.size w wr) (fun _ i _ => n - (intOf i).toNat)
    case atStart => exact ⟨0, Nat.zero_le _, rfl, OVB.nil _ _, hb1⟩
    case round =>
      clear hb1
      obtain ⟨k, hk, rfl, hov, hbel⟩ := hrel
      obtain ⟨ax, cx, rfl⟩ := hov.form
      have HOV : Hid (OVB wr w.heap.size (.slice ax (lib ss k).length cx) (lib ss k)) := hov
      clear hov
      by_cases hlt : k < n
      · obtain ⟨b, off, rfl, hb1, hc1⟩ := (HSS.out.below hbel (Nat.le_refl _)).len_pos k (by rw [HL.out]; exact hlt)
        have hli := hc1 k (by rw [HL.out]; exact hlt)
        have hll := HLL.out k hlt
        have HEX : Hid (lib ss (k + 1) = lib ss k ++ (ss.getD k dq).ls) := rfl
        clear hc1
        generalize ss.getD k dq = s at *
        obtain ⟨sa, sc, sl, sn, sd⟩ := s
        obtain ⟨c0, c1, c2, hby⟩ := hli
        simp only at c0 c1 c2 hby hll HEX
        generalize hE : lib ss k = E at *
        generalize hEl : E.length = L at *
        have HEL : Hid (E.length = L) := hEl
        clear hEl hE
        have hsz := hbel.size
        have HBY : Hid (Byt (wr.alloc (Obj.cells #[Value.slice sa sl.length sc, Value.int IntKind.i64 sn, Value.int IntKind.i64 sd] 37)) sa sl) := hby.alloc _
        have HOA : Hid (OVB (wr.alloc (Obj.cells #[Value.slice sa sl.length sc, Value.int IntKind.i64 sn, Value.int IntKind.i64 sd] 37)) w.heap.size (.slice ax L cx) E) := HOV.out.alloc _
        have HBA : Hid (Below w.heap.size w (wr.alloc (Obj.cells #[Value.slice sa sl.length sc, Value.int IntKind.i64 sn, Value.int IntKind.i64 sd] 37))) := hbel.alloc hsz _
        have hza : w.heap.size ≤ (wr.alloc (Obj.cells #[Value.slice sa sl.length sc, Value.int IntKind.i64 sn, Value.int IntKind.i64 sd] 37)).heap.size := by simp; omega
        clear hby HOV
        go_wp2_with (at_builtin; (refine wpList_append_byt rfl (.tmp 15) (.tmp 17) rfl w.heap.size (.slice ax L cx) E rfl HOA.out sa sc sl rfl HBY.out (by have := HEL.out; omega) hza ?_; intro v1 w1 hov1 hgr1))
        have HB1 : Hid (Below w.heap.size w w1) := appB_below HBA.out hza HOA.out hgr1
        have HF : Hid (OVB w1 w.heap.size v1 (lib ss (k + 1))) := by rw [HEX.out]; exact hov1
        clear hov1 hgr1 HOA HBA HBY c0 c1 c2 hbel hsz hza
        go_wp2
        go_roundw
        case rel => exact ⟨k + 1, by omega, by go_num, HF.out, HB1.out⟩
        case measure => simp [intOf]; omega
      · have hkn : k = n := by omega
        subst hkn
        go_wp2
        go_ret
        exact ⟨⟨_, rfl, by rw [HIF.out]; exact HOV.out⟩, hbel⟩
theorem conv_bytes (w : World) (a : Option Addr) (c : Nat) (zs : List Int) (hb : Byt w a zs) : (convert 22 9 (.slice a zs.length c)).run Tryz.prog w = .ok (.string (strOfNums zs)) w := by
  rcases Nat.eq_zero_or_pos zs.length with h0 | h0
  · obtain rfl : zs = [] := List.eq_nil_of_length_eq_zero h0
    cases a with
    | none => exact run_convert_bytes_nil (P := Tryz.prog) w 22 5 Tryz.underlying22 Tryz.underlying5 0 c 9 Tryz.underlying9
    | some x =>
      show (convert 22 9 (.slice (some x) 0 c)).run Tryz.prog w = _
      rw [run_convert_bytes_string w 22 9 5 _ _ c Tryz.underlying22 Tryz.underlying5 Tryz.underlying9, run_bytesToString w x 0 c [] (by simp [loadCells, loadCellsFrom])]
      rfl
  · obtain ⟨b, off, rfl, _, hc⟩ := hb.2 h0
    exact run_convert_bytes_arg (P := Tryz.prog) w 22 5 Tryz.underlying22 Tryz.underlying5 b off zs.length c zs rfl hc 9 Tryz.underlying9

set_option maxHeartbeats 800000 in
theorem same_yes (a b : Option Addr) (ca cb : Nat) (zs : List Int) (w : World) (ha : Byt w a zs) (hb : Byt w b zs) :
    Calls Tryz.prog 10 #[.slice a zs.length ca, .slice b zs.length cb] w fun e w' => e = .returned (.bool true) ∧ w' = w := by
  have h1 := conv_bytes w a ca zs ha
  have h2 := conv_bytes w b cb zs hb
  generalize strOfNums zs = S at *
  go_enter Tryz.func10, Tryz.ntmps10
  go_wp2
  go_ret
  exact ⟨rfl, rfl⟩

theorem ins_newN (W : World) (T : TypeId) (zs : List Int) (hr : ∀ z ∈ zs, -9223372036854775808 ≤ z ∧ z ≤ 9223372036854775807) : Ins (W.alloc (.cells (zs.map (Value.int .i64)).toArray T)) (some ⟨W.heap.size, 0, none⟩) zs := by
  refine ⟨hr, fun hp => ⟨W.heap.size, 0, rfl, by simp, fun i hi => ?_⟩⟩
  rw [Nat.zero_add, cell_of_row _ W.heap.size i _ T (0, 0) (heap_alloc_new W _)]
  simp [hi]
theorem and255 (y : Int) : 0 ≤ bits .and .i64 y 255 ∧ bits .and .i64 y 255 ≤ 255 := by
  have h : bits .and .i64 y 255 = IntKind.i64.wrap ((BitVec.ofInt 64 y &&& BitVec.ofInt 64 255).toNat : Int) := rfl
  rw [h, BitVec.toNat_and]
  have h2 : (BitVec.ofInt 64 y).toNat &&& (BitVec.ofInt 64 255).toNat ≤ 255 := Nat.le_trans Nat.and_le_right (by decide)
  generalize (BitVec.ofInt 64 y).toNat &&& (BitVec.ofInt 64 255).toNat = q at *
  rw [IntWalk.i64_in _ (by omega)]
  omega

/-- A cursor at R over the bytes that lie at a. -/
def Cur (w : World) (B R : Nat) (a : Option Addr) (L cap : Nat) : Prop := ∃ i h : Int, w.heap[R]? = some (.cells #[.slice a L cap, .int .i64 i, .int .i64 h] 52 (0, 0)) ∧ 0 ≤ i ∧ i ≤ L ∧ B ≤ R ∧ B ≤ w.heap.size
theorem cellC {w : World} {R j : Nat} {cur : Array Value} {T : TypeId} {v : Value} (hR : w.heap[R]? = some (.cells cur T (0, 0))) (hv : cur[j]? = some v) : w.cell? ⟨R, j, none⟩ = some v := by
  rw [cell_of_row w R j cur T (0, 0) hR]; exact hv
theorem Cur.only {w w' : World} {B R : Nat} {a : Option Addr} {L cap : Nat} {S : Nat → Prop} (h : Cur w B R a L cap) (ho : Only S w w') (hs : ¬ S R) : Cur w' B R a L cap := by
  obtain ⟨i, x, hR, h1, h2, h3, h4⟩ := h
  exact ⟨i, x, (ho.block R (Array.getElem?_eq_some_iff.1 hR).1 hs).trans hR, h1, h2, h3, Nat.le_trans h4 ho.size⟩
theorem Cur.lt {w : World} {B R : Nat} {a : Option Addr} {L cap : Nat} (h : Cur w B R a L cap) : B ≤ R ∧ R < w.heap.size := by
  obtain ⟨i, x, hR, h1, h2, h3, h4⟩ := h
  exact ⟨h3, (Array.getElem?_eq_some_iff.1 hR).1⟩
theorem only_below {w w' : World} {B R : Nat} (h : Only (fun k => k = R) w w') (hB : B ≤ w.heap.size) (hR : B ≤ R) : Below B w w' := h.below hB (fun k hk => by rw [hk]; exact hR)

set_option maxHeartbeats 1600000 in
theorem l1Byte_any (R B : Nat) (a : Option Addr) (bs : List Int) (cap : Nat) (w0 w : World) (hb : Byt w0 a bs) (hB : w0.heap.size = B) (hl : bs.length ≤ maxLen) (hbel : Below B w0 w) (hc : Cur w B R a bs.length cap) :
    Calls Tryz.prog 26 #[.pointer (some ⟨R, 0, none⟩)] w fun e w' => (∃ x : Int, 0 ≤ x ∧ x ≤ 255 ∧ e = .returned (.int .i64 x)) ∧ Cur w' B R a bs.length cap ∧ Only (fun k => k = R) w w' := by
  obtain ⟨i, h, hR, hi0, hi1, hBR, hBw⟩ := hc
  have hRl : R < w.heap.size := (Array.getElem?_eq_some_iff.1 hR).1
  have c0 := cellC (j := 0) hR rfl
  have c1 := cellC (j := 1) hR rfl
  have c2 := cellC (j := 2) hR rfl
  have f2 : w.frozen? ⟨R, 2, none⟩ = false := frozen_of_row w R 2 _ _ hR
  have HR : Hid (w.heap[R]? = some (.cells #[.slice a bs.length cap, .int .i64 i, .int .i64 h] 52 (0, 0))) := hR
  clear hR
  unfold maxLen at hl
  go_enter Tryz.func26, Tryz.ntmps26
  go_wp2
  clear c0 c1 c2 f2
  generalize wrap64 (wrap64 (h * 6364136223846793005) + 1442695040888963407) = h2
  have hR2 : (w.setCell ⟨R, 2, none⟩ (.int .i64 h2)).heap[R]? = some (.cells #[.slice a bs.length cap, .int .i64 i, .int .i64 h2] 52 (0, 0)) := by
    rw [heap_setCell_same _ R 2 _ _ _ HR.out]; simp
  have hO : Only (fun k => k = R) w (w.setCell ⟨R, 2, none⟩ (.int .i64 h2)) := Only.setCell (Only.refl (fun k => k = R) w) (p := ⟨R, 2, none⟩) (.inl rfl) _
  generalize w.setCell ⟨R, 2, none⟩ (.int .i64 h2) = W at *
  have hbW : Below B w0 W := hbel.trans (only_below hO hBw hBR)
  have c0 := cellC (j := 0) hR2 rfl
  have c1 := cellC (j := 1) hR2 rfl
  have c2 := cellC (j := 2) hR2 rfl
  have f1 : W.frozen? ⟨R, 1, none⟩ = false := frozen_of_row W R 1 _ _ hR2
  have HR2 : Hid (W.heap[R]? = some (.cells #[.slice a bs.length cap, .int .i64 i, .int .i64 h2] 52 (0, 0))) := hR2
  have HO : Hid (Only (fun k => k = R) w W) := hO
  have hsW := hO.size
  clear hR2 hO HR
  generalize hx : bits .and .i64 (bits .xor .i64 (h2 / 2 ^ 33) (h2 / 2 ^ 45)) 255 = x0
  by_cases hlt : i < bs.length
  · obtain ⟨q, rfl⟩ := Int.eq_ofNat_of_zero_le hi0
    obtain ⟨b1, o1, rfl, hb1, hc1⟩ := (hb.below hbW (by omega)).len_pos q (by omega)
    have hs1 := hc1 q (by omega)
    have hz := getD_rng hb.1 q
    clear hc1
    generalize bs.getD q 0 = z at *
    go_wp2
    go_quiet (fail)
    go_wp2
    go_quiet (fail)
    go_wp2
    go_quiet (fail)
    go_wp2
    go_ret
    have hB2 : B ≤ W.heap.size := by omega
    refine ⟨⟨_, (and255 _).1, (and255 _).2, rfl⟩, ⟨(q : Int) + 1, h2, by rw [heap_setCell_same _ R 1 _ _ _ (by exact HR2.out)]; simp, by omega, by omega, hBR, ?_⟩, ?_⟩
    · simp [World.setCell]; exact hB2
    · refine Only.setCell (S := fun k => k = R) (p := ⟨R, 1, none⟩) ?_ (.inl rfl) _
      have H := HO.out
      exact ⟨H.os, H.tape, H.output, H.size, H.block⟩
  · go_wp2
    go_quiet (fail)
    go_wp2
    go_quiet (fail)
    go_wp2
    go_ret
    have H := HO.out
    exact ⟨⟨_, (and255 _).1, (and255 _).2, rfl⟩, ⟨i, h2, HR2.out, hi0, hi1, hBR, by have := hsW; show B ≤ W.heap.size; omega⟩, ⟨H.os, H.tape, H.output, H.size, H.block⟩⟩
/-- What a draw finds and leaves. -/
structure Dr (w0 w : World) (B R : Nat) (a : Option Addr) (bs : List Int) (cap : Nat) : Prop where
  byt : Byt w0 a bs
  hB : w0.heap.size = B
  hl : bs.length ≤ maxLen
  bel : Below B w0 w
  cur : Cur w B R a bs.length cap
theorem Dr.step {w0 w w' : World} {B R : Nat} {a : Option Addr} {bs : List Int} {cap : Nat} (h : Dr w0 w B R a bs cap) (hc : Cur w' B R a bs.length cap) (ho : Only (fun k => k = R) w w') : Dr w0 w' B R a bs cap :=
  ⟨h.byt, h.hB, h.hl, h.bel.trans (only_below ho (by have := h.bel.size; have := h.hB; omega) h.cur.lt.1), hc⟩
theorem Dr.byte {w0 w : World} {B R : Nat} {a : Option Addr} {bs : List Int} {cap : Nat} (h : Dr w0 w B R a bs cap) :
    Calls Tryz.prog 26 #[.pointer (some ⟨R, 0, none⟩)] w fun e w' => (∃ x : Int, 0 ≤ x ∧ x ≤ 255 ∧ e = .returned (.int .i64 x)) ∧ Dr w0 w' B R a bs cap ∧ Only (fun k => k = R) w w' := by
  refine (l1Byte_any R B a bs cap w0 w h.byt h.hB h.hl h.bel h.cur).mono ?_
  rintro e w' ⟨hx, hc, ho⟩
  exact ⟨hx, h.step hc ho, ho⟩
/-- Another part of the heap has turned; the cursor stays. -/
theorem Dr.other {w0 w w' : World} {B R : Nat} {a : Option Addr} {bs : List Int} {cap : Nat} {S : Nat → Prop} (h : Dr w0 w B R a bs cap) (ho : Only S w w') (hs : ¬ S R) (hb : ∀ k, S k → B ≤ k) : Dr w0 w' B R a bs cap :=
  ⟨h.byt, h.hB, h.hl, h.bel.trans (ho.below (by have := h.bel.size; have := h.hB; omega) hb), h.cur.only ho hs⟩

set_option maxHeartbeats 800000 in
theorem Dr.below {w0 w : World} {B R : Nat} {a : Option Addr} {bs : List Int} {cap : Nat} (h : Dr w0 w B R a bs cap) (n : Int) (hn : 0 < n) (hn2 : n ≤ 256) :
    Calls Tryz.prog 25 #[.pointer (some ⟨R, 0, none⟩), .int .i64 n] w fun e w' => (∃ x : Int, 0 ≤ x ∧ x < n ∧ e = .returned (.int .i64 x)) ∧ Dr w0 w' B R a bs cap ∧ Only (fun k => k = R) w w' := by
  have H : Hid (Dr w0 w B R a bs cap) := h
  clear h
  go_enter Tryz.func25, Tryz.ntmps25
  go_wp2_with fail
  refine H.out.byte.mono ?_
  rintro e w1 ⟨⟨x, h1, h2, rfl⟩, hd, ho⟩
  have HD : Hid _ := hd
  have HO : Hid _ := ho
  clear hd ho H
  go_wp2
  go_ret
  refine ⟨⟨_, ?_, ?_, rfl⟩, HD.out, HO.out⟩
  · exact Int.emod_nonneg _ (by omega)
  · exact Int.emod_lt_of_pos _ hn

set_option maxHeartbeats 800000 in
theorem Dr.once {w0 w : World} {B R : Nat} {a : Option Addr} {bs : List Int} {cap : Nat} (h : Dr w0 w B R a bs cap) (n : Int) (hn : 0 < n) (hn2 : n ≤ 256) :
    Calls Tryz.prog 27 #[.pointer (some ⟨R, 0, none⟩), .int .i64 n] w fun e w' => (∃ b : Bool, e = .returned (.bool b)) ∧ Dr w0 w' B R a bs cap ∧ Only (fun k => k = R) w w' := by
  have H : Hid (Dr w0 w B R a bs cap) := h
  clear h
  go_enter Tryz.func27, Tryz.ntmps27
  go_wp2_with fail
  refine (H.out.below n hn hn2).mono ?_
  rintro e w1 ⟨⟨x, h1, h2, rfl⟩, hd, ho⟩
  have HD : Hid _ := hd
  have HO : Hid _ := ho
  clear hd ho H
  go_wp2
  go_ret
  exact ⟨⟨_, rfl⟩, HD.out, HO.out⟩

set_option maxHeartbeats 800000 in
theorem Dr.pick {w0 w : World} {B R : Nat} {a : Option Addr} {bs : List Int} {cap : Nat} (h : Dr w0 w B R a bs cap) (b c : Nat) (l : List Int) (hl : Ins w (some ⟨b, 0, none⟩) l) (hb : b ≠ R) (h0 : 0 < l.length) (h1 : l.length ≤ 200) :
    Calls Tryz.prog 16 #[.pointer (some ⟨R, 0, none⟩), .slice (some ⟨b, 0, none⟩) l.length c] w fun e w' => (∃ x ∈ l, e = .returned (.int .i64 x)) ∧ Dr w0 w' B R a bs cap ∧ Only (fun k => k = R) w w' := by
  have H : Hid (Dr w0 w B R a bs cap) := h
  have HLL : Hid (Ins w (some ⟨b, 0, none⟩) l) := hl
  clear h hl
  generalize hq : l.length = m at *
  have HQ : Hid (l.length = m) := hq
  clear hq
  go_enter Tryz.func16, Tryz.ntmps16
  go_wp2_with fail
  refine (H.out.below (m : Nat) (by omega) (by omega)).mono ?_
  rintro e w1 ⟨⟨x, h2, h3, rfl⟩, hd, ho⟩
  obtain ⟨j, rfl⟩ := Int.eq_ofNat_of_zero_le h2
  obtain ⟨b', o', he, hbl, hc⟩ := HLL.out.len_pos j (by rw [HQ.out]; omega)
  obtain ⟨rfl, rfl⟩ : b = b' ∧ 0 = o' := by simpa using he
  have hs := ho.cell hbl (by simpa using hb) (hc j (by rw [HQ.out]; omega))
  simp only [Nat.zero_add] at hs
  have HMM : Hid (l.getD j 0 ∈ l) := by
    unfold Hid
    rw [List.getD_eq_getElem?_getD, List.getElem?_eq_getElem (by rw [HQ.out]; omega)]
    exact List.getElem_mem _
  have HD : Hid _ := hd
  have HO : Hid _ := ho
  clear hd ho H hc he HLL
  generalize l.getD j 0 = y at *
  go_wp2
  go_ret
  exact ⟨⟨y, HMM.out, rfl⟩, HD.out, HO.out⟩

set_option maxHeartbeats 1600000 in
theorem l1New_any (a : Option Addr) (bs : List Int) (cap : Nat) (w : World) (hb : Byt w a bs) (hl : bs.length ≤ maxLen) :
    Calls Tryz.prog 14 #[.slice a bs.length cap] w fun e w' => e = .returned (.pointer (some ⟨w.heap.size, 0, none⟩)) ∧ Dr w w' w.heap.size w.heap.size a bs cap := by
  have HLM : Hid (bs.length ≤ maxLen) := hl
  unfold maxLen at hl
  generalize hlen : bs.length = n at *
  have HL : Hid (bs.length = n) := hlen
  clear hlen
  go_enter Tryz.func14, Tryz.ntmps14
  go_wp2
  go_loop [3, 4] (fun x i => ∃ (k : Nat) (h : Int), k ≤ n ∧ k ≤ 4000 ∧ i = .int .i64 k ∧ x = .int .i64 h) (fun _ i => 4000 - (intOf i).toNat)
  case atStart => exact ⟨0, _, Nat.zero_le _, by omega, rfl, rfl⟩
  case round =>
    obtain ⟨k, h, hk, hk4, rfl, rfl⟩ := hrel
    by_cases hlt : k < n
    · by_cases h4 : k < 4000
      · obtain ⟨b1, o1, rfl, hb1, hc1⟩ := hb.len_pos k (by rw [HL.out]; exact hlt)
        have hs1 := hc1 k (by rw [HL.out]; exact hlt)
        have hz := getD_rng hb.1 k
        clear hc1
        generalize bs.getD k 0 = z at *
        have hd4 : decide ((k : Int) < 4000) = true := by simp; omega
        have H4 : Hid (k < 4000) := h4
        have HK4 : Hid (k ≤ 4000) := hk4
        clear h4 hk4
        go_wp2
        go_round
        case rel => exact ⟨k + 1, _, by omega, by have := H4.out; omega, by go_num, rfl⟩
        case measure => have := H4.out; simp [intOf]; omega
      · have hd4 : decide ((k : Int) < 4000) = false := by simp; omega
        go_wp2
        go_ret
        exact ⟨rfl, hb, rfl, by rw [HL.out]; exact HLM.out, (Below.refl _ _).alloc (Nat.le_refl _) _, 0, h, by rw [HL.out]; exact heap_alloc_new w _, by omega, by omega, Nat.le_refl _, by simp⟩
    · have hkn : k = n := by omega
      subst hkn
      go_wp2
      go_ret
      exact ⟨rfl, hb, rfl, by rw [HL.out]; exact HLM.out, (Below.refl _ _).alloc (Nat.le_refl _) _, 0, h, by rw [HL.out]; exact heap_alloc_new w _, by omega, by omega, Nat.le_refl _, by simp⟩
end Go.Proofs.YtojnomdlkihgmaaGreatDoor
