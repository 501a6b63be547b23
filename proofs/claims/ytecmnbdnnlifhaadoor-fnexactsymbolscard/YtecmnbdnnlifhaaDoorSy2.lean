/-
  The model's l5symbols and Symbols.
-/
import Derived.Test.YtecmnbdnnlifhaaDoorSy1
import Derived.Test.YtecmnbdnnlifhaaDoorSqTo
namespace Go.Proofs.YtecmnbdnnlifhaaDoor
open Go.RowKit
set_option linter.unusedVariables false
set_option linter.unusedSimpArgs false

/-- Sequences that are right, as the writers want them. -/
structure SyOk (ss : List Sq) : Prop where
  few : ss.length ≤ 40
  lets : lets ss ≤ 64
  nums : ∀ j, j < ss.length → (ss.getD j dq).n = 0 ∨ (3 ≤ (ss.getD j dq).n ∧ (ss.getD j dq).n ≤ 64 ∧ 1 ≤ (ss.getD j dq).d ∧ (ss.getD j dq).d ≤ 64)
theorem SyOk.of {ss : List Sq} (h : (sqn ss).isSome = true) : SyOk ss := ⟨(sqn_lets h).1, (sqn_lets h).2.1, (sqn_lets h).2.2⟩
theorem SyOk.bnd {ss : List Sq} (h : SyOk ss) (k : Nat) (hk : k < ss.length) : (syOf (ss.take k)).1.length + (ss.getD k dq).ls.length ≤ 200 ∧ (syOf (ss.take k)).2.1 + 4 * (ss.getD k dq).ls.length ≤ 1000 := by
  have h1 := syOf_len h.nums k (by omega)
  have h2 := lets_take_succ ss k hk
  have h3 := lets_take_le ss (k + 1)
  have h4 := h.lets
  have h5 := h.few
  omega
theorem SyS.below {w w' : World} {B P R : Nat} {st : SyT} (h : SyS w B P R st) (hb : Below w.heap.size w w') : SyS w' B P R st := by
  obtain ⟨a, c, h1, h2⟩ := h.box
  exact ⟨⟨a, c, (hb.block P (Array.getElem?_eq_some_iff.1 h1).1).trans h1, h2.below hb⟩, h.si.stay hb, h.BP⟩

theorem rowWeak {w : World} {B B' : Nat} {T : TypeId} {sz : Nat} {v : Value} {n : Nat} {xs : List Value} (h : w.ownsRow B T sz v n xs) (hB : B' ≤ B) : w.ownsRow B' T sz v n xs := by
  refine ⟨h.1, ?_⟩
  rcases h.2 with h' | ⟨g, cap, cur, h', hg, r⟩
  · exact .inl h'
  · exact .inr ⟨g, cap, cur, h', by omega, r⟩
theorem ownV_weakS {S : Nat → Prop} {w w' : World} {B B' : Nat} {v : Value} {zs : List Int} (h : OwnV w B v zs) (ho : Only S w w') (hs : ∀ k, B ≤ k → ¬ S k) (hB : B' ≤ B) : OwnV w' B' v zs :=
  ⟨rowWeak (rowStay h.1 ho (fun k hk => hs k (h.blk hk))) hB, h.2⟩
theorem ovi_weakS {S : Nat → Prop} {w w' : World} {B B' : Nat} {v : Value} {zs : List Int} (h : OVI w B v zs) (ho : Only S w w') (hs : ∀ k, B ≤ k → ¬ S k) (hB : B' ≤ B) : OVI w' B' v zs :=
  ⟨rowWeak (rowStay h.1 ho (fun k hk => hs k (h.blk hk))) hB, h.2⟩

set_option maxRecDepth 20000 in
set_option maxHeartbeats 3200000 in
theorem l5symbols_any (a : Option Addr) (cap : Nat) (ss : List Sq) (w : World) (hb : Sqs w a ss) (hok : SyOk ss) :
    Calls Tryd.prog 25 #[.slice a ss.length cap] w fun e w' => (∃ sa sc v, e = .returned (.tuple #[.slice sa (syOf ss).1.length sc, .agg #[v, .int .i64 ((syOf ss).2.1 : Nat)]]) ∧ OVI w' w.heap.size (.slice sa (syOf ss).1.length sc) (syOf ss).1 ∧ OwnV w' w.heap.size v (enc (syOf ss).2.1 (syOf ss).2.2) ∧ (syOf ss).2.2 < 2 ^ (syOf ss).2.1) ∧ Below w.heap.size w w' := by
  have HB : Hid (Sqs w a ss ∧ SyOk ss) := ⟨hb, hok⟩
  have hfew := hok.few
  have HST : Hid (SyS (((w.alloc (Obj.cells #[.slice none 0 0, .int .i64 0] 27)).alloc (Obj.cells #[.slice none 0 0] 24)).alloc (Obj.cells #[.slice none 0 0, .int .i64 0] 27)) (w.heap.size + 1) (w.heap.size + 1) (w.heap.size + 1 + 1) ([], 0, 0) ∧ Below (w.heap.size + 1) (w.alloc (Obj.cells #[.slice none 0 0, .int .i64 0] 27)) (((w.alloc (Obj.cells #[.slice none 0 0, .int .i64 0] 27)).alloc (Obj.cells #[.slice none 0 0] 24)).alloc (Obj.cells #[.slice none 0 0, .int .i64 0] 27))) := by
    have h1 := SI.new ((w.alloc (Obj.cells #[.slice none 0 0, .int .i64 0] 27)).alloc (Obj.cells #[.slice none 0 0] 24)) (w.heap.size + 1) (by simp)
    have h2 := heap_alloc_new (w.alloc (Obj.cells #[.slice none 0 0, .int .i64 0] 27)) (Obj.cells #[.slice none 0 0] 24)
    have hA : Below (w.heap.size + 1 + 1) ((w.alloc (Obj.cells #[.slice none 0 0, .int .i64 0] 27)).alloc (Obj.cells #[.slice none 0 0] 24)) (((w.alloc (Obj.cells #[.slice none 0 0, .int .i64 0] 27)).alloc (Obj.cells #[.slice none 0 0] 24)).alloc (Obj.cells #[.slice none 0 0, .int .i64 0] 27)) := (Below.refl _ _).alloc (by simp) _
    refine ⟨⟨⟨none, 0, ?_, OVI.nil _ _⟩, by simpa using h1, by omega⟩, ((Below.refl _ _).alloc (by simp) _).alloc (by simp) _⟩
    have h3 : ((w.alloc (Obj.cells #[.slice none 0 0, .int .i64 0] 27)).alloc (Obj.cells #[.slice none 0 0] 24)).heap[w.heap.size + 1]? = some (.cells #[.slice none 0 0] 24 (0, 0)) := by simpa using h2
    exact (hA.block (w.heap.size + 1) (by omega)).trans h3
  have HBW : Hid (Below w.heap.size w (w.alloc (Obj.cells #[.slice none 0 0, .int .i64 0] 27)) ∧ (w.alloc (Obj.cells #[.slice none 0 0, .int .i64 0] 27)).heap[w.heap.size]? = some (.cells #[.slice none 0 0, .int .i64 0] 27 (0, 0))) := ⟨(Below.refl _ _).alloc (Nat.le_refl _) _, heap_alloc_new w _⟩
  clear hb hok
  generalize hlen : ss.length = n at *
  have HLN : Hid (ss.length = n ∧ True) := ⟨hlen, trivial⟩
  clear hlen
  go_enter Tryd.func25, Tryd.ntmps25
  go_wp2
  generalize ((w.alloc (Obj.cells #[.slice none 0 0, .int .i64 0] 27)).alloc (Obj.cells #[.slice none 0 0] 24)).alloc (Obj.cells #[.slice none 0 0, .int .i64 0] 27) = W3 at *
  generalize w.alloc (Obj.cells #[.slice none 0 0, .int .i64 0] 27) = W1 at *
  go_loopw [6] (fun i wr => ∃ k : Nat, k ≤ n ∧ i = .int .i64 k ∧ SyS wr (w.heap.size + 1) (w.heap.size + 1) (w.heap.size + 1 + 1) (syOf (ss.take k)) ∧ Below (w.heap.size + 1) W1 wr) (fun i _ => n - (intOf i).toNat)
  case atStart => exact ⟨0, Nat.zero_le _, rfl, by simpa [syOf] using HST.out.1, HST.out.2⟩
  case round =>
    clear HST
    obtain ⟨k, hk, rfl, hsy, hbel⟩ := hrel
    have HS : Hid (SyS wr (w.heap.size + 1) (w.heap.size + 1) (w.heap.size + 1 + 1) (syOf (ss.take k)) ∧ Below (w.heap.size + 1) W1 wr ∧ Below w.heap.size w wr) := ⟨hsy, hbel, HBW.out.1.trans (hbel.mono (by omega))⟩
    clear hsy hbel
    by_cases hlt : k < n
    · obtain ⟨b, off, rfl, hbw, hly⟩ := HB.out.1.len_pos k (by rw [HLN.out.1]; exact hlt)
      have HLY : Hid (Lies w b (off + k * 3) (ss.getD k dq) ∧ b < w.heap.size) := ⟨hly k (by rw [HLN.out.1]; exact hlt), hbw⟩
      have hbn := HB.out.2.bnd k (by rw [HLN.out.1]; exact hlt)
      have hnm := HB.out.2.nums k (by rw [HLN.out.1]; exact hlt)
      have HTK : Hid (syOf (ss.take (k + 1)) = putQ (syOf (ss.take k)) (ss.getD k dq) ∧ True) := ⟨syOf_take ss k (by rw [HLN.out.1]; exact hlt), trivial⟩
      clear hly hbw
      generalize ss.getD k dq = q at *
      generalize syOf (ss.take k) = st at *
      obtain ⟨qa, qc, ql, qn, qd⟩ := q
      simp only at hbn hnm
      have hl0 := HLY.out.1.below HS.out.2.2 (Nat.le_refl _) HLY.out.2
      have d0 := hl0.c0
      have d1 := hl0.c1
      simp only at d0 d1
      clear hl0
      go_wp2
      clear d0 d1
      go_loopw [7] (fun jv wi => ∃ j : Nat, j ≤ ql.length ∧ jv = .int .i64 j ∧ SyS wi (w.heap.size + 1) (w.heap.size + 1) (w.heap.size + 1 + 1) (putLs (ql.take j) st) ∧ Below (w.heap.size + 1) W1 wi) (fun jv _ => ql.length - (intOf jv).toNat)
      case atStart => exact ⟨0, Nat.zero_le _, rfl, by simpa [putLs] using HS.out.1, HS.out.2.1⟩
      case round =>
        clear HS
        obtain ⟨j, hj, rfl, hsy, hbel⟩ := hrel
        have hbb := HBW.out.1.trans (hbel.mono (by omega))
        have hl0 := HLY.out.1.below hbb (Nat.le_refl _) HLY.out.2
        have d0 := hl0.c0
        have d1 := hl0.c1
        have d2 := hl0.c2
        have hby := hl0.byt
        simp only at d0 d1 d2 hby
        have hpl := putLs_len (ql.take j) st
        have HS : Hid (SyS wr (w.heap.size + 1) (w.heap.size + 1) (w.heap.size + 1 + 1) (putLs (ql.take j) st) ∧ Below (w.heap.size + 1) W1 wr) := ⟨hsy, hbel⟩
        have HLY2 : Hid (Lies wr b (off + k * 3) ⟨qa, qc, ql, qn, qd⟩ ∧ b < wr.heap.size ∧ w.heap.size + 1 ≤ wr.heap.size) := ⟨hl0, Nat.lt_of_lt_of_le HLY.out.2 hbb.size, by obtain ⟨v, _, _, _, _, h5⟩ := hsy.si; exact h5⟩
        have htl : (ql.take j).length = j := by rw [List.length_take]; omega
        rw [htl] at hpl
        clear hsy hbel hbb hl0 htl
        by_cases hjl : j < ql.length
        · obtain ⟨lb, lo, rfl, hlb, hlc⟩ := hby.len_pos j hjl
          have hc := hlc j hjl
          have hr := getD_rng hby.1 j
          have HPT : Hid (putLs (ql.take (j + 1)) st = putL (putLs (ql.take j) st) (ql.getD j 0) ∧ True) := ⟨putLs_take ql st j hjl, trivial⟩
          have HC := l5letter_any (w.heap.size + 1) (w.heap.size + 1) (w.heap.size + 1 + 1) (ql.getD j 0) (putLs (ql.take j) st) wr HS.out.1 hr (by omega) (by omega)
          clear hby hlc
          generalize ql.getD j 0 = z at *
          go_wp2_with fail
          refine HC.mono ?_
          clear HC
          rintro e w5 ⟨rfl, hs5, hb5⟩
          have HS5 : Hid (SyS w5 (w.heap.size + 1) (w.heap.size + 1) (w.heap.size + 1 + 1) (putLs (ql.take (j + 1)) st) ∧ Below (w.heap.size + 1) W1 w5) := ⟨by rw [HPT.out.1]; exact hs5, HS.out.2.trans hb5⟩
          clear hs5 hb5 HS
          go_wp2
          go_roundw
          case rel => exact ⟨j + 1, by omega, by go_num, HS5.out.1, HS5.out.2⟩
          case measure => simp [intOf]; omega
        · have hjl2 : j = ql.length := by omega
          subst hjl2
          rw [List.take_length] at HS hpl
          by_cases hq0 : qn = 0
          · have HSF : Hid (SyS wr (w.heap.size + 1) (w.heap.size + 1) (w.heap.size + 1 + 1) (syOf (ss.take (k + 1))) ∧ Below (w.heap.size + 1) W1 wr) := by
              rw [HTK.out.1]
              unfold putQ
              rw [if_pos hq0]
              exact HS.out
            subst hq0
            clear HS
            go_wp2
            go_roundw
            case rel => exact ⟨k + 1, by omega, by go_num, HSF.out.1, HSF.out.2⟩
            case measure => simp [intOf]; omega
          · have hq1 := hnm.resolve_left hq0
            obtain ⟨m1, rfl⟩ := Int.eq_ofNat_of_zero_le (show 0 ≤ qn by omega)
            obtain ⟨m2, rfl⟩ := Int.eq_ofNat_of_zero_le (show 0 ≤ qd by omega)
            have hm1 : 3 ≤ m1 ∧ m1 ≤ 64 ∧ 1 ≤ m2 ∧ m2 ≤ 64 := by omega
            have hcl := cl_fact (n := m1 - 2) (by omega) (by omega)
            have HC := l5number_any (w.heap.size + 1) (w.heap.size + 1) (w.heap.size + 1 + 1) 16 (m1 - 2) (putLs ql st) wr HS.out.1 ⟨by omega, by omega⟩ (by omega) (by omega) (by omega)
            have e1 : (((m1 - 2 : Nat)) : Int) = (m1 : Int) - 3 + 1 := by omega
            rw [e1] at HC
            have HQ : Hid (syOf (ss.take (k + 1)) = putN 28 m2 (putN 16 (m1 - 2) (putLs ql st)) ∧ (putN 16 (m1 - 2) (putLs ql st)).2.1 ≤ 4000 ∧ (putN 16 (m1 - 2) (putLs ql st)).1.length ≤ 1000) := by
              refine ⟨?_, ?_, ?_⟩
              · rw [HTK.out.1]
                unfold putQ
                rw [if_neg hq0]
                simp
              · simp only [putN]; omega
              · simp only [putN, List.length_append, List.length_cons, List.length_nil]; omega
            have hmp : (0 : Int) < (m1 : Int) := by omega
            clear e1 hq0 hq1 hnm hcl hpl
            go_wp2_with fail
            refine HC.mono ?_
            clear HC
            rintro e w5 ⟨rfl, hs5, hb5⟩
            have hb51 := HS.out.2.trans hb5
            have d2' := (HLY.out.1.below (HBW.out.1.trans (hb51.mono (by omega))) (Nat.le_refl _) HLY.out.2).c2
            simp only at d2'
            have HC := l5number_any (w.heap.size + 1) (w.heap.size + 1) (w.heap.size + 1 + 1) 28 m2 _ w5 hs5 ⟨by omega, by omega⟩ (by omega) HQ.out.2.1 HQ.out.2.2
            have HB5 : Hid (Below (w.heap.size + 1) W1 w5) := hb51
            clear hs5 hb5 hb51 HS d0 d1 d2
            go_wp2_with fail
            refine HC.mono ?_
            clear HC
            rintro e w6 ⟨rfl, hs6, hb6⟩
            have HSF : Hid (SyS w6 (w.heap.size + 1) (w.heap.size + 1) (w.heap.size + 1 + 1) (syOf (ss.take (k + 1))) ∧ Below (w.heap.size + 1) W1 w6) := ⟨by rw [HQ.out.1]; exact hs6, HB5.out.trans hb6⟩
            clear hs6 hb6
            go_wp2
            go_roundw
            case rel => exact ⟨k + 1, by omega, by go_num, HSF.out.1, HSF.out.2⟩
            case measure => simp [intOf]; omega
    · have hkn : k = n := by omega
      subst hkn
      have HTE : Hid (syOf (ss.take k) = syOf ss ∧ True) := ⟨by rw [List.take_of_length_le (by rw [HLN.out.1]; exact Nat.le_refl _)], trivial⟩
      rw [HTE.out.1] at HS
      obtain ⟨sa, sc, hP, hov⟩ := HS.out.1.box
      obtain ⟨v, hR, hv, hV, hBR, -⟩ := HS.out.1.si
      obtain ⟨va, vc, rfl, -⟩ := hv.mine
      have hX : wr.heap[w.heap.size]? = some (.cells #[.slice none 0 0, .int .i64 0] 27 (0, 0)) := (HS.out.2.1.block w.heap.size (by omega)).trans HBW.out.2
      have HRES : Hid (OVI (((wr.setCell ⟨w.heap.size, 0, none⟩ (.slice va (enc (syOf ss).2.1 (syOf ss).2.2).length vc)).setCell ⟨w.heap.size, 1, none⟩ (.int .i64 ((syOf ss).2.1 : Nat))).drew) w.heap.size (.slice sa (syOf ss).1.length sc) (syOf ss).1 ∧ OwnV (((wr.setCell ⟨w.heap.size, 0, none⟩ (.slice va (enc (syOf ss).2.1 (syOf ss).2.2).length vc)).setCell ⟨w.heap.size, 1, none⟩ (.int .i64 ((syOf ss).2.1 : Nat))).drew) w.heap.size (.slice va (enc (syOf ss).2.1 (syOf ss).2.2).length vc) (enc (syOf ss).2.1 (syOf ss).2.2) ∧ (syOf ss).2.2 < 2 ^ (syOf ss).2.1 ∧ Below w.heap.size w (((wr.setCell ⟨w.heap.size, 0, none⟩ (.slice va (enc (syOf ss).2.1 (syOf ss).2.2).length vc)).setCell ⟨w.heap.size, 1, none⟩ (.int .i64 ((syOf ss).2.1 : Nat))).drew)) := by
        have ho : Only (fun b => b = w.heap.size) wr (((wr.setCell ⟨w.heap.size, 0, none⟩ (.slice va (enc (syOf ss).2.1 (syOf ss).2.2).length vc)).setCell ⟨w.heap.size, 1, none⟩ (.int .i64 ((syOf ss).2.1 : Nat))).drew) := by
          exact (((Only.refl (fun b => b = w.heap.size) wr).setCell (p := ⟨w.heap.size, 0, none⟩) (.inl rfl) _).setCell (p := ⟨w.heap.size, 1, none⟩) (.inl rfl) _).drew
        exact ⟨ovi_weakS hov ho (fun k hk => by omega) (by omega), ownV_weakS hv ho (fun k hk => by omega) (by omega), hV, HS.out.2.2.trans (ho.below (by have := HS.out.2.2.size; omega) (fun k hk => by omega))⟩
      have x0 : wr.cell? ⟨w.heap.size, 0, none⟩ = some (.slice none 0 0) := cellRR (j := 0) hX rfl
      have x1 : wr.cell? ⟨w.heap.size, 1, none⟩ = some (.int .i64 0) := cellRR (j := 1) hX rfl
      have y0 := frozen_of_row wr w.heap.size 0 _ _ hX
      have y1 := frozen_of_row wr w.heap.size 1 _ _ hX
      have p0 : wr.cell? ⟨w.heap.size + 1, 0, none⟩ = some (.slice sa (syOf ss).1.length sc) := cellRR (j := 0) hP rfl
      have r0 : wr.cell? ⟨w.heap.size + 1 + 1, 0, none⟩ = some (.slice va (enc (syOf ss).2.1 (syOf ss).2.2).length vc) := cellRR (j := 0) hR rfl
      have r1 : wr.cell? ⟨w.heap.size + 1 + 1, 1, none⟩ = some (.int .i64 ((syOf ss).2.1 : Nat)) := cellRR (j := 1) hR rfl
      clear hP hov hR hv hV hX HS HTE HB
      have HRL : Hid (∃ L, (enc (syOf ss).2.1 (syOf ss).2.2).length = L) := ⟨_, rfl⟩
      obtain ⟨L, hL⟩ := HRL.out
      rw [hL] at r0 HRES
      clear hL HRL
      go_wp2
      go_region
      all_goals go_wp2
      all_goals exact bodyPost_ret (v := .tuple #[.slice sa (syOf ss).1.length sc, .agg #[.slice va L vc, .int .i64 ((syOf ss).2.1 : Nat)]]) (by simp [results, Tryd.results25, go_sem, x0, x1]) rfl ⟨⟨sa, sc, .slice va L vc, rfl, HRES.out.1, HRES.out.2.1, HRES.out.2.2.1⟩, HRES.out.2.2.2⟩
end Go.Proofs.YtecmnbdnnlifhaaDoor
