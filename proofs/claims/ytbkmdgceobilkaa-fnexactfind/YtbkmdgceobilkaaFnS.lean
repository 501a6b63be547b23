/-
  Find of the model. (Typed by wip/mkfns.py.)
-/
import Derived.Test.YtbkmdgceobilkaaFnD
import Derived.Test.YtbkmdgceobilkaaLzS
import Derived.Test.YtbkmdgceobilkaaUsP
import Derived.Test.YtbkmdgceobilkaaOwn4
namespace Go.Proofs.Ytbkmdgceobilkaa
open Go.RowKit
set_option linter.unusedVariables false
set_option linter.unusedSimpArgs false

/-- Sequences whose numbers and letters are few. -/
def Few4 (ss : List Sq) : Prop := ss.length ≤ 65 ∧ ∀ s ∈ ss, s.ls.length ≤ 64 ∧ (0 ≤ s.n ∧ s.n ≤ 64) ∧ (0 ≤ s.d ∧ s.d ≤ 64)
/-- What is handed back: a row of the call's own that has the sequences cs. -/
def FnA (w : World) (B : Nat) (v : Value) (cs : List (List Int × Int × Int)) : Prop := ∃ ss : List Sq, ss.map Sq.ct = cs ∧ OVq w B v ss ∧ DeepQ w B ss ∧ Few4 ss
theorem St.few {ys : List Int} {f q : Nat} {ss : List Sq} (h : St ys f q (ss.map Sq.ct)) (hn : ys.length ≤ 64) : Few4 ss := by
  have h1 := h.cl
  have h2 := h.ql
  rw [List.length_map] at h1
  refine ⟨by omega, fun s hs => ?_⟩
  obtain ⟨p1, n, d, p2, p3, p4⟩ := h.parts s.ct (List.mem_map_of_mem hs)
  have e1 : s.ls.length ≤ ys.length := p1
  have e2 : s.n = n := congrArg Prod.fst p2
  have e3 : s.d = d := congrArg Prod.snd p2
  omega
theorem Few4.snoc {ys : List Int} {f q : Nat} {ss : List Sq} (h : St ys f q (ss.map Sq.ct)) (hn : ys.length ≤ 64) {s : Sq} (h1 : s.ls.length ≤ 64) (h2 : 0 ≤ s.n ∧ s.n ≤ 64) (h3 : 0 ≤ s.d ∧ s.d ≤ 64) : Few4 (ss ++ [s]) := by
  have h4 := h.few hn
  have h5 := h.cl
  have h6 := h.ql
  rw [List.length_map] at h5
  refine ⟨by rw [List.length_append]; simp; omega, fun x hx => ?_⟩
  rcases List.mem_append.1 hx with hx | hx
  · exact h4.2 x hx
  · obtain rfl : x = s := by simpa using hx
    exact ⟨h1, h2, h3⟩
theorem Few4.rng {ss : List Sq} (h : Few4 ss) : ∀ s ∈ ss, rI s.n ∧ rI s.d ∧ s.ls.length ≤ maxLen := fun s hs => by
  obtain ⟨h1, h2, h3⟩ := h.2 s hs
  exact ⟨⟨by omega, by omega⟩, ⟨by omega, by omega⟩, by unfold maxLen; omega⟩
theorem Few4.ct {ss ts : List Sq} (h : Few4 ss) (e : ts.map Sq.ct = ss.map Sq.ct) : Few4 ts := by
  have hl := congrArg List.length e
  simp only [List.length_map] at hl
  refine ⟨by rw [hl]; exact h.1, fun t ht => ?_⟩
  have h1 : t.ct ∈ ss.map Sq.ct := by rw [← e]; exact List.mem_map_of_mem ht
  obtain ⟨s, hs, h2⟩ := List.mem_map.1 h1
  have h3 := h.2 s hs
  have e1 : s.ls = t.ls := congrArg Prod.fst h2
  have e2 : s.n = t.n := congrArg (fun c => c.2.1) h2
  have e3 : s.d = t.d := congrArg (fun c => c.2.2) h2
  rw [e1, e2, e3] at h3
  exact h3

set_option maxRecDepth 20000 in
set_option maxHeartbeats 6400000 in
theorem l4find_any (a : Option Addr) (c : Nat) (ys : List Int) (w : World) (hb : Byt w a ys) (hn : ys.length ≤ 64) :
    Calls Try.prog 19 #[.slice a ys.length c] w fun e w' => (∃ v, e = .returned v ∧ FnA w' w.heap.size v (found ys)) ∧ Below w.heap.size w w' := by
  have HBY : Hid (Byt w a ys ∧ True) := ⟨hb, trivial⟩
  have HLO : Hid (∀ (W : World) (p : Nat), Below w.heap.size w W → p < ys.length → Calls Try.prog 15 #[.slice a ys.length c, .int .i64 p] W fun e w' => e = .returned (.tuple #[.int .i64 (lz ys p).1, .int .i64 (lz ys p).2]) ∧ Below W.heap.size W w') := fun W p hW hp => by
    rw [lz_at hp]
    exact l4longest_any a c ys p W (hb.below hW (Nat.le_refl _)) hn hp
  have HLE : Hid (∀ q, q + (lz ys q).1 ≤ max q ys.length ∧ (lz ys q).2 ≤ q) := lz_le ys
  have HEN : Hid (∀ q, ¬ q < ys.length → (lz ys q).1 = 0) := fun q h => by rw [lz_end h]
  have HRG : Hid (∀ q, q < ys.length → 0 ≤ ys.getD q 0 ∧ ys.getD q 0 ≤ 255) := fun q h => by
    rw [List.getD_eq_getElem?_getD, List.getElem?_eq_getElem h]
    exact hb.1 _ (List.getElem_mem h)
  have HCN : Hid (∀ f q, f ≤ q → q < ys.length → cutL ys f q ++ [ys.getD q 0] = cutL ys f (q + 1)) := cutL_snoc ys
  have HCL : Hid (∀ f q, f ≤ q → q ≤ ys.length → (cutL ys f q).length = q - f) := cutL_len ys
  have HTW : Hid (∀ f q cs, St ys f q cs → q < ys.length → ¬ takes ys q → St ys f (q + 1) cs) := fun f q cs h1 h2 h3 => h1.wait h2 h3
  have HTT : Hid (∀ f q cs, St ys f q cs → q < ys.length → takes ys q → St ys (q + (lz ys q).1) (q + (lz ys q).1) (cs ++ [(cutL ys f q, ((lz ys q).1 : Int), ((lz ys q).2 : Int))])) := fun f q cs h1 h2 h3 => h1.take h2 h3
  have HDN : Hid (∀ f q cs, St ys f q cs → ¬ q < ys.length → found ys = fin ys f cs) := fun f q cs h1 h2 => h1.done h2
  have HSR : Hid (∀ f q cs, St ys f q cs → f ≤ q ∧ q ≤ ys.length ∧ cs.length ≤ q) := fun f q cs h => ⟨h.fq, h.ql, h.cl⟩
  have HFW : Hid (∀ f q ss, St ys f q (ss.map Sq.ct) → Few4 ss ∧ ∀ s : Sq, s.ls.length ≤ 64 → (0 ≤ s.n ∧ s.n ≤ 64) → (0 ≤ s.d ∧ s.d ≤ 64) → Few4 (ss ++ [s])) := fun f q ss h => ⟨h.few hn, fun s h1 h2 h3 => Few4.snoc h hn h1 h2 h3⟩
  have HST : Hid (St ys 0 0 []) := St.start ys
  clear hb
  generalize hL : ys.length = n at *
  have HL : Hid (ys.length = n ∧ True) := ⟨hL, trivial⟩
  clear hL
  go_enter Try.func19, Try.ntmps19
  go_wp2
  go_loopw [3, 4, 5] (fun ov lv iv wr => ∃ (f q : Nat) (ss : List Sq) (ls : List Int), iv = .int .i64 q ∧ St ys f q (ss.map Sq.ct) ∧ ls = cutL ys f q ∧ OVB wr w.heap.size lv ls ∧ OVq wr w.heap.size ov ss ∧ DeepQ wr w.heap.size ss ∧ Aprt ss lv ∧ Below w.heap.size w wr) (fun _ _ iv _ => n - (intOf iv).toNat)
  case atStart => exact ⟨0, 0, [], [], rfl, HST.out, (cutL_nil ys 0).symm, OVB.nil _ _, OVq.nil _ _, DeepQ.nil _ _, Aprt.none _, Below.refl _ _⟩
  case round =>
    obtain ⟨f, q, ss, ls, rfl, hst, hls, hob, hoq, hdq, hap, hbel⟩ := hrel
    obtain ⟨la, lc, rfl⟩ := hob.form
    obtain ⟨oa, oc, rfl⟩ := hoq.form
    obtain ⟨hfq, hqn, hcl⟩ := HSR.out _ _ _ hst
    have hll : ls.length = q - f := by rw [hls]; exact HCL.out f q hfq hqn
    rw [List.length_map] at hcl
    have HS : Hid (St ys f q (ss.map Sq.ct) ∧ ls = cutL ys f q ∧ ls.length = q - f) := ⟨hst, hls, hll⟩
    have HO : Hid (OVB wr w.heap.size (.slice la ls.length lc) ls ∧ OVq wr w.heap.size (.slice oa ss.length oc) ss ∧ DeepQ wr w.heap.size ss ∧ Aprt ss (.slice la ls.length lc)) := ⟨hob, hoq, hdq, hap⟩
    have HB : Hid (Below w.heap.size w wr) := hbel
    have hsz := hbel.size
    have hlq : ls.length ≤ q := by omega
    have hsq : ss.length ≤ q := hcl
    clear hst hls hob hoq hdq hap hbel hll hcl
    by_cases hlt : q < n
    · have h1 := HLO.out wr q HB.out hlt
      have hle := (HLE.out q).1
      have hld := (HLE.out q).2
      obtain ⟨b1, o1, rfl, hbl, hbc⟩ := HBY.out.1.2 (by rw [HL.out.1]; omega)
      have hz := HRG.out q hlt
      have HCZ : Hid (∀ W, Below w.heap.size w W → W.cell? ⟨b1, o1 + q, none⟩ = some (.int .u8 (ys.getD q 0))) := fun W hW => keep hW hbl (hbc q (by rw [HL.out.1]; exact hlt))
      have HTQ : Hid (takes ys q ↔ 0 < (lz ys q).1 ∧ (lz ys (q + 1)).1 ≤ (lz ys q).1) := Iff.rfl
      have HCQ : Hid (cutL ys f q ++ [ys.getD q 0] = cutL ys f (q + 1) ∧ True) := ⟨HCN.out f q hfq hlt, trivial⟩
      have HT2 : Hid (takes ys q → St ys (q + (lz ys q).1) (q + (lz ys q).1) (ss.map Sq.ct ++ [(cutL ys f q, ((lz ys q).1 : Int), ((lz ys q).2 : Int))])) := fun h => HTT.out f q _ HS.out.1 hlt h
      clear hbl hbc
      generalize ys.getD q 0 = z at *
      generalize (lz ys q).1 = x at *
      generalize (lz ys q).2 = y at *
      have hxn : q + x ≤ n := by omega
      go_wp2_with fail
      refine h1.mono ?_
      clear h1
      rintro e w1 ⟨rfl, hb1⟩
      have HB1 : Hid (Below w.heap.size w w1) := HB.out.trans (hb1.mono hsz)
      have HO1 : Hid (OVB w1 w.heap.size (.slice la ls.length lc) ls ∧ OVq w1 w.heap.size (.slice oa ss.length oc) ss ∧ DeepQ w1 w.heap.size ss ∧ Aprt ss (.slice la ls.length lc)) := ⟨HO.out.1.below hb1, HO.out.2.1.below hb1, HO.out.2.2.1.below hb1, HO.out.2.2.2⟩
      have hsz1 := HB1.out.size
      clear hb1 HO HB hsz hle
      by_cases hx0 : x = 0
      · subst hx0
        have hcz := HCZ.out w1 HB1.out
        have HWT : Hid (St ys f (q + 1) (ss.map Sq.ct) ∧ ls ++ [z] = cutL ys f (q + 1)) := ⟨HTW.out f q _ HS.out.1 hlt (fun h => by have := (HTQ.out.1 h).1; omega), by rw [HS.out.2.1]; exact HCQ.out.1⟩
        go_wp2_with (at_builtin; (refine wpList_append_b1 rfl (.tmp 41) (.tmp 46) rfl w.heap.size (.slice la ls.length lc) ls rfl (HO1.out.1.alloc _) w1.heap.size 1 z rfl (by simp) hz (by omega) (by simp; omega) ?_); intro v4 w4 hown hgrow hat)
        have HO4 : Hid (OVB w4 w.heap.size v4 (ls ++ [z]) ∧ OVq w4 w.heap.size (.slice oa ss.length oc) ss ∧ DeepQ w4 w.heap.size ss ∧ Aprt ss v4) := by
          have hbA : Below w1.heap.size w1 (w1.alloc (Obj.cells #[.int .u8 z] 5)) := (Below.refl _ _).alloc (Nat.le_refl _) _
          exact ⟨hown, (HO1.out.2.1.below hbA).grownB (HO1.out.1.alloc _) hgrow, (HO1.out.2.2.1.below hbA).grownB HO1.out.2.2.2 hgrow, HO1.out.2.2.2.app HO1.out.2.2.1 hat (by simp)⟩
        have HB4 : Hid (Below w.heap.size w w4) := (HB1.out.alloc HB1.out.size _).grown hgrow (by have := HB1.out.size; simp; omega) (fun k hk => (HO1.out.1.blk hk))
        clear hown hgrow hat hcz
        go_roundw
        case rel => exact ⟨f, q + 1, ss, ls ++ [z], by go_num, HWT.out.1, HWT.out.2, HO4.out.1, HO4.out.2.1, HO4.out.2.2.1, HO4.out.2.2.2, HB4.out⟩
        case measure => simp [intOf]; omega
      · have hx1 : (0 : Int) < (x : Int) := by omega
        have hx2 : 0 < x := by omega
        by_cases hq1 : q + 1 < n
        · have hq1I : (q : Int) + 1 < (n : Int) := by omega
          have h2 := HLO.out w1 (q + 1) HB1.out hq1
          have e1 : ((q + 1 : Nat) : Int) = (q : Int) + 1 := by omega
          rw [e1] at h2
          obtain ⟨m, hm⟩ : ∃ m, m = (lz ys (q + 1)).1 := ⟨_, rfl⟩
          rw [← hm] at h2
          have HM : Hid (m = (lz ys (q + 1)).1 ∧ True) := ⟨hm, trivial⟩
          have hmb : m ≤ 64 := by have := (HLE.out (q + 1)).1; omega
          generalize (lz ys (q + 1)).2 = md at *
          clear hm e1
          go_wp2_with fail
          refine h2.mono ?_
          clear h2
          rintro e w2 ⟨rfl, hb2⟩
          have HB2 : Hid (Below w.heap.size w w2) := HB1.out.trans (hb2.mono hsz1)
          have HO2 : Hid (OVB w2 w.heap.size (.slice la ls.length lc) ls ∧ OVq w2 w.heap.size (.slice oa ss.length oc) ss ∧ DeepQ w2 w.heap.size ss ∧ Aprt ss (.slice la ls.length lc)) := ⟨HO1.out.1.below hb2, HO1.out.2.1.below hb2, HO1.out.2.2.1.below hb2, HO1.out.2.2.2⟩
          have hsz2 := HB2.out.size
          clear hb2 HO1 HB1 hsz1
          by_cases hmx : x < m
          · have hmxI : (x : Int) < (m : Int) := by omega
            have hcz := HCZ.out w2 HB2.out
            have HWT : Hid (St ys f (q + 1) (ss.map Sq.ct) ∧ ls ++ [z] = cutL ys f (q + 1)) := ⟨HTW.out f q _ HS.out.1 hlt (fun h => by have h3 := (HTQ.out.1 h).2; rw [← HM.out.1] at h3; omega), by rw [HS.out.2.1]; exact HCQ.out.1⟩
            go_wp2_with (at_builtin; (refine wpList_append_b1 rfl (.tmp 41) (.tmp 46) rfl w.heap.size (.slice la ls.length lc) ls rfl (HO2.out.1.alloc _) w2.heap.size 1 z rfl (by simp) hz (by omega) (by simp; omega) ?_); intro v4 w4 hown hgrow hat)
            have HO4 : Hid (OVB w4 w.heap.size v4 (ls ++ [z]) ∧ OVq w4 w.heap.size (.slice oa ss.length oc) ss ∧ DeepQ w4 w.heap.size ss ∧ Aprt ss v4) := by
              have hbA : Below w2.heap.size w2 (w2.alloc (Obj.cells #[.int .u8 z] 5)) := (Below.refl _ _).alloc (Nat.le_refl _) _
              exact ⟨hown, (HO2.out.2.1.below hbA).grownB (HO2.out.1.alloc _) hgrow, (HO2.out.2.2.1.below hbA).grownB HO2.out.2.2.2 hgrow, HO2.out.2.2.2.app HO2.out.2.2.1 hat (by simp)⟩
            have HB4 : Hid (Below w.heap.size w w4) := (HB2.out.alloc HB2.out.size _).grown hgrow (by have := HB2.out.size; simp; omega) (fun k hk => (HO2.out.1.blk hk))
            clear hown hgrow hat hcz
            go_roundw
            case rel => exact ⟨f, q + 1, ss, ls ++ [z], by go_num, HWT.out.1, HWT.out.2, HO4.out.1, HO4.out.2.1, HO4.out.2.2.1, HO4.out.2.2.2, HB4.out⟩
            case measure => simp [intOf]; omega
          · have hmxI : ¬ (x : Int) < (m : Int) := by omega
            have hx3 : ¬ (x : Int) = 0 := by omega
            have HTK : Hid (St ys (q + x) (q + x) (ss.map Sq.ct ++ [(ls, (x : Int), (y : Int))])) := by rw [HS.out.2.1]; exact HT2.out (HTQ.out.2 ⟨hx2, by rw [← HM.out.1]; omega⟩)
            go_wp2_with (at_builtin; (refine wpList_append_sq rfl (.tmp 50) (.tmp 55) rfl w.heap.size (.slice oa ss.length oc) ss rfl (HO2.out.2.1.below ((Below.refl _ _).alloc (Nat.le_refl _) _)) w2.heap.size 1 ⟨la, lc, ls, (x : Int), (y : Int)⟩ rfl (newsQ w2 la ls.length lc _ _ _ _ rfl rfl rfl rfl rfl) (by omega) (by simp; omega) ?_); intro v4 w4 hown hgrow)
            have HO4 : Hid (OVq w4 w.heap.size v4 (ss ++ [⟨la, lc, ls, (x : Int), (y : Int)⟩]) ∧ DeepQ w4 w.heap.size (ss ++ [⟨la, lc, ls, (x : Int), (y : Int)⟩])) := by
              obtain ⟨a5, c5, e5, hm5, hr5⟩ := HO2.out.1.mineAt
              obtain ⟨rfl, rfl⟩ : la = a5 ∧ lc = c5 := by simpa using e5
              have hd5 : DeepQ w2 w.heap.size (ss ++ [⟨la, lc, ls, (x : Int), (y : Int)⟩]) := HO2.out.2.2.1.snoc hm5 (fun z hz k hk hk2 => HO2.out.2.2.2 z hz k hk (hr5 k hk2))
              exact ⟨hown, (hd5.below ((Below.refl _ _).alloc (Nat.le_refl _) _)).grown (HO2.out.2.1.below ((Below.refl _ _).alloc (Nat.le_refl _) _)) hgrow⟩
            have HB4 : Hid (Below w.heap.size w w4) := (HB2.out.alloc HB2.out.size _).grown hgrow (by have := HB2.out.size; simp; omega) (fun k hk => (HO2.out.2.1.blk hk).1)
            have HMP : Hid ((ss ++ [(⟨la, lc, ls, (x : Int), (y : Int)⟩ : Sq)]).map Sq.ct = ss.map Sq.ct ++ [(ls, (x : Int), (y : Int))] ∧ True) := ⟨by rw [List.map_append]; rfl, trivial⟩
            clear hown hgrow
            go_roundw
            case rel => exact ⟨q + x, q + x, ss ++ [⟨la, lc, ls, (x : Int), (y : Int)⟩], [], by congr 1, by rw [HMP.out.1]; exact HTK.out, (cutL_nil ys (q + x)).symm, OVB.nil _ _, HO4.out.1, HO4.out.2, Aprt.none _, HB4.out⟩
            case measure => simp [intOf]; omega
        · have hq1I : ¬ (q : Int) + 1 < (n : Int) := by omega
          have hx3 : ¬ (x : Int) = 0 := by omega
          have HTK : Hid (St ys (q + x) (q + x) (ss.map Sq.ct ++ [(ls, (x : Int), (y : Int))])) := by rw [HS.out.2.1]; exact HT2.out (HTQ.out.2 ⟨hx2, by rw [HEN.out (q + 1) hq1]; omega⟩)
          go_wp2_with (at_builtin; (refine wpList_append_sq rfl (.tmp 50) (.tmp 55) rfl w.heap.size (.slice oa ss.length oc) ss rfl (HO1.out.2.1.below ((Below.refl _ _).alloc (Nat.le_refl _) _)) w1.heap.size 1 ⟨la, lc, ls, (x : Int), (y : Int)⟩ rfl (newsQ w1 la ls.length lc _ _ _ _ rfl rfl rfl rfl rfl) (by omega) (by simp; omega) ?_); intro v4 w4 hown hgrow)
          have HO4 : Hid (OVq w4 w.heap.size v4 (ss ++ [⟨la, lc, ls, (x : Int), (y : Int)⟩]) ∧ DeepQ w4 w.heap.size (ss ++ [⟨la, lc, ls, (x : Int), (y : Int)⟩])) := by
            obtain ⟨a5, c5, e5, hm5, hr5⟩ := HO1.out.1.mineAt
            obtain ⟨rfl, rfl⟩ : la = a5 ∧ lc = c5 := by simpa using e5
            have hd5 : DeepQ w1 w.heap.size (ss ++ [⟨la, lc, ls, (x : Int), (y : Int)⟩]) := HO1.out.2.2.1.snoc hm5 (fun z hz k hk hk2 => HO1.out.2.2.2 z hz k hk (hr5 k hk2))
            exact ⟨hown, (hd5.below ((Below.refl _ _).alloc (Nat.le_refl _) _)).grown (HO1.out.2.1.below ((Below.refl _ _).alloc (Nat.le_refl _) _)) hgrow⟩
          have HB4 : Hid (Below w.heap.size w w4) := (HB1.out.alloc HB1.out.size _).grown hgrow (by have := HB1.out.size; simp; omega) (fun k hk => (HO1.out.2.1.blk hk).1)
          have HMP : Hid ((ss ++ [(⟨la, lc, ls, (x : Int), (y : Int)⟩ : Sq)]).map Sq.ct = ss.map Sq.ct ++ [(ls, (x : Int), (y : Int))] ∧ True) := ⟨by rw [List.map_append]; rfl, trivial⟩
          clear hown hgrow
          go_roundw
          case rel => exact ⟨q + x, q + x, ss ++ [⟨la, lc, ls, (x : Int), (y : Int)⟩], [], by congr 1, by rw [HMP.out.1]; exact HTK.out, (cutL_nil ys (q + x)).symm, OVB.nil _ _, HO4.out.1, HO4.out.2, Aprt.none _, HB4.out⟩
          case measure => simp [intOf]; omega
    · have HF : Hid (found ys = fin ys f (ss.map Sq.ct) ∧ q = n) := ⟨HDN.out f q _ HS.out.1 hlt, by omega⟩
      have HFQ := HFW.out f q ss HS.out.1
      by_cases hl0 : ls.length = 0
      · have HFN : Hid (found ys = ss.map Sq.ct ∧ Few4 ss) := by
          refine ⟨?_, HFQ.1⟩
          rw [HF.out.1]
          unfold fin
          rw [if_neg (by have := HS.out.2.2; have := HF.out.2; rw [HL.out.1]; omega)]
        have hl0I : ¬ (0 : Int) < (ls.length : Int) := by omega
        clear HFQ
        go_wp2
        go_ret
        exact ⟨⟨_, rfl, ss, HFN.out.1.symm, HO.out.2.1, HO.out.2.2.1, HFN.out.2⟩, HB.out⟩
      · have hl0I : (0 : Int) < (ls.length : Int) := by omega
        have HFN : Hid (found ys = ss.map Sq.ct ++ [(ls, 0, 0)] ∧ Few4 (ss ++ [⟨la, lc, ls, 0, 0⟩])) := by
          refine ⟨?_, HFQ.2 _ (by show ls.length ≤ 64; omega) ⟨by simp, by simp⟩ ⟨by simp, by simp⟩⟩
          rw [HF.out.1]
          unfold fin
          rw [if_pos (by have := HS.out.2.2; have := HF.out.2; rw [HL.out.1]; omega), HL.out.1, HS.out.2.1, HF.out.2]
        have hl0n : 0 < ls.length := by omega
        clear hl0 HFQ
        go_wp2_with (at_builtin; (refine wpList_append_sq rfl (.tmp 63) (.tmp 66) rfl w.heap.size (.slice oa ss.length oc) ss rfl (HO.out.2.1.below ((Below.refl _ _).alloc (Nat.le_refl _) _)) wr.heap.size 1 ⟨la, lc, ls, 0, 0⟩ rfl (newsQ wr la ls.length lc _ _ _ _ rfl rfl rfl rfl rfl) (by omega) (by simp; omega) ?_); intro v4 w4 hown hgrow)
        go_ret
        obtain ⟨a5, c5, e5, hm5, hr5⟩ := HO.out.1.mineAt
        obtain ⟨rfl, rfl⟩ : la = a5 ∧ lc = c5 := by simpa using e5
        have hd5 : DeepQ wr w.heap.size (ss ++ [⟨la, lc, ls, 0, 0⟩]) := HO.out.2.2.1.snoc hm5 (fun z hz k hk hk2 => HO.out.2.2.2 z hz k hk (hr5 k hk2))
        exact ⟨⟨v4, rfl, ss ++ [⟨la, lc, ls, 0, 0⟩], by rw [HFN.out.1, List.map_append]; rfl, hown, (hd5.below ((Below.refl _ _).alloc (Nat.le_refl _) _)).grown (HO.out.2.1.below ((Below.refl _ _).alloc (Nat.le_refl _) _)) hgrow, HFN.out.2⟩, (HB.out.alloc hsz _).grown hgrow (by simp; omega) (fun k hk => (HO.out.2.1.blk hk).1)⟩

set_option maxHeartbeats 1600000 in
theorem specFind_any (a : Option Addr) (c : Nat) (ys : List Int) (w : World) (hb : Byt w a ys) (hm : ys.length ≤ 1048576) :
    Calls Try.prog 9 #[.slice a ys.length c] w fun e w' => (ys.length ≤ 64 → ∃ v, e = .returned (.tuple #[v, .bool true]) ∧ FnA w' w.heap.size v (found ys)) ∧ (¬ ys.length ≤ 64 → e = .returned (.tuple #[.slice none 0 0, .bool false])) ∧ Below w.heap.size w w' := by
  by_cases hn : ys.length ≤ 64
  · have HF := l4find_any a c ys w hb hn
    have HN : Hid (ys.length ≤ 64) := hn
    generalize found ys = cs at *
    generalize ys.length = n at *
    go_enter Try.func9, Try.ntmps9
    go_wp2_with fail
    refine HF.mono ?_
    clear HF
    rintro e w1 ⟨⟨v, rfl, ss, hct, hoq, hdq, hfw⟩, hb1⟩
    obtain ⟨oa, oc, rfl⟩ := hoq.form
    have hsq : Sqs w1 oa ss := hoq.sqs (fun s hs => ⟨hfw.rng s hs, hdq.byt hs⟩)
    have HOW := l4own_any oa oc ss w1 hsq (by have := hfw.1; omega) (fun s hs => by have := (hfw.2 s hs).1; omega)
    have HCT : Hid (ss.map Sq.ct = cs ∧ Few4 ss) := ⟨hct, hfw⟩
    have hsz := hb1.size
    have HB1 : Hid (Below w.heap.size w w1) := hb1
    clear hct hoq hdq hsq hfw hb1
    go_wp2_with fail
    refine HOW.mono ?_
    clear HOW
    rintro e w2 ⟨⟨v2, ts, rfl, hct2, hoq2, hdq2⟩, hb2⟩
    have H2 : Hid (FnA w2 w.heap.size v2 cs ∧ Below w.heap.size w w2) := ⟨⟨ts, hct2.trans HCT.out.1, hoq2.weak hsz, hdq2.weak hsz, HCT.out.2.ct hct2⟩, HB1.out.trans (hb2.mono hsz)⟩
    obtain ⟨oa2, oc2, rfl⟩ := hoq2.form
    clear hct2 hoq2 hdq2 hb2 HB1
    go_wp2
    exact bodyPost_ret (v := .tuple #[.slice oa2 ts.length oc2, .bool true]) (by simp [results, Try.results9, go_sem]) rfl ⟨fun _ => ⟨_, rfl, H2.out.1⟩, fun h => absurd HN.out h, H2.out.2⟩
  · have hn2 : (64 : Int) < (ys.length : Int) := by omega
    go_enter Try.func9, Try.ntmps9
    go_wp2
    exact bodyPost_ret (v := .tuple #[.slice none 0 0, .bool false]) (by simp [results, Try.results9, go_sem]) rfl ⟨fun h => absurd h hn, fun _ => rfl, Below.refl _ _⟩
end Go.Proofs.Ytbkmdgceobilkaa
