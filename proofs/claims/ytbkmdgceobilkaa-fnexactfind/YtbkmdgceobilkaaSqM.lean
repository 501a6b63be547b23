/-
  Marks in a row of sequences.
-/
import Derived.Test.YtbkmdgceobilkaaSqLt
import Derived.Test.YtbkmdgceobilkaaMarks
namespace Go.Proofs.Ytbkmdgceobilkaa
open Go.RowKit
set_option linter.unusedVariables false

theorem flat_set12 (n d : Int) (ss : List Sq) : ∀ k, k < ss.length → ((ss.flatMap Sq.cells).set (k * 3 + 1) (.int .i64 n)).set (k * 3 + 2) (.int .i64 d) = (ss.set k { ss.getD k dq with n := n, d := d }).flatMap Sq.cells := by
  induction ss with
  | nil => intro k hk; simp at hk
  | cons x ss ih =>
    intro k hk
    cases k with
    | zero => simp [List.flatMap_cons, Sq.cells]
    | succ k =>
      have := ih k (by simpa using hk)
      rw [List.set_cons_succ, List.flatMap_cons, List.flatMap_cons, List.getD_cons_succ, ← this, show (k + 1) * 3 = k * 3 + 3 from by omega]
      simp [Sq.cells]
theorem flat_ls (ls : List Int) (ss : List Sq) : ∀ k, k < ss.length → ls.length = (ss.getD k dq).ls.length → (ss.set k { ss.getD k dq with ls := ls }).flatMap Sq.cells = ss.flatMap Sq.cells := by
  induction ss with
  | nil => intro k hk; simp at hk
  | cons x ss ih =>
    intro k hk hl
    cases k with
    | zero => simp only [List.set_cons_zero, List.flatMap_cons, Sq.cells]; simp at hl; simp [hl]
    | succ k =>
      have := ih k (by simpa using hk) (by simpa using hl)
      rw [List.set_cons_succ, List.flatMap_cons, List.flatMap_cons, List.getD_cons_succ, this]

theorem memS_get {ss : List Sq} {t : Sq} (h : t ∈ ss) : ∃ i, i < ss.length ∧ ss.getD i dq = t := by
  obtain ⟨i, hi, rfl⟩ := List.mem_iff_getElem.1 h
  exact ⟨i, hi, by rw [List.getD_eq_getElem?_getD, List.getElem?_eq_getElem hi]; rfl⟩
section
variable {w w' : World} {B g cap : Nat} {ss : List Sq}
/-- The letters of one of them have turned. -/
theorem OwS.letters (h : OwS w B g cap ss) (k : Nat) (hk : k < ss.length) (ls : List Int) (hl : ls.length = (ss.getD k dq).ls.length) (ho : Only (rowOf (ss.getD k dq).a) w w') (hm : Mine w' B w.heap.size (ss.getD k dq).a (ss.getD k dq).c ls) : OwS w' B g cap (ss.set k { ss.getD k dq with ls := ls }) := by
  have hmk := h.mine _ (getD_memS hk)
  have hgo : ¬ rowOf (ss.getD k dq).a g := h.other hmk
  refine ⟨?_, ?_, ?_, ?_⟩
  · rw [List.length_set, flat_ls ls ss k hk hl]
    refine rowStay h.row ho (fun b hb => ?_)
    obtain rfl : g = b := by simpa [Value.ownBlock] using hb
    exact hgo
  · intro t ht
    rcases List.mem_or_eq_of_mem_set ht with ht | rfl
    · exact h.rng t ht
    · have := h.rng _ (getD_memS hk)
      exact ⟨this.1, this.2.1, by simp only; rw [hl]; exact this.2.2⟩
  · intro t ht
    obtain ⟨i, hi, rfl⟩ := memS_get ht
    rw [List.length_set] at hi
    rw [getD_setS ss k i _ hk]
    by_cases hik : i = k
    · rw [if_pos hik]
      exact hm.mono (Nat.le_refl _) ho.size
    · rw [if_neg hik]
      have hmi := h.mine _ (getD_memS hi)
      have hap := h.apart i k hi hk hik
      rcases hmi with hh | ⟨g', h', g1, g2, hown⟩
      · exact .inl hh
      · exact .inr ⟨g', h', g1, Nat.lt_of_lt_of_le g2 ho.size, hown.only ho (fun hr => hap g' ⟨_, h', rfl⟩ hr)⟩
  · intro i j hi hj hij b
    rw [List.length_set] at hi hj
    rw [getD_setS ss k i _ hk, getD_setS ss k j _ hk]
    by_cases h1 : i = k
    · subst h1
      rw [if_pos rfl, if_neg (by omega)]
      exact h.apart i j hi hj hij b
    · rw [if_neg h1]
      by_cases h2 : j = k
      · subst h2
        rw [if_pos rfl]
        exact h.apart i j hi hj hij b
      · rw [if_neg h2]
        exact h.apart i j hi hj hij b
/-- Its length and its distance have turned. -/
theorem OwS.nums (h : OwS w B g cap ss) (k : Nat) (hk : k < ss.length) (n d : Int) (hn : rI n) (hd : rI d) : OwS ((w.setCell ⟨g, k * 3 + 1, none⟩ (.int .i64 n)).setCell ⟨g, k * 3 + 2, none⟩ (.int .i64 d)) B g cap (ss.set k { ss.getD k dq with n := n, d := d }) := by
  have r2 := (h.row.stored (k * 3 + 1) (.int .i64 n)).1
  have r3 := (r2.stored (k * 3 + 2) (.int .i64 d)).1
  rw [flat_set12 n d ss k hk] at r3
  have hon : Only (fun b => b = g) w ((w.setCell ⟨g, k * 3 + 1, none⟩ (.int .i64 n)).setCell ⟨g, k * 3 + 2, none⟩ (.int .i64 d)) :=
    ((Only.refl (fun b => b = g) w).setCell (p := ⟨g, k * 3 + 1, none⟩) (.inl rfl) _).setCell (p := ⟨g, k * 3 + 2, none⟩) (.inl rfl) _
  have stay : ∀ {a : Option Addr} {c : Nat} {ls : List Int}, Mine w B w.heap.size a c ls → Mine ((w.setCell ⟨g, k * 3 + 1, none⟩ (.int .i64 n)).setCell ⟨g, k * 3 + 2, none⟩ (.int .i64 d)) B ((w.setCell ⟨g, k * 3 + 1, none⟩ (.int .i64 n)).setCell ⟨g, k * 3 + 2, none⟩ (.int .i64 d)).heap.size a c ls := by
    intro a c ls ht
    have hne := h.other ht
    rcases ht with ht | ⟨g', h', g1, g2, ho⟩
    · exact .inl ht
    · exact .inr ⟨g', h', g1, Nat.lt_of_lt_of_le g2 hon.size, ho.only hon (fun e => hne ⟨_, h', e⟩)⟩
  refine ⟨by rw [List.length_set]; exact r3, ?_, ?_, ?_⟩
  · intro t ht
    rcases List.mem_or_eq_of_mem_set ht with ht | rfl
    · exact h.rng t ht
    · exact ⟨hn, hd, (h.rng _ (getD_memS hk)).2.2⟩
  · intro t ht
    rcases List.mem_or_eq_of_mem_set ht with ht | rfl
    · exact stay (h.mine t ht)
    · exact stay (a := (ss.getD k dq).a) (c := (ss.getD k dq).c) (ls := (ss.getD k dq).ls) (h.mine _ (getD_memS hk))
  · intro i j hi hj hij b
    rw [List.length_set] at hi hj
    rw [getD_setS ss k i _ hk, getD_setS ss k j _ hk]
    by_cases h1 : i = k
    · subst h1
      rw [if_pos rfl, if_neg (by omega)]
      exact h.apart i j hi hj hij b
    · rw [if_neg h1]
      by_cases h2 : j = k
      · subst h2
        rw [if_pos rfl]
        exact h.apart i j hi hj hij b
      · rw [if_neg h2]
        exact h.apart i j hi hj hij b
end
/-- The marks of the sequences from number i on, the next mark being k. -/
def mkS : Int → List Sq → List Sq
  | _, [] => []
  | k, s :: ss => { s with ls := marks k s.ls.length, n := k + s.ls.length, d := k + s.ls.length + 1 } :: mkS (k + s.ls.length + 2) ss
theorem mkS_len (k : Int) (ss : List Sq) : (mkS k ss).length = ss.length := by
  induction ss generalizing k with
  | nil => rfl
  | cons s ss ih => simp [mkS, ih]
theorem mkS_app (k : Int) (a b : List Sq) : mkS k (a ++ b) = mkS k a ++ mkS (k + lets a + 2 * a.length) b := by
  induction a generalizing k with
  | nil => simp [mkS, lets]
  | cons s a ih =>
    simp only [List.cons_append, mkS, ih, lets, List.length_cons]
    congr 3
    omega
theorem mkS_step (k : Int) (ss : List Sq) (j : Nat) (h : j < ss.length) : (mkS k (ss.take j) ++ ss.drop j).set j { ss.getD j dq with ls := marks (k + lets (ss.take j) + 2 * j) (ss.getD j dq).ls.length, n := k + lets (ss.take j) + 2 * j + (ss.getD j dq).ls.length, d := k + lets (ss.take j) + 2 * j + (ss.getD j dq).ls.length + 1 } = mkS k (ss.take (j + 1)) ++ ss.drop (j + 1) := by
  have hl : (mkS k (ss.take j)).length = j := by rw [mkS_len, List.length_take]; omega
  rw [List.set_append_right _ _ (by omega), hl, Nat.sub_self, List.drop_eq_getElem_cons h, List.set_cons_zero, List.take_succ_eq_append_getElem h, mkS_app, List.append_assoc]
  congr 1
  have e : ss.getD j dq = ss[j] := by rw [List.getD_eq_getElem?_getD, List.getElem?_eq_getElem h]; rfl
  rw [e, show (ss.take j).length = j from by rw [List.length_take]; omega]
  rfl
theorem mk_rest_get (k : Int) (ss : List Sq) (j : Nat) (h : j < ss.length) : (mkS k (ss.take j) ++ ss.drop j).getD j dq = ss.getD j dq := by
  have hl : (mkS k (ss.take j)).length = j := by rw [mkS_len, List.length_take]; omega
  rw [List.getD_eq_getElem?_getD, List.getElem?_append_right (by omega), hl, Nat.sub_self, List.drop_eq_getElem_cons h, List.getElem?_cons_zero, List.getD_eq_getElem?_getD, List.getElem?_eq_getElem h]

set_option maxHeartbeats 4000000 in
theorem markSeqS_own (B g cap : Nat) (ss : List Sq) (k : Int) (w : World) (h : OwS w B g cap ss) (hn : ss.length + lets ss ≤ 1048576) (h0 : 0 ≤ k) (h1 : k ≤ 1) :
    Calls Try.prog 13 #[.slice (some ⟨g, 0, none⟩) ss.length cap, .int .i64 k] w fun e w' => e = .returned (.int .i64 (k + lets ss + 2 * ss.length)) ∧ OwS w' B g cap (mkS k ss) ∧ Only (fun b => b = g ∨ ∃ s ∈ ss, rowOf s.a b) w w' := by
  have HLT : Hid (∀ j, j < ss.length → lets (ss.take (j + 1)) = lets (ss.take j) + (ss.getD j dq).ls.length ∧ lets (ss.take (j + 1)) ≤ lets ss) := fun j hj => by
    have e := lets_take_succ ss j hj
    have h1 := lets_app (ss.take (j + 1)) (ss.drop (j + 1))
    rw [List.take_append_drop] at h1
    exact ⟨e, by omega⟩
  have HST : Hid _ := mkS_step k ss
  have HGE : Hid _ := mk_rest_get k ss
  have HLE : Hid (∀ j, j ≤ ss.length → (mkS k (ss.take j) ++ ss.drop j).length = ss.length) := fun j hj => by rw [List.length_append, mkS_len, List.length_take, List.length_drop]; omega
  have HO : Hid (OwS w B g cap ss) := h
  have HMM : Hid (∀ j, j < ss.length → ss.getD j dq ∈ ss) := fun j hj => getD_memS hj
  clear h
  have HFI : Hid (mkS k (ss.take ss.length) ++ ss.drop ss.length = mkS k ss ∧ lets (ss.take ss.length) = lets ss) := by unfold Hid; rw [List.take_length]; simp
  generalize hlen : ss.length = n at *
  have HL : Hid (ss.length = n) := hlen
  clear hlen
  generalize hT : lets ss = T at *
  go_enter Try.func13, Try.ntmps13
  go_wp2
  go_loopw [1, 5] (fun q i wr => ∃ (j : Nat) (y : Int), j ≤ n ∧ i = .int .i64 j ∧ q = .int .i64 y ∧ y = k + lets (ss.take j) + 2 * j ∧ OwS wr B g cap (mkS k (ss.take j) ++ ss.drop j) ∧ Only (fun b => b = g ∨ ∃ s ∈ ss, rowOf s.a b) w wr ∧ lets (ss.take j) ≤ T) (fun _ i _ => n - (intOf i).toNat)
  case atStart => exact ⟨0, k, Nat.zero_le _, rfl, rfl, by simp [lets], by simpa [mkS] using HO.out, Only.refl _ _, by simp [lets]⟩
  case round =>
    clear HO
    obtain ⟨j, y, hj, rfl, rfl, hy, hown, honly, hlt⟩ := hrel
    have HY : Hid (y = k + lets (ss.take j) + 2 * j) := hy
    have hyb : 0 ≤ y ∧ y ≤ 2097160 := by omega
    have HOW : Hid (OwS wr B g cap (mkS k (ss.take j) ++ ss.drop j)) := hown
    have HON : Hid (Only (fun b => b = g ∨ ∃ s ∈ ss, rowOf s.a b) w wr) := honly
    by_cases hjn : j < n
    · have hlj := hown.lies j (by rw [HLE.out j hj]; exact hjn)
      have hmi := hown.mine _ (getD_memS (k := j) (by rw [HLE.out j hj]; exact hjn))
      rw [HGE.out j hjn] at hlj hmi
      have hyc : y ≤ 1048576 + j + 8 := by omega
      obtain ⟨l1, l2⟩ := HLT.out j hjn
      have HLE2 : Hid (lets (ss.take (j + 1)) = lets (ss.take j) + (ss.getD j dq).ls.length ∧ lets (ss.take (j + 1)) ≤ T) := ⟨l1, l2⟩
      have hsl : (ss.getD j dq).ls.length + lets (ss.take j) ≤ T := by omega
      have hst := HST.out j hjn
      rw [← HY.out] at hst
      have HSTJ : Hid _ := hst
      have HIN := HMM.out j hjn
      have HGJ := HGE.out j hjn
      have f1 := hown.frozen (j * 3 + 1)
      have f2 := hown.frozen (j * 3 + 2)
      have hylen : y + (ss.getD j dq).ls.length ≤ 2097152 := by
        have := HY.out
        omega
      clear hst hown honly hy l1 l2 hlt
      obtain ⟨c0, c1, c2, hby⟩ := hlj
      rw [Nat.zero_add] at c0 c1 c2
      have HMI : Hid (Mine wr B wr.heap.size (ss.getD j dq).a (ss.getD j dq).c (ss.getD j dq).ls) := hmi
      have HMK := markByteS_any (ss.getD j dq).a B wr.heap.size (ss.getD j dq).c (ss.getD j dq).ls y wr hmi (by omega) hyb.1 (by omega)
      have HGJ' : Hid ((mkS k (ss.take j) ++ ss.drop j).getD j dq = ss.getD j dq) := HGJ
      have HIN' : Hid (ss.getD j dq ∈ ss) := HIN
      clear hby hmi HGJ HIN
      generalize hs : ss.getD j dq = s at *
      have hsl2 : s.ls.length ≤ 1048576 := by omega
      go_wp2_with fail
      refine HMK.mono ?_
      clear HMK
      rintro e w2 ⟨rfl, hm2, ho2⟩
      have hL2 := HOW.out.letters j (by rw [HLE.out j hj]; exact hjn) (marks y s.ls.length) (by rw [marks_len, HGJ'.out]) (by rw [HGJ'.out]; exact ho2) (by rw [HGJ'.out]; exact hm2)
      rw [HGJ'.out] at hL2
      have g1 := hL2.frozen (j * 3 + 1)
      have g2 := hL2.frozen (j * 3 + 2)
      have hLe : ((mkS k (ss.take j) ++ ss.drop j).set j { s with ls := marks y s.ls.length }).length = n := by rw [List.length_set]; exact HLE.out j hj
      have hlj2 := hL2.lies j (by rw [hLe]; exact hjn)
      have hN2 := hL2.nums j (by rw [hLe]; exact hjn) (y + s.ls.length) (y + s.ls.length + 1) (by unfold rI; omega) (by unfold rI; omega)
      have hgd : ((mkS k (ss.take j) ++ ss.drop j).set j { s with ls := marks y s.ls.length }).getD j dq = { s with ls := marks y s.ls.length } := by
        rw [getD_setS _ j j _ (by rw [HLE.out j hj]; exact hjn), if_pos rfl]
      rw [hgd] at hN2 hlj2
      rw [List.set_set] at hN2
      rw [HSTJ.out] at hN2
      have d1 := hlj2.c1
      have d2 := hlj2.c2
      rw [Nat.zero_add] at d1 d2
      simp only at d1 d2
      have HN2 : Hid _ := hN2
      have HO2 : Hid (Only (fun b => b = g ∨ ∃ s ∈ ss, rowOf s.a b) w w2) := HON.out.trans (ho2.mono (fun b _ hb => .inr ⟨s, HIN'.out, hb⟩))
      have HYN : Hid (y + s.ls.length + 1 + 1 = k + lets (ss.take (j + 1)) + 2 * ((j + 1 : Nat) : Int)) := by
        have h1 := HY.out
        have h2 := HLE2.out.1
        unfold Hid
        omega
      clear hL2 hN2 hlj2 hgd hLe ho2 hm2 HOW HON HMI c0 c1 c2 f1 f2 HGJ'
      go_wp2
      go_roundw
      case rel => exact ⟨j + 1, _, by omega, by go_num, rfl, HYN.out, HN2.out, (HO2.out.setCell (p := ⟨g, _, none⟩) (.inl (.inl rfl)) _).setCell (p := ⟨g, _, none⟩) (.inl (.inl rfl)) _, HLE2.out.2⟩
      case measure => simp [intOf]; omega
    · have hjn2 : j = n := by omega
      subst hjn2
      have HFO : Hid (OwS wr B g cap (mkS k ss)) := by rw [← HFI.out.1]; exact HOW.out
      have HYF : Hid (y = k + (T : Nat) + 2 * (j : Int)) := by
        have h1 := HY.out
        rw [HFI.out.2] at h1
        exact h1
      clear HOW hown hy
      go_wp2
      go_ret
      exact ⟨by rw [← HYF.out]; rfl, HFO.out, HON.out⟩

theorem mkS_get (k : Int) (ss : List Sq) (j : Nat) (h : j < ss.length) : (mkS k ss).getD j dq = { ss.getD j dq with ls := marks (k + lets (ss.take j) + 2 * j) (ss.getD j dq).ls.length, n := k + lets (ss.take j) + 2 * j + (ss.getD j dq).ls.length, d := k + lets (ss.take j) + 2 * j + (ss.getD j dq).ls.length + 1 } := by
  have e : mkS k ss = mkS k (ss.take (j + 1)) ++ mkS (k + lets (ss.take (j + 1)) + 2 * (ss.take (j + 1)).length) (ss.drop (j + 1)) := by rw [← mkS_app, List.take_append_drop]
  have hl : (mkS k (ss.take (j + 1))).length = j + 1 := by rw [mkS_len, List.length_take]; omega
  rw [e, List.getD_eq_getElem?_getD, List.getElem?_append_left (by omega), ← List.getD_eq_getElem?_getD]
  have h2 := mkS_step k ss j h
  have h3 : ((mkS k (ss.take (j + 1)) ++ ss.drop (j + 1))).getD j dq = (mkS k (ss.take (j + 1))).getD j dq := by
    rw [List.getD_eq_getElem?_getD, List.getElem?_append_left (by omega), ← List.getD_eq_getElem?_getD]
  rw [← h3, ← h2, getD_setS _ j j _ (by rw [List.length_append, mkS_len, List.length_take, List.length_drop]; omega), if_pos rfl]

set_option maxHeartbeats 4000000 in
theorem heldSeqS_any (a : Option Addr) (cap : Nat) (ss : List Sq) (k : Int) (w : World) (h : Sqs w a (mkS k ss)) (hn : ss.length + lets ss ≤ 1048576) (h0 : 0 ≤ k) (h1 : k ≤ 1) :
    Calls Try.prog 14 #[.slice a ss.length cap, .int .i64 k] w fun e w' => e = .returned (.int .i64 (k + lets ss + 2 * ss.length)) ∧ w' = w := by
  have HLT : Hid (∀ j, j < ss.length → lets (ss.take (j + 1)) = lets (ss.take j) + (ss.getD j dq).ls.length ∧ lets (ss.take (j + 1)) ≤ lets ss) := fun j hj => by
    have e := lets_take_succ ss j hj
    have h1 := lets_app (ss.take (j + 1)) (ss.drop (j + 1))
    rw [List.take_append_drop] at h1
    exact ⟨e, by omega⟩
  have HGE : Hid _ := mkS_get k ss
  have HSS : Hid (Sqs w a (mkS k ss)) := h
  have HLM : Hid ((mkS k ss).length = ss.length) := mkS_len k ss
  have HFI : Hid (lets (ss.take ss.length) = lets ss) := by unfold Hid; rw [List.take_length]
  clear h
  generalize hlen : ss.length = n at *
  have HL : Hid (ss.length = n) := hlen
  clear hlen
  generalize hT : lets ss = T at *
  go_enter Try.func14, Try.ntmps14
  go_wp2
  go_loop [1, 5] (fun q i => ∃ (j : Nat) (y : Int), j ≤ n ∧ i = .int .i64 j ∧ q = .int .i64 y ∧ y = k + lets (ss.take j) + 2 * j ∧ lets (ss.take j) ≤ T) (fun _ i => n - (intOf i).toNat)
  case atStart => exact ⟨0, k, Nat.zero_le _, rfl, rfl, by simp [lets], by simp [lets]⟩
  case round =>
    obtain ⟨j, y, hj, rfl, rfl, hy, hlt⟩ := hrel
    have HY : Hid (y = k + lets (ss.take j) + 2 * j) := hy
    have hyb : 0 ≤ y ∧ y ≤ 2097160 := by omega
    by_cases hjn : j < n
    · obtain ⟨b, off, rfl, hb1, hc1⟩ := HSS.out.len_pos j (by rw [HLM.out]; exact hjn)
      have hli := hc1 j (by rw [HLM.out]; exact hjn)
      rw [HGE.out j hjn, ← HY.out] at hli
      obtain ⟨l1, l2⟩ := HLT.out j hjn
      have HLE2 : Hid (lets (ss.take (j + 1)) = lets (ss.take j) + (ss.getD j dq).ls.length ∧ lets (ss.take (j + 1)) ≤ T) := ⟨l1, l2⟩
      have hylen : y + (ss.getD j dq).ls.length ≤ 2097152 := by
        have := HY.out
        omega
      obtain ⟨c0, c1, c2, hby⟩ := hli
      simp only at c0 c1 c2 hby
      rw [marks_len] at c0
      have HBY : Hid _ := hby
      clear hc1 hy l1 l2 hlt hby
      generalize ss.getD j dq = s at *
      have HYN : Hid (y + s.ls.length + 1 + 1 = k + lets (ss.take (j + 1)) + 2 * ((j + 1 : Nat) : Int)) := by
        have h1 := HY.out
        have h2 := HLE2.out.1
        unfold Hid
        omega
      have HHB := heldByteS_any s.a s.c s.ls.length y w HBY.out (by omega) hyb.1 (by omega)
      generalize s.ls.length = M at *
      have n1 : (y + (M : Int) != y + (M : Int)) = false := by simp
      have n2 : (y + (M : Int) + 1 != y + (M : Int) + 1) = false := by simp
      go_wp2_with fail
      refine HHB.mono ?_
      clear HHB
      rintro e w2 ⟨rfl, rfl⟩
      go_wp2
      go_round
      case rel => exact ⟨j + 1, _, by omega, by go_num, rfl, HYN.out, HLE2.out.2⟩
      case measure => simp [intOf]; omega
    · have hjn2 : j = n := by omega
      subst hjn2
      have HYF : Hid (y = k + (T : Nat) + 2 * (j : Int)) := by
        have h1 := HY.out
        rw [HFI.out] at h1
        exact h1
      clear hy
      go_wp2
      go_ret
      exact ⟨by rw [← HYF.out]; rfl, rfl⟩
end Go.Proofs.Ytbkmdgceobilkaa
