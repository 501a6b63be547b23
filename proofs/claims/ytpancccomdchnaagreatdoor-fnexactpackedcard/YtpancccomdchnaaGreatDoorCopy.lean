/-
  laws.toByteS makes a new slice of the same bytes and leaves all that was there as it was.
-/
import Derived.Test.YtpancccomdchnaaGreatDoorSyM
import Derived.Test.YtpancccomdchnaaGreatDoorPcL
import Derived.Test.YtpancccomdchnaaGreatDoorPut4
import Derived.BigQuiet
import Derived.Test.YtpancccomdchnaaGreatDoorIBase
import Derived.Test.YtpancccomdchnaaGreatDoorLzM
namespace Go.Proofs.YtpancccomdchnaaGreatDoor
open Go.RowKit
set_option linter.unusedVariables false

abbrev Ct := List Int × Int × Int
/-- One piece more, behind m bytes. -/
def stC (o : Option Nat) (c : Ct) : Option Nat := o.bind (fun m => if m + c.1.length ≤ 64 ∧ 3 ≤ c.2.1 ∧ c.2.1 ≤ 64 - ((m + c.1.length : Nat) : Int) ∧ 1 ≤ c.2.2 ∧ c.2.2 ≤ ((m + c.1.length : Nat) : Int) then some (m + c.1.length + c.2.1.toNat) else none)
/-- Pieces alone, f bytes in all, few of them. -/
def PsC (cs : List Ct) (f : Nat) : Prop := cs.foldl stC (some 0) = some f ∧ 3 * cs.length ≤ f
theorem lzA_piece {ys : List Int} {q : Nat} (hq : q < ys.length) (h : 0 < (lz ys q).1) : 3 ≤ (lz ys q).1 ∧ 1 ≤ (lz ys q).2 ∧ (lz ys q).2 ≤ q ∧ q + (lz ys q).1 ≤ ys.length := by
  have hl := lz_le ys q
  rw [lz_at hq] at h hl ⊢
  unfold lzA at h hl ⊢
  split at h
  · simp at h
  · rename_i h3
    rw [if_neg h3] at hl ⊢
    rcases (lzD_spec ys q q).2 with h4 | ⟨d, d1, d2, d3, _⟩
    · rw [h4] at h; simp at h
    · rw [d3] at h3 hl ⊢
      simp only at h3 hl ⊢
      omega
theorem go_ps (ys : List Int) (hn : ys.length ≤ 64) : ∀ (n f q : Nat) (cs : List Ct), PsC cs f → f ≤ q → q ≤ ys.length → PsC (go ys n f q cs).2 (go ys n f q cs).1 ∧ (go ys n f q cs).1 ≤ ys.length
  | 0, f, q, cs, h, h1, h2 => ⟨h, by show f ≤ _; omega⟩
  | n + 1, f, q, cs, h, h1, h2 => by
    simp only [go]
    split
    · rename_i hq
      split
      · rename_i ht
        obtain ⟨p1, p2, p3, p4⟩ := lzA_piece hq ht.1
        have hc := cutL_len ys f q h1 h2
        refine go_ps ys hn n _ _ _ ⟨?_, ?_⟩ (Nat.le_refl _) (by omega)
        · rw [List.foldl_append, h.1]
          simp only [List.foldl_cons, List.foldl_nil, stC, Option.bind_some, hc]
          rw [if_pos (by omega)]
          simp only [Int.toNat_natCast, Option.some.injEq]
          omega
        · have := h.2
          rw [List.length_append]
          simp only [List.length_cons, List.length_nil]
          omega
      · exact go_ps ys hn n f (q + 1) cs h (by omega) (by omega)
    · exact ⟨h, by show f ≤ _; omega⟩
theorem psC_get {cs : List Ct} {f : Nat} (h : cs.foldl stC (some 0) = some f) : ∀ (ss : List Sq) (k : Nat), k ≤ cs.length → cs.length ≤ ss.length → (ss.map Sq.ct).take cs.length = cs → sqc ss k = (cs.take k).foldl stC (some 0) := by
  have hnone : ∀ l : List Ct, l.foldl stC none = none := by
    intro l
    induction l with
    | nil => rfl
    | cons c l ih => exact ih
  intro ss k
  induction k with
  | zero => intro _ _ _; rfl
  | succ k ih =>
    intro hk hl he
    have hi := ih (by omega) hl he
    have hg : (ss.getD k dq).ct = cs[k]'(by omega) := by
      have : ((ss.map Sq.ct).take cs.length)[k]? = cs[k]? := by rw [he]
      rw [List.getElem?_take, if_pos (by omega), List.getElem?_map, List.getElem?_eq_getElem (by omega), List.getElem?_eq_getElem (by omega)] at this
      rw [List.getD_eq_getElem?_getD, List.getElem?_eq_getElem (by omega)]
      simpa using this
    rw [List.take_succ_eq_append_getElem (by omega), List.foldl_append]
    simp only [List.foldl_cons, List.foldl_nil]
    obtain ⟨m, hm⟩ : ∃ m, (cs.take k).foldl stC (some 0) = some m := by
      cases hq : (cs.take k).foldl stC (some 0) with
      | some m => exact ⟨m, rfl⟩
      | none =>
        have : cs.foldl stC (some 0) = none := by
          rw [← List.take_append_drop k cs, List.foldl_append, hq]
          exact hnone _
        rw [this] at h
        cases h
    have hv : ∃ v, stC (some m) (cs[k]'(by omega)) = some v := by
      cases hq : stC (some m) (cs[k]'(by omega)) with
      | some v => exact ⟨v, rfl⟩
      | none =>
        have : cs.foldl stC (some 0) = none := by
          rw [← List.take_append_drop (k + 1) cs, List.foldl_append, List.take_succ_eq_append_getElem (by omega), List.foldl_append, hm]
          simp only [List.foldl_cons, List.foldl_nil, hq]
          exact hnone _
        rw [this] at h
        cases h
    rw [hm] at hi ⊢
    rw [sqc_step hi]
    rw [← hg] at hv ⊢
    simp only [Sq.ct] at hv ⊢
    obtain ⟨v, hv⟩ := hv
    simp only [stC, Option.bind_some] at hv ⊢
    split at hv
    · rename_i hc
      rw [if_pos hc, stp_piece (by omega) (by omega), if_pos (by omega)]
    · cases hv
/-- What is found is right: as many bytes as the text has. -/
theorem found_sqn {ys : List Int} (hn : ys.length ≤ 64) {ss : List Sq} (h : ss.map Sq.ct = found ys) : sqn ss = some ys.length := by
  obtain ⟨hp, hle⟩ := go_ps ys hn ys.length 0 0 [] ⟨rfl, by simp⟩ (Nat.le_refl _) (Nat.zero_le _)
  have hlen : ss.length = (found ys).length := by rw [← h, List.length_map]
  unfold found fin at h hlen
  generalize (go ys ys.length 0 0 []).1 = f at *
  generalize (go ys ys.length 0 0 []).2 = cs at *
  have h3 := hp.2
  split at h
  · rename_i hf
    rw [if_pos hf, List.length_append] at hlen
    simp only [List.length_cons, List.length_nil] at hlen
    have hk := psC_get hp.1 ss cs.length (Nat.le_refl _) (by omega) (by rw [h]; simp)
    rw [List.take_length, hp.1] at hk
    refine sqn_some ?_ (by omega)
    rw [hlen, sqc_step hk]
    have hg : (ss.getD cs.length dq).ct = (cutL ys f ys.length, 0, 0) := by
      have : (ss.map Sq.ct)[cs.length]? = some (cutL ys f ys.length, 0, 0) := by rw [h]; simp
      rw [List.getElem?_map, List.getElem?_eq_getElem (by omega)] at this
      rw [List.getD_eq_getElem?_getD, List.getElem?_eq_getElem (by omega)]
      simpa using this
    simp only [Sq.ct, Prod.mk.injEq] at hg
    have hc := cutL_len ys f ys.length (by omega) (Nat.le_refl _)
    rw [stp_rest (by rw [hg.1, hc]; omega) hg.2.1, if_pos ⟨hg.2.2, by simpa using hlen.symm, by rw [hg.1, hc]; omega⟩, hg.1, hc]
    congr 1
    omega
  · rename_i hf
    rw [if_neg hf] at hlen
    have hk := psC_get hp.1 ss cs.length (Nat.le_refl _) (by omega) (by rw [h]; simp)
    rw [List.take_length, hp.1] at hk
    refine sqn_some ?_ (by omega)
    rw [hlen, hk]
    congr 1
    omega
/-- How many symbols and bits beside come of so many bytes. -/
theorem syOf_few {ss : List Sq} (hb : ∀ s ∈ ss, ∀ z ∈ s.ls, 0 ≤ z ∧ z ≤ 255) : ∀ k m, k ≤ ss.length → sqc ss k = some m → (syOf (ss.take k)).1.length ≤ m ∧ (syOf (ss.take k)).2.1 ≤ 4 * m ∧ (1 ≤ k → 1 ≤ (syOf (ss.take k)).1.length) ∧ ∀ z ∈ (syOf (ss.take k)).1, 0 ≤ z ∧ z < 40
  | 0, m, _, h => by
    simp [sqc] at h
    simp [syOf]
  | k + 1, m, hk, h => by
    cases hm : sqc ss k with
    | none => rw [sqc_none hm (k + 1) (by omega)] at h; cases h
    | some m0 =>
      obtain ⟨i1, i2, i3, i4⟩ := syOf_few hb k m0 (by omega) hm
      rw [sqc_step hm] at h
      rw [syOf_take ss k (by omega)]
      have hmem : ss.getD k dq ∈ ss := getD_memS (by omega)
      have hbz := hb _ hmem
      generalize ss.getD k dq = s at *
      generalize syOf (ss.take k) = st at *
      have hL := putLs_len s.ls st
      have hLz : ∀ z ∈ (putLs s.ls st).1, 0 ≤ z ∧ z < 40 := by
        have : ∀ (l : List Int) (st : SyT), (∀ z ∈ l, 0 ≤ z ∧ z ≤ 255) → (∀ z ∈ st.1, 0 ≤ z ∧ z < 40) → ∀ z ∈ (putLs l st).1, 0 ≤ z ∧ z < 40 := by
          intro l
          induction l with
          | nil => intro st _ h2; exact h2
          | cons y l ih =>
            intro st h1 h2
            refine ih (putL st y) (fun z hz => h1 z (by simp [hz])) (fun z hz => ?_)
            simp only [putL] at hz
            rcases List.mem_append.1 hz with hz | hz
            · exact h2 z hz
            · have := h1 y (by simp)
              obtain rfl : z = y / 16 := by simpa using hz
              omega
        exact this s.ls st hbz i4
      by_cases ho : 64 < m0 + s.ls.length
      · rw [stp_over ho] at h; cases h
      · by_cases h0 : s.n = 0
        · rw [stp_rest ho h0] at h
          split at h
          · rename_i hr
            simp only [Option.some.injEq] at h
            unfold putQ
            rw [if_pos h0]
            exact ⟨by omega, by omega, fun _ => by omega, hLz⟩
          · cases h
        · rw [stp_piece ho h0] at h
          split at h
          · rename_i hr
            simp only [Option.some.injEq] at h
            unfold putQ
            rw [if_neg h0]
            have c1 := cl_fact (n := s.n.toNat - 2) (by omega) (by omega)
            have c2 := cl_fact (n := s.d.toNat) (by omega) (by omega)
            have e1 : cl (s.n.toNat - 2) ≤ 5 := by
              rcases Nat.lt_or_ge 5 (cl (s.n.toNat - 2)) with h9 | h9
              · have : 2 ^ 6 ≤ 2 ^ cl (s.n.toNat - 2) := Nat.pow_le_pow_right (by omega) h9
                omega
              · exact h9
            have e2 : cl s.d.toNat ≤ 6 := by
              rcases Nat.lt_or_ge 6 (cl s.d.toNat) with h9 | h9
              · have : 2 ^ 7 ≤ 2 ^ cl s.d.toNat := Nat.pow_le_pow_right (by omega) h9
                omega
              · exact h9
            refine ⟨?_, ?_, fun _ => ?_, fun z hz => ?_⟩
            · simp only [putN, List.length_append, List.length_cons, List.length_nil]; omega
            · simp only [putN]; omega
            · simp only [putN, List.length_append, List.length_cons, List.length_nil]; omega
            · simp only [putN] at hz
              rcases List.mem_append.1 hz with hz | hz
              · rcases List.mem_append.1 hz with hz | hz
                · exact hLz z hz
                · obtain rfl : z = ((16 + cl (s.n.toNat - 2) : Nat) : Int) := by simpa using hz
                  omega
              · obtain rfl : z = ((28 + cl s.d.toNat : Nat) : Int) := by simpa using hz
                omega
          · cases h
/-- The symbols of what is found in a block. -/
theorem found_syms {ys : List Int} (hn : ys.length = 64) {ss : List Sq} (h : ss.map Sq.ct = found ys) (hb : ∀ s ∈ ss, ∀ z ∈ s.ls, 0 ≤ z ∧ z ≤ 255) : (sqn ss).isSome = true ∧ txtB (syOf ss).1 40 = true ∧ 1 ≤ (syOf ss).1.length ∧ (syOf ss).1.length ≤ 64 ∧ (syOf ss).2.1 ≤ 256 := by
  have hs := found_sqn (by omega) h
  have hs2 := hs
  unfold sqn at hs2
  split at hs2
  · cases hs2
  · have hf := syOf_few hb ss.length ys.length (Nat.le_refl _) hs2
    rw [List.take_length] at hf
    have h1 : 1 ≤ ss.length := by
      rcases Nat.lt_or_ge ss.length 1 with h9 | h9
      · obtain rfl : ss = [] := List.eq_nil_of_length_eq_zero (by omega)
        simp [sqc] at hs2
        omega
      · exact h9
    refine ⟨by rw [hs]; rfl, ?_, hf.2.2.1 h1, by omega, by omega⟩
    simp only [txtB, decide_eq_true_eq]
    exact ⟨by omega, by omega, by omega, hf.2.2.2⟩
theorem val_encB (M V : Nat) (h : V < 2 ^ M) : val (enc M V) = V := by
  unfold enc
  rw [val_encL]
  refine Nat.mod_eq_of_lt (Nat.lt_of_lt_of_le h ?_)
  rw [show 256 = 2 ^ 8 from rfl, ← Nat.pow_mul]
  exact Nat.pow_le_pow_right (by omega) (by omega)
theorem okB_encB (M V : Nat) (hM : M ≤ 4096) (h : V < 2 ^ M) : okB (M : Int) (enc M V) = true := by
  have hl := enc_len M V
  by_cases h8 : M % 8 = 0
  · exact okB_full (by omega) (by omega) (by rw [hl]; omega) (by omega)
  · rw [okB_last (by omega) (by omega) (by rw [hl]; omega) (by omega)]
    have h1 := enc_last M V h h8
    have h2 := enc_top M V h
    rw [show (enc M V).length - 1 = M / 8 from by omega, h1, show ((M : Int) % 8).toNat = M % 8 from by omega]
    have e : (((V / 256 ^ (M / 8) : Nat) : Int) / 2 ^ (M % 8)) = ((V / 256 ^ (M / 8) / 2 ^ (M % 8) : Nat) : Int) := by simp
    rw [e, Nat.div_eq_of_lt h2]
    rfl
set_option linter.unusedSimpArgs false
set_option maxRecDepth 20000 in
set_option maxHeartbeats 8000000 in
theorem l4longest_any (a : Option Addr) (c : Nat) (ys : List Int) (p : Nat) (w : World) (hb : Byt w a ys) (hn : ys.length ≤ 64) (hp : p < ys.length) :
    Calls Tryz.prog 44 #[.slice a ys.length c, .int .i64 p] w fun e w' => e = .returned (.tuple #[.int .i64 (lzA ys p).1, .int .i64 (lzA ys p).2]) ∧ Below w.heap.size w w' := by
  obtain ⟨b1, o1, rfl, hb1, hc1⟩ := hb.2 (by omega)
  have HC : Hid (∀ i, i < ys.length → w.cell? ⟨b1, o1 + i, none⟩ = some (.int .u8 (ys.getD i 0))) := hc1
  have HIS : Hid (∀ d m, d ≤ p → p + m ≤ ys.length → (∀ j, j < m → ys.getD (p - d + j) 0 = ys.getD (p + j) 0) → (p + m < ys.length → ys.getD (p - d + m) 0 ≠ ys.getD (p + m) 0) → alk ys (p - d) p = m) := fun d m _ h1 h2 h3 => alk_is ys _ _ m h1 h2 h3
  have HD : Hid (∀ k, lzD ys p (k + 1) = if (lzD ys p k).1 < alk ys (p - (k + 1)) p then (alk ys (p - (k + 1)) p, k + 1) else lzD ys p k) := fun k => rfl
  have HA : Hid (lzA ys p = if (lzD ys p p).1 < 3 then (0, 0) else lzD ys p p) := rfl
  have HB : Hid (∀ k, (lzD ys p k).1 ≤ ys.length) := fun k => by
    rcases (lzD_spec ys p k).2 with h | ⟨d, _, _, h, _⟩
    · rw [h]; exact Nat.zero_le _
    · rw [h]; have := alk_le ys (p - d) p; simp only; omega
  clear hb hc1
  generalize hL : ys.length = n at *
  have HL : Hid (ys.length = n ∧ True) := ⟨hL, trivial⟩
  clear hL
  go_enter Tryz.func44, Tryz.ntmps44
  go_wp2
  go_loopw [6, 7, 8] (fun bs bd dd W => ∃ (k x y : Nat), k ≤ p ∧ lzD ys p k = (x, y) ∧ bs = .int .i64 x ∧ bd = .int .i64 y ∧ dd = .int .i64 ((k + 1 : Nat) : Int) ∧ Below w.heap.size w W) (fun _ _ dd _ => p + 1 - (intOf dd).toNat)
  case atStart => exact ⟨0, 0, 0, Nat.zero_le _, rfl, rfl, rfl, rfl, Below.refl _ _⟩
  case round =>
    obtain ⟨k, x, y, hk, hxy, rfl, rfl, rfl, hbel⟩ := hrel
    have HR : Hid (lzD ys p k = (x, y) ∧ Below w.heap.size w wr) := ⟨hxy, hbel⟩
    have hxn : x ≤ n := by have := HB.out k; rw [hxy] at this; exact this
    clear hxy hbel
    by_cases hlt : k < p
    · have hlt2 : ((k + 1 : Nat) : Int) ≤ (p : Int) := by omega
      go_wp2
      go_loopw [9] (fun mm W => ∃ m : Nat, p + m ≤ n ∧ mm = .int .i64 m ∧ (∀ j, j < m → ys.getD (p - (k + 1) + j) 0 = ys.getD (p + j) 0) ∧ Below w.heap.size w W) (fun mm _ => n - (intOf mm).toNat)
      case atStart => exact ⟨0, by omega, rfl, fun j hj => by omega, HR.out.2⟩
      case round =>
        obtain ⟨m, hm, rfl, hal, hbel2⟩ := hrel
        have HM : Hid ((∀ j, j < m → ys.getD (p - (k + 1) + j) 0 = ys.getD (p + j) 0) ∧ Below w.heap.size w wr) := ⟨hal, hbel2⟩
        have HBD : Hid (∀ nq, Below w.heap.size w (wr.drewN nq)) := fun nq => ⟨hbel2.os, hbel2.tape, hbel2.output, hbel2.size, hbel2.block⟩
        clear hal hbel2
        by_cases hlm : p + m < n
        · obtain ⟨q, hq⟩ : ∃ q : Nat, q = p + m := ⟨_, rfl⟩
          obtain ⟨r, hr⟩ : ∃ r : Nat, r = p - (k + 1) + m := ⟨_, rfl⟩
          have c0 := keep HM.out.2 hb1 (HC.out q (by omega))
          have c1 := keep HM.out.2 hb1 (HC.out r (by omega))
          have hb1w : b1 < wr.heap.size := by have := HM.out.2.size; omega
          have hqi : (p : Int) + (m : Int) = (q : Int) := by omega
          have hri : (q : Int) - ((k : Int) + 1) = (r : Int) := by omega
          have hql : (q : Int) < (n : Int) := by omega
          have hrl : (r : Int) < (n : Int) := by omega
          have HQR : Hid (q = p + m ∧ r = p - (k + 1) + m) := ⟨hq, hr⟩
          clear hq hr
          obtain ⟨z0, hz0⟩ : ∃ z, ys.getD q 0 = z := ⟨_, rfl⟩
          obtain ⟨z1, hz1⟩ : ∃ z, ys.getD r 0 = z := ⟨_, rfl⟩
          have HZ : Hid (ys.getD q 0 = z0 ∧ ys.getD r 0 = z1) := ⟨hz0, hz1⟩
          rw [hz0] at c0
          rw [hz1] at c1
          clear hz0 hz1
          by_cases he : z0 = z1
          · subst he
            have hd : (z0 == z0) = true := by simp
            have HN : Hid (∀ j, j < m + 1 → ys.getD (p - (k + 1) + j) 0 = ys.getD (p + j) 0) := fun j hj => by
              rcases Nat.lt_or_ge j m with h | h
              · exact HM.out.1 j h
              · rw [show j = m by omega, ← HQR.out.1, ← HQR.out.2, HZ.out.1, HZ.out.2]
            go_wp2
            go_quiet (fail)
            go_wp2
            go_roundw
            case rel => exact ⟨m + 1, by omega, by go_num, HN.out, HBD.out _⟩
            case measure => simp [intOf]; omega
          · have hd : (z0 == z1) = false := by simp; exact he
            have HN : Hid (ys.getD (p - (k + 1) + m) 0 ≠ ys.getD (p + m) 0) := by
              unfold Hid
              rw [← HQR.out.1, ← HQR.out.2, HZ.out.1, HZ.out.2]
              exact fun e => he e.symm
            have HE : Hid (alk ys (p - (k + 1)) p = m) := HIS.out (k + 1) m (by omega) hm HM.out.1 (fun _ => HN.out)
            have hm2 : m ≤ n := by omega
            by_cases hxm : x < m
            · have hxm2 : (x : Int) < (m : Int) := by omega
              have HL2 : Hid (lzD ys p (k + 1) = (m, k + 1)) := by unfold Hid; rw [HD.out k, HR.out.1, HE.out, if_pos hxm]
              go_wp2
              go_quiet (fail)
              go_wp2
              go_roundw
              case rel => exact ⟨k + 1, m, k + 1, by omega, HL2.out, rfl, rfl, by go_num, HBD.out _⟩
              case measure => simp [intOf]; omega
            · have hxm2 : ¬ (x : Int) < (m : Int) := by omega
              have HL2 : Hid (lzD ys p (k + 1) = (x, y)) := by unfold Hid; rw [HD.out k, HR.out.1, HE.out, if_neg hxm]
              go_wp2
              go_quiet (fail)
              go_wp2
              go_roundw
              case rel => exact ⟨k + 1, x, y, by omega, HL2.out, rfl, rfl, by go_num, HBD.out _⟩
              case measure => simp [intOf]; omega
        · have hql : ¬ (p : Int) + (m : Int) < (n : Int) := by omega
          have hd : decide ((p : Int) + (m : Int) < (n : Int)) = false := decide_eq_false hql
          have HE : Hid (alk ys (p - (k + 1)) p = m) := HIS.out (k + 1) m (by omega) hm HM.out.1 (fun h => absurd h hlm)
          have hm2 : m ≤ n := by omega
          by_cases hxm : x < m
          · have hxm2 : (x : Int) < (m : Int) := by omega
            have HL2 : Hid (lzD ys p (k + 1) = (m, k + 1)) := by unfold Hid; rw [HD.out k, HR.out.1, HE.out, if_pos hxm]
            go_wp2
            go_quiet (fail)
            go_wp2
            go_roundw
            case rel => exact ⟨k + 1, m, k + 1, by omega, HL2.out, rfl, rfl, by go_num, HBD.out _⟩
            case measure => simp [intOf]; omega
          · have hxm2 : ¬ (x : Int) < (m : Int) := by omega
            have HL2 : Hid (lzD ys p (k + 1) = (x, y)) := by unfold Hid; rw [HD.out k, HR.out.1, HE.out, if_neg hxm]
            go_wp2
            go_quiet (fail)
            go_wp2
            go_roundw
            case rel => exact ⟨k + 1, x, y, by omega, HL2.out, rfl, rfl, by go_num, HBD.out _⟩
            case measure => simp [intOf]; omega
    · have hkp : k = p := by omega
      subst hkp
      have hlt2 : ¬ ((k + 1 : Nat) : Int) ≤ (k : Int) := by omega
      by_cases h3 : x < 3
      · have h32 : (x : Int) < 3 := by omega
        have HE : Hid (lzA ys k = (0, 0)) := by unfold Hid; rw [HA.out, HR.out.1, if_pos h3]
        go_wp2
        refine bodyPost_ret (v := .tuple #[.int .i64 0, .int .i64 0]) (by simp [results, Tryz.results44, go_sem]) rfl ⟨?_, HR.out.2⟩
        rw [HE.out]
        rfl
      · have h32 : ¬ (x : Int) < 3 := by omega
        have HE : Hid (lzA ys k = (x, y)) := by unfold Hid; rw [HA.out, HR.out.1, if_neg h3]
        go_wp2
        refine bodyPost_ret (v := .tuple #[.int .i64 x, .int .i64 y]) (by simp [results, Tryz.results44, go_sem]) rfl ⟨?_, HR.out.2⟩
        rw [HE.out]
set_option maxHeartbeats 400000 in
theorem toByteS_any (a : Option Addr) (cap : Nat) (zs : List Int) (w : World) (hb : Byt w a zs) (hn : zs.length ≤ 1048576) :
    Calls Tryz.prog 5 #[.slice a zs.length cap] w fun e w' =>
      e = .returned (.slice (some ⟨w.heap.size, 0, none⟩) zs.length zs.length) ∧ Own w' w.heap.size w.heap.size zs.length zs ∧ Below w.heap.size w w' := by
  obtain ⟨i0, hi, hz0, hz1, hz2⟩ := info_parts Tryz.infoU8
  generalize hlen : zs.length = n at *
  have HL : Hid (zs.length = n) := hlen
  clear hlen
  go_enter Tryz.func5, Tryz.ntmps5
  go_wp2_with (at_make; refine wpList_make_full _ rfl _ _ 22 rfl w.heap.size 5 i0 (.int .u8 0) 1 Tryz.underlying22 hi hz0 hz1 .i64 .i64 _ _ n rfl rfl rfl rfl (by rw [hz2]; omega) (by unfold maxLen; omega) (Nat.le_refl _) ?_; intro w1 hown hgrow)
  have h0 : Own w1 w.heap.size w.heap.size n (part zs 0) := by
    rw [part_zero, HL.out]
    refine ⟨?_, by intro z hz; simp at hz; omega⟩
    rw [made_zero] at hown
    simpa using hown
  have hbw : Below w.heap.size w w1 := (Below.refl _ _).grown hgrow (Nat.le_refl _) (by intro k hk; cases hk)
  have H0 : Hid (Own w1 w.heap.size w.heap.size n (part zs 0)) := h0
  clear h0 hown hgrow hi hz0 hz1 hz2
  go_loopw [4] (fun i wr => ∃ k : Nat, k ≤ n ∧ i = .int .i64 k ∧ Own wr w.heap.size w.heap.size n (part zs k) ∧ Below w.heap.size w wr) (fun i _ => n - (intOf i).toNat)
  case atStart => exact ⟨0, Nat.zero_le _, rfl, H0.out, hbw⟩
  case round =>
    obtain ⟨k, hk, rfl, hown, hbel⟩ := hrel
    have HO : Hid (Own wr w.heap.size w.heap.size n (part zs k)) := hown
    clear hown hbw
    by_cases hlt : k < n
    · obtain ⟨b, off, rfl, hbl, hcells⟩ := hb.len_pos k (by rw [HL.out]; exact hlt)
      have hpl : (part zs k).length = n := by rw [part_len _ _ (by rw [HL.out]; omega)]; exact HL.out
      have hsrc : wr.cell? ⟨b, off + k, none⟩ = some (.int .u8 (zs.getD k 0)) := (hbel.cell (p := ⟨b, off + k, none⟩) hbl).trans (hcells k (by rw [HL.out]; exact hlt))
      have hdst := HO.out.cell k (by omega)
      have hfz := HO.out.frozen k
      have hrng := getD_rng hb.1 k
      have R := HO.out.store k (zs.getD k 0) hrng
      rw [part_set _ _ (by rw [HL.out]; exact hlt)] at R
      have HR : Hid (Own (wr.setCell ⟨w.heap.size, k, none⟩ (.int .u8 (zs.getD k 0))) w.heap.size w.heap.size n (part zs (k + 1))) := R
      have hbel' := hbel.setCell (p := ⟨w.heap.size, k, none⟩) (Nat.le_refl _) (.int .u8 (zs.getD k 0))
      have HB : Hid (Below w.heap.size w (wr.setCell ⟨w.heap.size, k, none⟩ (.int .u8 (zs.getD k 0)))) := hbel'
      clear R hcells hpl hbel' hrng hb
      go_wp2
      go_roundw
      case rel => exact ⟨k + 1, by omega, by go_num, by simpa using HR.out, by simpa using HB.out⟩
      case measure => simp [intOf]; omega
    · have hkn : k = n := by omega
      subst hkn
      have hall := HO.out
      rw [← HL.out, part_all, HL.out] at hall
      have HA : Hid (Own wr w.heap.size w.heap.size k zs) := hall
      clear hall
      go_wp2
      go_ret
      exact ⟨rfl, HA.out, hbel⟩
end Go.Proofs.YtpancccomdchnaaGreatDoor
