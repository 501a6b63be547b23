/-
  Rows of bytes that grow by an append, of whatever bytes.
-/
import Derived.Test.YtajhdgnchpbanaaGreatDoorPut4
import Derived.Test.YtajhdgnchpbanaaGreatDoorOkB
import Derived.BigQuiet
import Derived.Test.YtajhdgnchpbanaaGreatDoorIBase
import Derived.Test.YtajhdgnchpbanaaGreatDoorFnD
import Derived.Test.YtajhdgnchpbanaaGreatDoorEnF
import Derived.Test.YtajhdgnchpbanaaGreatDoorNum
namespace Go.Proofs.YtajhdgnchpbanaaGreatDoor
open Go.RowKit
set_option linter.unusedVariables false

theorem val_encB (M V : Nat) (h : V < 2 ^ M) : val (enc M V) = V := by
  unfold enc
  rw [val_encL]
  refine Nat.mod_eq_of_lt (Nat.lt_of_lt_of_le h ?_)
  rw [show 256 = 2 ^ 8 from rfl, ← Nat.pow_mul]
  exact Nat.pow_le_pow_right (by omega) (by omega)
theorem okB_encB (M V : Nat) (hM : M ≤ 4096) (h : V < 2 ^ M) : okB (M : Int) (enc M V) = true := by
  have hl := enc_len M V
  by_cases h8 : M % 8 = 0
  · exact okB_full (by omega) (by omega) (by rw [hl]; omega) (by omega)
  · rw [okB_last (by omega) (by omega) (by rw [hl]; omega) (by omega)]
    have h1 := enc_last M V h h8
    have h2 := enc_top M V h
    rw [show (enc M V).length - 1 = M / 8 from by omega, h1, show ((M : Int) % 8).toNat = M % 8 from by omega]
    have e : (((V / 256 ^ (M / 8) : Nat) : Int) / 2 ^ (M % 8)) = ((V / 256 ^ (M / 8) / 2 ^ (M % 8) : Nat) : Int) := by simp
    rw [e, Nat.div_eq_of_lt h2]
    rfl
set_option linter.unusedSimpArgs false
set_option maxRecDepth 20000 in
set_option maxHeartbeats 8000000 in
theorem l4longest_any (a : Option Addr) (c : Nat) (ys : List Int) (p : Nat) (w : World) (hb : Byt w a ys) (hn : ys.length ≤ 64) (hp : p < ys.length) :
    Calls Tryz.prog 46 #[.slice a ys.length c, .int .i64 p] w fun e w' => e = .returned (.tuple #[.int .i64 (lzA ys p).1, .int .i64 (lzA ys p).2]) ∧ Below w.heap.size w w' := by
  obtain ⟨b1, o1, rfl, hb1, hc1⟩ := hb.2 (by omega)
  have HC : Hid (∀ i, i < ys.length → w.cell? ⟨b1, o1 + i, none⟩ = some (.int .u8 (ys.getD i 0))) := hc1
  have HIS : Hid (∀ d m, d ≤ p → p + m ≤ ys.length → (∀ j, j < m → ys.getD (p - d + j) 0 = ys.getD (p + j) 0) → (p + m < ys.length → ys.getD (p - d + m) 0 ≠ ys.getD (p + m) 0) → alk ys (p - d) p = m) := fun d m _ h1 h2 h3 => alk_is ys _ _ m h1 h2 h3
  have HD : Hid (∀ k, lzD ys p (k + 1) = if (lzD ys p k).1 < alk ys (p - (k + 1)) p then (alk ys (p - (k + 1)) p, k + 1) else lzD ys p k) := fun k => rfl
  have HA : Hid (lzA ys p = if (lzD ys p p).1 < 3 then (0, 0) else lzD ys p p) := rfl
  have HB : Hid (∀ k, (lzD ys p k).1 ≤ ys.length) := fun k => by
    rcases (lzD_spec ys p k).2 with h | ⟨d, _, _, h, _⟩
    · rw [h]; exact Nat.zero_le _
    · rw [h]; have := alk_le ys (p - d) p; simp only; omega
  clear hb hc1
  generalize hL : ys.length = n at *
  have HL : Hid (ys.length = n ∧ True) := ⟨hL, trivial⟩
  clear hL
  go_enter Tryz.func46, Tryz.ntmps46
  go_wp2
  go_loopw [6, 7, 8] (fun bs bd dd W => ∃ (k x y : Nat), k ≤ p ∧ lzD ys p k = (x, y) ∧ bs = .int .i64 x ∧ bd = .int .i64 y ∧ dd = .int .i64 ((k + 1 : Nat) : Int) ∧ Below w.heap.size w W) (fun _ _ dd _ => p + 1 - (intOf dd).toNat)
  case atStart => exact ⟨0, 0, 0, Nat.zero_le _, rfl, rfl, rfl, rfl, Below.refl _ _⟩
  case round =>
    obtain ⟨k, x, y, hk, hxy, rfl, rfl, rfl, hbel⟩ := hrel
    have HR : Hid (lzD ys p k = (x, y) ∧ Below w.heap.size w wr) := ⟨hxy, hbel⟩
    have hxn : x ≤ n := by have := HB.out k; rw [hxy] at this; exact this
    clear hxy hbel
    by_cases hlt : k < p
    · have hlt2 : ((k + 1 : Nat) : Int) ≤ (p : Int) := by omega
      go_wp2
      go_loopw [9] (fun mm W => ∃ m : Nat, p + m ≤ n ∧ mm = .int .i64 m ∧ (∀ j, j < m → ys.getD (p - (k + 1) + j) 0 = ys.getD (p + j) 0) ∧ Below w.heap.size w W) (fun mm _ => n - (intOf mm).toNat)
      case atStart => exact ⟨0, by omega, rfl, fun j hj => by omega, HR.out.2⟩
      case round =>
        obtain ⟨m, hm, rfl, hal, hbel2⟩ := hrel
        have HM : Hid ((∀ j, j < m → ys.getD (p - (k + 1) + j) 0 = ys.getD (p + j) 0) ∧ Below w.heap.size w wr) := ⟨hal, hbel2⟩
        have HBD : Hid (∀ nq, Below w.heap.size w (wr.drewN nq)) := fun nq => ⟨hbel2.os, hbel2.tape, hbel2.output, hbel2.size, hbel2.block⟩
        clear hal hbel2
        by_cases hlm : p + m < n
        · obtain ⟨q, hq⟩ : ∃ q : Nat, q = p + m := ⟨_, rfl⟩
          obtain ⟨r, hr⟩ : ∃ r : Nat, r = p - (k + 1) + m := ⟨_, rfl⟩
          have c0 := keep HM.out.2 hb1 (HC.out q (by omega))
          have c1 := keep HM.out.2 hb1 (HC.out r (by omega))
          have hb1w : b1 < wr.heap.size := by have := HM.out.2.size; omega
          have hqi : (p : Int) + (m : Int) = (q : Int) := by omega
          have hri : (q : Int) - ((k : Int) + 1) = (r : Int) := by omega
          have hql : (q : Int) < (n : Int) := by omega
          have hrl : (r : Int) < (n : Int) := by omega
          have HQR : Hid (q = p + m ∧ r = p - (k + 1) + m) := ⟨hq, hr⟩
          clear hq hr
          obtain ⟨z0, hz0⟩ : ∃ z, ys.getD q 0 = z := ⟨_, rfl⟩
          obtain ⟨z1, hz1⟩ : ∃ z, ys.getD r 0 = z := ⟨_, rfl⟩
          have HZ : Hid (ys.getD q 0 = z0 ∧ ys.getD r 0 = z1) := ⟨hz0, hz1⟩
          rw [hz0] at c0
          rw [hz1] at c1
          clear hz0 hz1
          by_cases he : z0 = z1
          · subst he
            have hd : (z0 == z0) = true := by simp
            have HN : Hid (∀ j, j < m + 1 → ys.getD (p - (k + 1) + j) 0 = ys.getD (p + j) 0) := fun j hj => by
              rcases Nat.lt_or_ge j m with h | h
              · exact HM.out.1 j h
              · rw [show j = m by omega, ← HQR.out.1, ← HQR.out.2, HZ.out.1, HZ.out.2]
            go_wp2
            go_quiet (fail)
            go_wp2
            go_roundw
            case rel => exact ⟨m + 1, by omega, by go_num, HN.out, HBD.out _⟩
            case measure => simp [intOf]; omega
          · have hd : (z0 == z1) = false := by simp; exact he
            have HN : Hid (ys.getD (p - (k + 1) + m) 0 ≠ ys.getD (p + m) 0) := by
              unfold Hid
              rw [← HQR.out.1, ← HQR.out.2, HZ.out.1, HZ.out.2]
              exact fun e => he e.symm
            have HE : Hid (alk ys (p - (k + 1)) p = m) := HIS.out (k + 1) m (by omega) hm HM.out.1 (fun _ => HN.out)
            have hm2 : m ≤ n := by omega
            by_cases hxm : x < m
            · have hxm2 : (x : Int) < (m : Int) := by omega
              have HL2 : Hid (lzD ys p (k + 1) = (m, k + 1)) := by unfold Hid; rw [HD.out k, HR.out.1, HE.out, if_pos hxm]
              go_wp2
              go_quiet (fail)
              go_wp2
              go_roundw
              case rel => exact ⟨k + 1, m, k + 1, by omega, HL2.out, rfl, rfl, by go_num, HBD.out _⟩
              case measure => simp [intOf]; omega
            · have hxm2 : ¬ (x : Int) < (m : Int) := by omega
              have HL2 : Hid (lzD ys p (k + 1) = (x, y)) := by unfold Hid; rw [HD.out k, HR.out.1, HE.out, if_neg hxm]
              go_wp2
              go_quiet (fail)
              go_wp2
              go_roundw
              case rel => exact ⟨k + 1, x, y, by omega, HL2.out, rfl, rfl, by go_num, HBD.out _⟩
              case measure => simp [intOf]; omega
        · have hql : ¬ (p : Int) + (m : Int) < (n : Int) := by omega
          have hd : decide ((p : Int) + (m : Int) < (n : Int)) = false := decide_eq_false hql
          have HE : Hid (alk ys (p - (k + 1)) p = m) := HIS.out (k + 1) m (by omega) hm HM.out.1 (fun h => absurd h hlm)
          have hm2 : m ≤ n := by omega
          by_cases hxm : x < m
          · have hxm2 : (x : Int) < (m : Int) := by omega
            have HL2 : Hid (lzD ys p (k + 1) = (m, k + 1)) := by unfold Hid; rw [HD.out k, HR.out.1, HE.out, if_pos hxm]
            go_wp2
            go_quiet (fail)
            go_wp2
            go_roundw
            case rel => exact ⟨k + 1, m, k + 1, by omega, HL2.out, rfl, rfl, by go_num, HBD.out _⟩
            case measure => simp [intOf]; omega
          · have hxm2 : ¬ (x : Int) < (m : Int) := by omega
            have HL2 : Hid (lzD ys p (k + 1) = (x, y)) := by unfold Hid; rw [HD.out k, HR.out.1, HE.out, if_neg hxm]
            go_wp2
            go_quiet (fail)
            go_wp2
            go_roundw
            case rel => exact ⟨k + 1, x, y, by omega, HL2.out, rfl, rfl, by go_num, HBD.out _⟩
            case measure => simp [intOf]; omega
    · have hkp : k = p := by omega
      subst hkp
      have hlt2 : ¬ ((k + 1 : Nat) : Int) ≤ (k : Int) := by omega
      by_cases h3 : x < 3
      · have h32 : (x : Int) < 3 := by omega
        have HE : Hid (lzA ys k = (0, 0)) := by unfold Hid; rw [HA.out, HR.out.1, if_pos h3]
        go_wp2
        refine bodyPost_ret (v := .tuple #[.int .i64 0, .int .i64 0]) (by simp [results, Tryz.results46, go_sem]) rfl ⟨?_, HR.out.2⟩
        rw [HE.out]
        rfl
      · have h32 : ¬ (x : Int) < 3 := by omega
        have HE : Hid (lzA ys k = (x, y)) := by unfold Hid; rw [HA.out, HR.out.1, if_neg h3]
        go_wp2
        refine bodyPost_ret (v := .tuple #[.int .i64 x, .int .i64 y]) (by simp [results, Tryz.results46, go_sem]) rfl ⟨?_, HR.out.2⟩
        rw [HE.out]
set_option maxHeartbeats 400000 in
theorem toByteS_any (a : Option Addr) (cap : Nat) (zs : List Int) (w : World) (hb : Byt w a zs) (hn : zs.length ≤ 1048576) :
    Calls Tryz.prog 5 #[.slice a zs.length cap] w fun e w' =>
      e = .returned (.slice (some ⟨w.heap.size, 0, none⟩) zs.length zs.length) ∧ Own w' w.heap.size w.heap.size zs.length zs ∧ Below w.heap.size w w' := by
  obtain ⟨i0, hi, hz0, hz1, hz2⟩ := info_parts Tryz.infoU8
  generalize hlen : zs.length = n at *
  have HL : Hid (zs.length = n) := hlen
  clear hlen
  go_enter Tryz.func5, Tryz.ntmps5
  go_wp2_with (at_make; refine wpList_make_full _ rfl _ _ 22 rfl w.heap.size 5 i0 (.int .u8 0) 1 Tryz.underlying22 hi hz0 hz1 .i64 .i64 _ _ n rfl rfl rfl rfl (by rw [hz2]; omega) (by unfold maxLen; omega) (Nat.le_refl _) ?_; intro w1 hown hgrow)
  have h0 : Own w1 w.heap.size w.heap.size n (part zs 0) := by
    rw [part_zero, HL.out]
    refine ⟨?_, by intro z hz; simp at hz; omega⟩
    rw [made_zero] at hown
    simpa using hown
  have hbw : Below w.heap.size w w1 := (Below.refl _ _).grown hgrow (Nat.le_refl _) (by intro k hk; cases hk)
  have H0 : Hid (Own w1 w.heap.size w.heap.size n (part zs 0)) := h0
  clear h0 hown hgrow hi hz0 hz1 hz2
  go_loopw [4] (fun i wr => ∃ k : Nat, k ≤ n ∧ i = .int .i64 k ∧ Own wr w.heap.size w.heap.size n (part zs k) ∧ Below w.heap.size w wr) (fun i _ => n - (intOf i).toNat)
  case atStart => exact ⟨0, Nat.zero_le _, rfl, H0.out, hbw⟩
  case round =>
    obtain ⟨k, hk, rfl, hown, hbel⟩ := hrel
    have HO : Hid (Own wr w.heap.size w.heap.size n (part zs k)) := hown
    clear hown hbw
    by_cases hlt : k < n
    · obtain ⟨b, off, rfl, hbl, hcells⟩ := hb.len_pos k (by rw [HL.out]; exact hlt)
      have hpl : (part zs k).length = n := by rw [part_len _ _ (by rw [HL.out]; omega)]; exact HL.out
      have hsrc : wr.cell? ⟨b, off + k, none⟩ = some (.int .u8 (zs.getD k 0)) := (hbel.cell (p := ⟨b, off + k, none⟩) hbl).trans (hcells k (by rw [HL.out]; exact hlt))
      have hdst := HO.out.cell k (by omega)
      have hfz := HO.out.frozen k
      have hrng := getD_rng hb.1 k
      have R := HO.out.store k (zs.getD k 0) hrng
      rw [part_set _ _ (by rw [HL.out]; exact hlt)] at R
      have HR : Hid (Own (wr.setCell ⟨w.heap.size, k, none⟩ (.int .u8 (zs.getD k 0))) w.heap.size w.heap.size n (part zs (k + 1))) := R
      have hbel' := hbel.setCell (p := ⟨w.heap.size, k, none⟩) (Nat.le_refl _) (.int .u8 (zs.getD k 0))
      have HB : Hid (Below w.heap.size w (wr.setCell ⟨w.heap.size, k, none⟩ (.int .u8 (zs.getD k 0)))) := hbel'
      clear R hcells hpl hbel' hrng hb
      go_wp2
      go_roundw
      case rel => exact ⟨k + 1, by omega, by go_num, by simpa using HR.out, by simpa using HB.out⟩
      case measure => simp [intOf]; omega
    · have hkn : k = n := by omega
      subst hkn
      have hall := HO.out
      rw [← HL.out, part_all, HL.out] at hall
      have HA : Hid (Own wr w.heap.size w.heap.size k zs) := hall
      clear hall
      go_wp2
      go_ret
      exact ⟨rfl, HA.out, hbel⟩
theorem Tryz.infoSeq : (Tryz.prog.info? 66).map (fun i => (i.zero, i.size, i.bytes)) = some (some (.agg #[.slice none 0 0, .int .i64 0, .int .i64 0]), 3, 40) := by kernel_rfl
theorem made_seqs (n : Nat) : (madeCells (Value.agg #[.slice none 0 0, .int .i64 0, .int .i64 0]).cells (n * 3)).toList = (List.replicate n dq).flatMap Sq.cells := by
  apply List.ext_getElem?
  intro i
  by_cases hi : i < n * 3
  · have hd : i / 3 < (List.replicate n dq).length := by simp; omega
    have hg : (List.replicate n dq).getD (i / 3) dq = dq := by
      rw [List.getD_eq_getElem?_getD, List.getElem?_replicate]; split <;> rfl
    obtain ⟨f0, f1, f2⟩ := flat_get (List.replicate n dq) (i / 3) hd
    rw [hg] at f0 f1 f2
    simp only [madeCells, Array.toList_map, Array.toList_range, List.getElem?_map, List.getElem?_range hi, Option.map_some]
    have h3 : i % 3 = 0 ∨ i % 3 = 1 ∨ i % 3 = 2 := by omega
    rcases h3 with h3 | h3 | h3
    · rw [show i / 3 * 3 = i from by omega] at f0
      rw [f0]
      simp [Value.cells, h3, dq]
    · rw [show i / 3 * 3 + 1 = i from by omega] at f1
      rw [f1]
      simp [Value.cells, h3, dq]
    · rw [show i / 3 * 3 + 2 = i from by omega] at f2
      rw [f2]
      simp [Value.cells, h3, dq]
  · rw [List.getElem?_eq_none (by simp [madeCells]; omega), List.getElem?_eq_none (by rw [flat_len]; simp; omega)]

theorem getD_app_repl (bs : List Sq) (m i : Nat) (h : bs.length ≤ i) : (bs ++ List.replicate m dq).getD i dq = dq := by
  rw [List.getD_eq_getElem?_getD, List.getElem?_append_right h, List.getElem?_replicate]; split <;> rfl
theorem set_app_repl (bs : List Sq) (m k : Nat) (s : Sq) (h : bs.length = k) (hk : 0 < m) : (bs ++ List.replicate m dq).set k s = (bs ++ [s]) ++ List.replicate (m - 1) dq := by
  rw [List.set_append_right _ _ (by omega), h, Nat.sub_self, show m = (m - 1) + 1 from by omega, List.replicate_succ, List.set_cons_zero, List.append_assoc]
  rfl
theorem ct_take_succ (ss : List Sq) (k : Nat) (h : k < ss.length) : (ss.take (k + 1)).map Sq.ct = (ss.take k).map Sq.ct ++ [(ss.getD k dq).ct] := by
  rw [List.take_succ_eq_append_getElem h, List.map_append]
  simp [List.getD_eq_getElem?_getD, List.getElem?_eq_getElem h]
/-- A slice value (nil, or a row of the call's own from block B on) that has the bytes zs. -/
def OVB (w : World) (B : Nat) (v : Value) (zs : List Int) : Prop := w.ownsRow B 5 1 v zs.length (zs.map (Value.int .u8)) ∧ ∀ z ∈ zs, 0 ≤ z ∧ z ≤ 255

theorem OVB.nil (w : World) (B : Nat) : OVB w B (.slice none 0 0) [] := ⟨⟨rfl, .inl ⟨rfl, rfl⟩⟩, by simp⟩
theorem OVB.form {w : World} {B : Nat} {v : Value} {zs : List Int} (h : OVB w B v zs) : ∃ (a : Option Addr) (c : Nat), v = .slice a zs.length c := by
  rcases h.1.2 with ⟨rfl, h0⟩ | ⟨g, cap, cur, rfl, _⟩
  · exact ⟨none, 0, by rw [h0]⟩
  · exact ⟨_, _, rfl⟩
theorem OVB.blk {w : World} {B : Nat} {v : Value} {zs : List Int} (h : OVB w B v zs) {k : Nat} (hk : v.ownBlock = some k) : B ≤ k := by
  rcases h.1.2 with ⟨rfl, h0⟩ | ⟨g, cap, cur, rfl, hg, _⟩
  · simp [Value.ownBlock] at hk
  · simp [Value.ownBlock] at hk
    omega
theorem OVB.mine {w : World} {B : Nat} {v : Value} {zs : List Int} (h : OVB w B v zs) : ∃ (a : Option Addr) (cp : Nat), v = .slice a zs.length cp ∧ Mine w B w.heap.size a cp zs := by
  rcases h.1.2 with ⟨rfl, h0⟩ | ⟨g, cap, cur, rfl, hg, hh, r⟩
  · exact ⟨none, 0, by rw [h0], .inl ⟨rfl, List.eq_nil_of_length_eq_zero h0, rfl⟩⟩
  · exact ⟨some ⟨g, 0, none⟩, cap, rfl, Own.mine (cap := cap) h⟩
theorem OVB.stay {S : Nat → Prop} {w w' : World} {B : Nat} {v : Value} {zs : List Int} (h : OVB w B v zs) (ho : Only S w w') (hs : ∀ k, B ≤ k → ¬ S k) : OVB w' B v zs := by
  refine ⟨⟨h.1.1, ?_⟩, h.2⟩
  rcases h.1.2 with h' | ⟨g, cap, cur, h', hg, hh, r⟩
  · exact .inl h'
  · exact .inr ⟨g, cap, cur, h', hg, (ho.block g (Array.getElem?_eq_some_iff.1 hh).1 (hs g hg)).trans hh, r⟩
theorem OVB.weak {w : World} {B B' : Nat} {v : Value} {zs : List Int} (h : OVB w B v zs) (hB : B' ≤ B) : OVB w B' v zs := by
  refine ⟨⟨h.1.1, ?_⟩, h.2⟩
  rcases h.1.2 with h' | ⟨g, cap, cur, h', hg, r⟩
  · exact .inl h'
  · exact .inr ⟨g, cap, cur, h', by omega, r⟩
theorem OVB.alloc {w : World} {B : Nat} {v : Value} {zs : List Int} (h : OVB w B v zs) (o : Obj) : OVB (w.alloc o) B v zs := ⟨h.1.alloc o, h.2⟩
theorem OVB.byt {w : World} {B : Nat} {a : Option Addr} {n c : Nat} {zs : List Int} (h : OVB w B (.slice a n c) zs) : Byt w a zs := by
  obtain ⟨a', c', e, hm⟩ := h.mine
  obtain ⟨rfl, -, -⟩ : a = a' ∧ n = zs.length ∧ c = c' := by simpa using e
  exact hm.byt
theorem OVB.below {w w' : World} {B : Nat} {v : Value} {zs : List Int} (h : OVB w B v zs) (hb : Below w.heap.size w w') : OVB w' B v zs := h.stay (Only.ofBelow (S := fun _ => False) hb (Nat.le_refl _)) (by simp)

theorem byt_one (w : World) (z : Int) (hz : 0 ≤ z ∧ z ≤ 255) : Byt (w.alloc (.cells #[.int .u8 z] 5)) (some ⟨w.heap.size, 0, none⟩) [z] := by
  refine ⟨by intro y hy; simp at hy; rw [hy]; exact hz, fun _ => ⟨w.heap.size, 0, rfl, by simp, fun i hi => ?_⟩⟩
  obtain rfl : i = 0 := by simp at hi; omega
  simp
theorem run_append_none {P : Program} (w : World) (t ty e : TypeId) (i : TypeInfo) (ht : P.underlying t = some (.slice e)) (hi : P.info? e = some i) (base size n : Nat) (v : Value) (xs : List Value) (hown : w.ownsRow base e size v n xs) (c : Nat) :
    (Builtin.append_ #[t, t] ty #[v, .slice none 0 c]).run P w = .ok v w := by
  rcases hown.2 with ⟨rfl, rfl⟩ | ⟨g, cap, cur, rfl, _, hg, hnc, _⟩
  · simp [Builtin.append_, run_underlying ht, sizeOf, typeInfo, hi, Builtin.lenOf, Builtin.firstCells]
  · simp [Builtin.append_, run_underlying ht, sizeOf, typeInfo, hi, Builtin.lenOf, Builtin.firstCells, hnc, storeCells]

theorem wpList_append_byt {ops : Array Oper} {rest : List Oper} {o : Oper} {a : Act} {Q : Exit → Act → World → Prop} {w : World} (hgd : o.guard = none) (s x : Operand)
    (ho : o.op = .call { callee := .builtin .append, args := #[s, x], argTypes := #[22, 22] })
    (B : Nat) (v : Value) (zs : List Int) (hs : a.eval s = v) (hown : OVB w B v zs) (xa : Option Addr) (c : Nat) (ys : List Int) (hx : a.eval x = .slice xa ys.length c) (hy : Byt w xa ys) (hb1 : zs.length + ys.length ≤ 1000000) (hbase : B ≤ w.heap.size)
    (h : ∀ v' w', OVB w' B v' (zs ++ ys) → w.grownBy w' v.ownBlock → wpList Tryz.prog ops Q rest (a.put o.dst v') w') : wpList Tryz.prog ops Q (o :: rest) a w := by
  obtain ⟨i0, hi, hz0, hz1, hz2⟩ := info_parts Tryz.infoU8
  have hr : ∀ z ∈ zs ++ ys, 0 ≤ z ∧ z ≤ 255 := fun z hz => (List.mem_append.1 hz).elim (hown.2 z) (hy.1 z)
  cases xa with
  | none =>
    have hy0 : ys = [] := by
      rcases Nat.eq_zero_or_pos ys.length with h0 | h0
      · exact List.eq_nil_of_length_eq_zero h0
      · obtain ⟨b, off, e, _⟩ := hy.2 h0
        cases e
    subst hy0
    refine wpList_plain hgd fun K hK' => ?_
    have hrun := run_append_none (P := Tryz.prog) w 22 o.type 5 i0 Tryz.underlying22 hi B 1 zs.length v _ hown.1 c
    unfold Oper.wp execOp
    simp only [List.length_nil] at hx
    simp only [ho, resolve, invoke, builtin, Sem.run_bind, Sem.run_pure, Result.andThen_ok, List.map_toArray, List.map_cons, List.map_nil, hs, hx, hrun]
    exact hK' _ _ (h v w (by simpa using hown) (World.grownBy.refl w _))
  | some ad =>
    have hnews : ∀ j u, (ys.map (Value.int .u8))[j]? = some u → w.cell? (ad.add j) = some u := by
      intro j u hu
      have hj : j < ys.length := by
        rcases Nat.lt_or_ge j ys.length with h | h
        · exact h
        · rw [List.getElem?_eq_none (by simpa using h)] at hu; cases hu
      obtain ⟨b, off, e, _, hc⟩ := hy.2 (by omega)
      obtain rfl : ad = ⟨b, off, none⟩ := by simpa using e
      exact news_of hc j u hu
    refine wpList_append_own w hgd s x 22 ho B 5 i0 (.int .u8 0) 1 1 Tryz.underlying22 hi hz0 hz1 hz2 rfl (by decide) v zs.length _ hs hown.1 ad ys.length c (ys.map (Value.int .u8)) hx (by simp) hnews (oneCells ys) (by unfold maxLen; omega) (by omega) hbase ?_
    intro v' w' h1 h2 _
    refine h v' w' ⟨?_, hr⟩ h2
    rw [List.length_append, List.map_append]
    exact h1
theorem appB_below {w0 wr w1 : World} {B : Nat} {v : Value} {zs : List Int} (hbel : Below B w0 wr) (hB : B ≤ wr.heap.size) (h : OVB wr B v zs) (hg : wr.grownBy w1 v.ownBlock) : Below B w0 w1 :=
  hbel.grown hg hB (fun k hk => h.blk hk)
theorem OVB.blk_ne {w : World} {B : Nat} {v : Value} {zs : List Int} (h : OVB w B v zs) {Q : Nat} {cur : Array Value} {T : TypeId} (hQ : w.heap[Q]? = some (.cells cur T (0, 0))) (hT : T ≠ 5) : some Q ≠ v.ownBlock := by
  rcases h.1.2 with ⟨rfl, h0⟩ | ⟨g, cap, cur', rfl, hg, hh, _⟩
  · simp [Value.ownBlock]
  · simp only [Value.ownBlock, ne_eq, Option.some.injEq]
    rintro rfl
    rw [hQ] at hh
    simp at hh
    exact hT hh.2
theorem grown_blk {w w' : World} {row : Option Nat} (hg : w.grownBy w' row) {Q : Nat} {o : Obj} (hQ : w.heap[Q]? = some o) (hne : some Q ≠ row) : w'.heap[Q]? = some o := (hg.block Q (Array.getElem?_eq_some_iff.1 hQ).1 hne).trans hQ
theorem blk_cell {w : World} {R j : Nat} {cur : Array Value} {T : TypeId} {v : Value} (hR : w.heap[R]? = some (.cells cur T (0, 0))) (hv : cur[j]? = some v) : w.cell? ⟨R, j, none⟩ = some v := by
  rw [cell_of_row w R j cur T (0, 0) hR]; exact hv
end Go.Proofs.YtajhdgnchpbanaaGreatDoor
