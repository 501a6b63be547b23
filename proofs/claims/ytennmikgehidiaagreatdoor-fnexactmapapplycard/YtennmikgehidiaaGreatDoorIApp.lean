/-
  Rows of numbers that grow by an append.
-/
import Derived.Test.YtennmikgehidiaaGreatDoorMpA
import Derived.Test.YtennmikgehidiaaGreatDoorItW
import Derived.Test.YtennmikgehidiaaGreatDoorPlP
namespace Go.Proofs.YtennmikgehidiaaGreatDoor
open Go.RowKit
set_option linter.unusedVariables false
set_option linter.unusedSimpArgs false

/-- What item i does to the places. -/
def mvS (s : Int) (q : El) (i : Nat) (l : List (Int × Int)) : List (Int × Int) :=
  if 0 ≤ q.n ∧ q.n < l.length then l.set q.n.toNat (if 0 < q.ls.length then (s, (i : Int)) else dp) else l
def mvL (s : Int) (es : List El) (l : List (Int × Int)) : Nat → List (Int × Int)
  | 0 => l
  | i + 1 => mvS s (es.getD i de) i (mvL s es l i)
theorem mvS_len (s : Int) (q : El) (i : Nat) (l : List (Int × Int)) : (mvS s q i l).length = l.length := by
  unfold mvS
  split <;> simp
theorem mvL_len (s : Int) (es : List El) (l : List (Int × Int)) (k : Nat) : (mvL s es l k).length = l.length := by
  induction k with
  | zero => rfl
  | succ k ih => rw [mvL, mvS_len, ih]
theorem mvS_no {s : Int} {q : El} {i : Nat} {l : List (Int × Int)} (h : ¬ (0 ≤ q.n ∧ q.n < l.length)) : mvS s q i l = l := by rw [mvS, if_neg h]
theorem mvS_nil {s : Int} {q : Nat} {a : Option Addr} {c : Nat} {i : Nat} {l : List (Int × Int)} (h : q < l.length) : mvS s ⟨(q : Nat), a, c, []⟩ i l = l.set q dp := by
  rw [mvS, if_pos ⟨by simp only; omega, by simp only; omega⟩]
  simp
theorem mvS_yes {s : Int} {q : Nat} {a : Option Addr} {c : Nat} {ls : List Int} {i : Nat} {l : List (Int × Int)} (h : q < l.length) (h2 : 0 < ls.length) : mvS s ⟨(q : Nat), a, c, ls⟩ i l = l.set q (s, (i : Int)) := by
  rw [mvS, if_pos ⟨by simp only; omega, by simp only; omega⟩]
  simp [h2]

set_option maxRecDepth 20000 in
set_option maxHeartbeats 4000000 in
theorem moved_any (a : Option Addr) (cap : Nat) (ps : List (Int × Int)) (s : Int) (sa : Option Addr) (sc : Nat) (es : List El) (w : World) (hb : Pls w a ps) (h1 : 1 ≤ ps.length) (hn : ps.length ≤ 1000) (hs : Els true w sa es) (hm : es.length ≤ 1000) (hr : -9223372036854775808 ≤ s ∧ s ≤ 9223372036854775807) :
    Calls Tryz.prog 26 #[.slice a ps.length cap, .int .i64 s, .slice sa es.length sc] w fun e w' => (∃ g c, e = .returned (.slice (some ⟨g, 0, none⟩) ps.length c) ∧ OwP w' w.heap.size g c (mvL s es ps es.length)) ∧ Below w.heap.size w w' := by
  have HCL := clonePl_any a cap ps w hb (by omega)
  have HB : Hid (Els true w sa es) := hs
  have HML : Hid (∀ k, (mvL s es ps k).length = ps.length) := fun k => mvL_len s es ps k
  have HMV : Hid (∀ k, mvL s es ps (k + 1) = mvS s (es.getD k de) k (mvL s es ps k)) := fun k => rfl
  have HM0 : Hid (mvL s es ps 0 = ps ∧ True) := ⟨rfl, trivial⟩
  clear hb hs
  generalize hlen : es.length = n at *
  have HL : Hid (es.length = n ∧ True) := ⟨hlen, trivial⟩
  clear hlen
  generalize hlp : ps.length = m at *
  have HP : Hid (ps.length = m ∧ True) := ⟨hlp, trivial⟩
  clear hlp
  go_enter Tryz.func26, Tryz.ntmps26
  go_wp2_with fail
  refine HCL.mono ?_
  clear HCL
  rintro e w1 ⟨⟨v, rfl, hov⟩, hb1⟩
  obtain ⟨va, vc, hv, hmn⟩ := hov.mine
  subst hv
  obtain ⟨g, rfl, how⟩ : ∃ g, va = some ⟨g, 0, none⟩ ∧ OwP w1 w.heap.size g vc ps := by
    rcases hmn with ⟨-, h, -⟩ | ⟨g, h, _, _, h2⟩
    · rw [h] at HP
      have := HP.out.1
      simp at this
      omega
    · exact ⟨g, h, h2⟩
  have HI : Hid (OwP w1 w.heap.size g vc (mvL s es ps 0) ∧ Below w.heap.size w w1) := ⟨by rw [HM0.out.1]; exact how, hb1⟩
  rw [HP.out.1]
  clear hov hmn how hb1
  go_wp2
  go_loopw [14] (fun i wr => ∃ k : Nat, k ≤ n ∧ i = .int .i64 k ∧ OwP wr w.heap.size g vc (mvL s es ps k) ∧ Below w.heap.size w wr) (fun i _ => n - (intOf i).toNat)
  case atStart => exact ⟨0, Nat.zero_le _, rfl, HI.out.1, HI.out.2⟩
  case round =>
    clear HI
    obtain ⟨k, hk, rfl, how, hbel⟩ := hrel
    by_cases hlt : k < n
    · obtain ⟨b, off, rfl, hb1, c0, c1, hby, hrg⟩ := (HB.out.below hbel (Nat.le_refl _)).pen k (by rw [HL.out.1]; exact hlt)
      have hln := HML.out k
      have hmv := HMV.out k
      have hll : (es.getD k de).ls.length ≤ maxLen := hrg.len
      generalize hs : es.getD k de = q at *
      obtain ⟨sn, qa, qc, sl⟩ := q
      simp only at c0 c1 hby hll
      have hgl := how.lt
      have hbx : Below wr.heap.size wr (wr.alloc (Obj.cells #[Value.int IntKind.i64 sn, Value.slice qa sl.length qc] 74)) := (Below.refl _ _).alloc (Nat.le_refl _) _
      have how2 : OwP (wr.alloc (Obj.cells #[Value.int IntKind.i64 sn, Value.slice qa sl.length qc] 74)) w.heap.size g vc (mvL s es ps k) := OVp.below how hbx
      have hbw : Below w.heap.size w (wr.alloc (Obj.cells #[Value.int IntKind.i64 sn, Value.slice qa sl.length qc] 74)) := hbel.trans (hbx.mono hbel.size)
      have q0 : (wr.alloc (Obj.cells #[Value.int IntKind.i64 sn, Value.slice qa sl.length qc] 74)).cell? ⟨wr.heap.size, 0, none⟩ = some (.int .i64 sn) := by simp
      have q1 : (wr.alloc (Obj.cells #[Value.int IntKind.i64 sn, Value.slice qa sl.length qc] 74)).cell? ⟨wr.heap.size, 1, none⟩ = some (.slice qa sl.length qc) := by simp
      have hne : ¬ g = wr.heap.size := by omega
      have hne2 : ¬ wr.heap.size = g := by omega
      have HH := hasP_any (some ⟨g, 0, none⟩) m vc sn (wr.alloc (Obj.cells #[Value.int IntKind.i64 sn, Value.slice qa sl.length qc] 74)) (by omega)
      clear hby hrg hs hbx how
      go_wp2_with fail
      generalize wr.alloc (Obj.cells #[Value.int IntKind.i64 sn, Value.slice qa sl.length qc] 74) = W at *
      refine HH.mono ?_
      clear HH c0 c1
      rintro e w2 ⟨rfl, rfl⟩
      by_cases hin : 0 ≤ sn ∧ sn < m
      rotate_left 1
      · rw [decide_eq_false hin]
        rw [mvS_no (by simp only [hln]; exact hin)] at hmv
        have HN : Hid (OwP w2 w.heap.size g vc (mvL s es ps (k + 1)) ∧ Below w.heap.size w w2) := ⟨by rw [hmv]; exact how2, hbw⟩
        clear hmv how2 hbw hln hin
        go_wp2
        go_roundw
        case rel => exact ⟨k + 1, by omega, by go_num, HN.out.1, HN.out.2⟩
        case measure => simp [intOf]; omega
      · rw [decide_eq_true hin]
        obtain ⟨q, rfl⟩ := Int.eq_ofNat_of_zero_le hin.1
        have hqm : q < m := by omega
        clear hin
        obtain ⟨x0, x1⟩ := how2.cell q (by omega)
        have f0 := how2.frozen (q * 2)
        have f1 := how2.frozen (q * 2 + 1)
        have R1 := how2.store q (by omega) dp rP_dp
        by_cases hz : 0 < sl.length
        · have R2 := R1.store q (by simp; omega) (s, (k : Int)) ⟨hr, by simp only; omega, by simp only; omega⟩
          rw [List.set_set, ← mvS_yes (a := qa) (c := qc) (by omega) hz, ← hmv] at R2
          have HN : Hid (OwP ((((w2.setCell ⟨g, q * 2, none⟩ (.int .i64 0)).setCell ⟨g, q * 2 + 1, none⟩ (.int .i64 0)).setCell ⟨g, q * 2, none⟩ (.int .i64 s)).setCell ⟨g, q * 2 + 1, none⟩ (.int .i64 k)) w.heap.size g vc (mvL s es ps (k + 1)) ∧ Below w.heap.size w ((((w2.setCell ⟨g, q * 2, none⟩ (.int .i64 0)).setCell ⟨g, q * 2 + 1, none⟩ (.int .i64 0)).setCell ⟨g, q * 2, none⟩ (.int .i64 s)).setCell ⟨g, q * 2 + 1, none⟩ (.int .i64 k))) :=
            ⟨R2, (((hbw.setCell hgl.1 _).setCell hgl.1 _).setCell hgl.1 _).setCell hgl.1 _⟩
          clear R1 R2 hmv how2 hbw hln
          go_wp2
          go_roundw
          case rel => exact ⟨k + 1, by omega, by go_num, HN.out.1, HN.out.2⟩
          case measure => simp [intOf]; omega
        · obtain rfl : sl = [] := List.eq_nil_of_length_eq_zero (by omega)
          rw [← mvS_nil (s := s) (a := qa) (c := qc) (i := k) (by omega), ← hmv] at R1
          have HN : Hid (OwP ((w2.setCell ⟨g, q * 2, none⟩ (.int .i64 0)).setCell ⟨g, q * 2 + 1, none⟩ (.int .i64 0)) w.heap.size g vc (mvL s es ps (k + 1)) ∧ Below w.heap.size w ((w2.setCell ⟨g, q * 2, none⟩ (.int .i64 0)).setCell ⟨g, q * 2 + 1, none⟩ (.int .i64 0))) :=
            ⟨R1, (hbw.setCell hgl.1 _).setCell hgl.1 _⟩
          clear R1 hmv how2 hbw hln
          go_wp2
          go_roundw
          case rel => exact ⟨k + 1, by omega, by go_num, HN.out.1, HN.out.2⟩
          case measure => simp [intOf]; omega
    · have hkn : k = n := by omega
      subst hkn
      have HF : Hid (OwP wr w.heap.size g vc (mvL s es ps k) ∧ Below w.heap.size w wr) := ⟨how, hbel⟩
      clear how hbel
      go_wp2
      go_ret
      exact ⟨⟨g, vc, rfl, HF.out.1⟩, HF.out.2⟩
end Go.Proofs.YtennmikgehidiaaGreatDoor
namespace Go.Proofs.YtennmikgehidiaaGreatDoor
open Go.RowKit
set_option linter.unusedVariables false
set_option linter.unusedSimpArgs false

theorem new1 (W : World) (v : Value) (T : TypeId) : (W.alloc (Obj.cells #[v] T)).cell? ⟨W.heap.size, 0, none⟩ = some v ∧ (W.alloc (Obj.cells #[v] T)).frozen? ⟨W.heap.size, 0, none⟩ = false := ⟨by simp, by simp⟩
theorem mvS_zero {s : Int} {q : Nat} {a : Option Addr} {c : Nat} {ls : List Int} {i : Nat} {l : List (Int × Int)} (h : q < l.length) (h2 : ¬ 0 < ls.length) : mvS s ⟨(q : Nat), a, c, ls⟩ i l = l.set q dp := by
  obtain rfl : ls = [] := List.eq_nil_of_length_eq_zero (by omega)
  exact mvS_nil h

set_option maxHeartbeats 800000 in
theorem l8own_any (ad : Addr) (cap : Nat) (ps : List (Int × Int)) (w : World) (hb : Pls w (some ad) ps) (hn : ps.length ≤ 1000000) :
    Calls Tryz.prog 36 #[.agg #[.slice (some ad) ps.length cap]] w fun e w' => (∃ v, e = .returned (.agg #[v]) ∧ OVp w' w.heap.size v ps) ∧ Below w.heap.size w w' := by
  have hw : Below w.heap.size w ((w.alloc (Obj.cells #[Value.slice (some ad) ps.length cap] 32)).alloc (Obj.cells #[Value.slice none 0 0] 32)) := ((Below.refl _ _).alloc (Nat.le_refl _) _).alloc (by simp) _
  have HB0 : Hid (Below w.heap.size w ((w.alloc (Obj.cells #[Value.slice (some ad) ps.length cap] 32)).alloc (Obj.cells #[Value.slice none 0 0] 32))) := hw
  have HO : Hid (OVp (((w.alloc (Obj.cells #[Value.slice (some ad) ps.length cap] 32)).alloc (Obj.cells #[Value.slice none 0 0] 32)).alloc (Obj.cells #[] 72)) (w.heap.size + 1 + 1) (.slice (some ⟨w.heap.size + 1 + 1, 0, none⟩) 0 0) []) := by
    have := OVp.empty ((w.alloc (Obj.cells #[Value.slice (some ad) ps.length cap] 32)).alloc (Obj.cells #[Value.slice none 0 0] 32)) (w.heap.size + 1 + 1) (by simp)
    simp only [World.size_alloc] at this
    exact this
  have HB : Hid (Below (w.heap.size + 1 + 1) ((w.alloc (Obj.cells #[Value.slice (some ad) ps.length cap] 32)).alloc (Obj.cells #[Value.slice none 0 0] 32)) (((w.alloc (Obj.cells #[Value.slice (some ad) ps.length cap] 32)).alloc (Obj.cells #[Value.slice none 0 0] 32)).alloc (Obj.cells #[] 72))) := (Below.refl _ _).alloc (by simp) _
  have HY : Hid (Pls (((w.alloc (Obj.cells #[Value.slice (some ad) ps.length cap] 32)).alloc (Obj.cells #[Value.slice none 0 0] 32)).alloc (Obj.cells #[] 72)) (some ad) ps) := (hb.below hw (Nat.le_refl _)).alloc _
  clear hb hw
  go_enter Tryz.func36, Tryz.ntmps36
  go_wp2_with (at_builtin; (refine wpList_append_pls 30 Tryz.underlying30 rfl (.tmp 3) (.tmp 5) rfl (w.heap.size + 1 + 1) (.slice (some ⟨w.heap.size + 1 + 1, 0, none⟩) 0 0) [] ps rfl HO.out ad cap rfl HY.out (by simp; omega) (by simp) ?_; intro v1 w1 hov1 hgr1; rw [List.nil_append] at hov1; obtain ⟨va, vc, rfl⟩ := hov1.form; have hb1 := appP_below HB.out (by simp) HO.out hgr1; have x0 : w1.cell? ⟨w.heap.size + 1, 0, none⟩ = some (.slice none 0 0) := keep hb1 (by simp) (by simp); have x1 : w1.frozen? ⟨w.heap.size + 1, 0, none⟩ = false := ((hb1.frozen (p := ⟨w.heap.size + 1, 0, none⟩) (by simp)).trans (by simp)); have HV1 : Hid (OVp w1 (w.heap.size + 1 + 1) (.slice va ps.length vc) ps ∧ Below w.heap.size w w1) := ⟨hov1, HB0.out.trans (hb1.mono (by omega))⟩; clear hov1 hgr1 hb1))
  have HF : Hid (OVp (w1.setCell ⟨w.heap.size + 1, 0, none⟩ (.slice va ps.length vc)) w.heap.size (.slice va ps.length vc) ps ∧ Below w.heap.size w (w1.setCell ⟨w.heap.size + 1, 0, none⟩ (.slice va ps.length vc))) :=
    ⟨(HV1.out.1.stay ((Only.refl (fun b => b = w.heap.size + 1) w1).setCell (.inl rfl) (.slice va ps.length vc)) (fun k hk e => by have := HV1.out.1.blk hk; omega)).weak (by omega), HV1.out.2.setCell (by simp) _⟩
  exact bodyPost_ret (v := .agg #[.slice va ps.length vc]) (by simp [results, Tryz.results36, go_sem, x0]) rfl ⟨⟨_, rfl, HF.out.1⟩, HF.out.2⟩
set_option maxRecDepth 20000 in
set_option maxHeartbeats 4000000 in
theorem l8apply_any (ad : Addr) (cap : Nat) (ps : List (Int × Int)) (s E O : Int) (sa : Option Addr) (sc : Nat) (es : List El) (w : World) (hb : Pls w (some ad) ps) (h1 : 1 ≤ ps.length) (hn : ps.length ≤ 1000) (hs : Els true w sa es) (hm : es.length ≤ 1000) (hp : ∀ e ∈ es, 0 ≤ e.n) (hr : -9223372036854775808 ≤ s ∧ s ≤ 9223372036854775807) :
    Calls Tryz.prog 20 #[.agg #[.slice (some ad) ps.length cap], .int .i64 s, .agg #[.int .i64 E, .int .i64 O, .slice sa es.length sc]] w fun e w' => (∃ g c, e = .returned (.agg #[.slice (some ⟨g, 0, none⟩) ps.length c]) ∧ OwP w' w.heap.size g c (mvL s es ps es.length)) ∧ Below w.heap.size w w' := by
  have HOWN : Hid (∀ W, Below w.heap.size w W → Calls Tryz.prog 36 #[.agg #[.slice (some ad) ps.length cap]] W fun e w' => (∃ v, e = .returned (.agg #[v]) ∧ OVp w' W.heap.size v ps) ∧ Below W.heap.size W w') := fun W h => l8own_any ad cap ps W (hb.below h (Nat.le_refl _)) (by omega)
  have HB : Hid (Els true w sa es ∧ ∀ e ∈ es, 0 ≤ e.n) := ⟨hs, hp⟩
  have HML : Hid (∀ k, (mvL s es ps k).length = ps.length) := fun k => mvL_len s es ps k
  have HMV : Hid (∀ k, mvL s es ps (k + 1) = mvS s (es.getD k de) k (mvL s es ps k)) := fun k => rfl
  have HM0 : Hid (mvL s es ps 0 = ps ∧ True) := ⟨rfl, trivial⟩
  clear hb hs hp
  generalize hlen : es.length = n at *
  have HL : Hid (es.length = n ∧ True) := ⟨hlen, trivial⟩
  clear hlen
  generalize hlp : ps.length = m at *
  have HP : Hid (ps.length = m ∧ True) := ⟨hlp, trivial⟩
  clear hlp
  have HW : Hid (Below w.heap.size w (((w.alloc (Obj.cells #[Value.slice (some ad) m cap] 32)).alloc (Obj.cells #[Value.int IntKind.i64 E, Value.int IntKind.i64 O, Value.slice sa n sc] 38)).alloc (Obj.cells #[Value.slice none 0 0] 32)) ∧ (((w.alloc (Obj.cells #[Value.slice (some ad) m cap] 32)).alloc (Obj.cells #[Value.int IntKind.i64 E, Value.int IntKind.i64 O, Value.slice sa n sc] 38)).alloc (Obj.cells #[Value.slice none 0 0] 32)).heap.size = w.heap.size + 1 + 1 + 1) := ⟨(((Below.refl _ _).alloc (Nat.le_refl _) _).alloc (by simp) _).alloc (by simp; omega) _, by simp⟩
  have p2 := ((Box3.new (w.alloc (Obj.cells #[Value.slice (some ad) m cap] 32)) (.int .i64 E) (.int .i64 O) (.slice sa n sc) 38).alloc (Obj.cells #[Value.slice none 0 0] 32)).c2
  have r0 := (new1 ((w.alloc (Obj.cells #[Value.slice (some ad) m cap] 32)).alloc (Obj.cells #[Value.int IntKind.i64 E, Value.int IntKind.i64 O, Value.slice sa n sc] 38)) (.slice none 0 0) 32).1
  have r1 := (new1 ((w.alloc (Obj.cells #[Value.slice (some ad) m cap] 32)).alloc (Obj.cells #[Value.int IntKind.i64 E, Value.int IntKind.i64 O, Value.slice sa n sc] 38)) (.slice none 0 0) 32).2
  simp only [World.size_alloc] at p2 r0 r1
  have HC := HOWN.out _ HW.out.1
  go_enter Tryz.func20, Tryz.ntmps20
  go_wp2_with fail
  generalize (((w.alloc (Obj.cells #[Value.slice (some ad) m cap] 32)).alloc (Obj.cells #[Value.int IntKind.i64 E, Value.int IntKind.i64 O, Value.slice sa n sc] 38)).alloc (Obj.cells #[Value.slice none 0 0] 32)) = W0 at *
  refine HC.mono ?_
  clear HC HOWN
  rintro e w1 ⟨⟨v, rfl, hov⟩, hb1⟩
  obtain ⟨va, vc, hv, hmn⟩ := hov.mine
  subst hv
  obtain ⟨g, rfl, how⟩ : ∃ g, va = some ⟨g, 0, none⟩ ∧ OwP w1 W0.heap.size g vc ps := by
    rcases hmn with ⟨-, h, -⟩ | ⟨g, h, _, _, h2⟩
    · rw [h] at HP
      have := HP.out.1
      simp at this
      omega
    · exact ⟨g, h, h2⟩
  rw [HP.out.1]
  have hgl := how.lt
  have hba : Below w1.heap.size w1 (w1.alloc (Obj.cells #[Value.slice (some ⟨g, 0, none⟩) m vc] 32)) := (Below.refl _ _).alloc (Nat.le_refl _) _
  have hba2 := hb1.trans (hba.mono hb1.size)
  have hsz := HW.out.2
  have P2 := keep hba2 (show w.heap.size + 1 < W0.heap.size by omega) p2
  have R0 := keep hba2 (show w.heap.size + 1 + 1 < W0.heap.size by omega) r0
  have R1 := (hba2.frozen (p := ⟨w.heap.size + 1 + 1, 0, none⟩) (by simp only; omega)).trans r1
  have Y0 : (w1.alloc (Obj.cells #[Value.slice (some ⟨g, 0, none⟩) m vc] 32)).cell? ⟨w1.heap.size, 0, none⟩ = some (.slice (some ⟨g, 0, none⟩) m vc) := by simp
  have HI : Hid (OwP (w1.alloc (Obj.cells #[Value.slice (some ⟨g, 0, none⟩) m vc] 32)) W0.heap.size g vc (mvL s es ps 0) ∧ Below w.heap.size w (w1.alloc (Obj.cells #[Value.slice (some ⟨g, 0, none⟩) m vc] 32)) ∧ W0.heap.size = w.heap.size + 1 + 1 + 1 ∧ W0.heap.size ≤ g ∧ g < w1.heap.size ∧ w1.heap.size < (w1.alloc (Obj.cells #[Value.slice (some ⟨g, 0, none⟩) m vc] 32)).heap.size) :=
    ⟨by rw [HM0.out.1]; exact OVp.below how hba, HW.out.1.trans (hba2.mono (by omega)), HW.out.2, hgl.1, hgl.2, by simp⟩
  clear hov hmn how hb1 hba hba2 p2 r0 r1 HW hgl hsz
  go_wp2
  generalize w1.alloc (Obj.cells #[Value.slice (some ⟨g, 0, none⟩) m vc] 32) = W1 at *
  generalize w1.heap.size = Y at *
  generalize W0.heap.size = B at *
  go_loopw [8] (fun i wr => ∃ k : Nat, k ≤ n ∧ i = .int .i64 k ∧ OwP wr B g vc (mvL s es ps k) ∧ Only (fun b => b = g) W1 wr) (fun i _ => n - (intOf i).toNat)
  case atStart => exact ⟨0, Nat.zero_le _, rfl, HI.out.1, Only.refl _ _⟩
  case round =>
    obtain ⟨k, hk, rfl, how, hon⟩ := hrel
    obtain ⟨-, hbw, i1, i2, i3, i4⟩ := HI.out
    have hbon : Below (w.heap.size + 1 + 1 + 1) W1 wr := hon.below (by omega) (fun k hk => by omega)
    have p2 := keep hbon (by omega) P2
    have r0 := keep hbon (by omega) R0
    have r1 := (hbon.frozen (p := ⟨w.heap.size + 1 + 1, 0, none⟩) (by simp only; omega)).trans R1
    have y0 := hon.cell i4 (by omega) Y0
    have hbel : Below w.heap.size w wr := hbw.trans (hbon.mono (by omega))
    have hws := hon.size
    have hYl : Y < wr.heap.size := by omega
    have hgY : ¬ g = Y := by omega
    have hYg : ¬ Y = g := by omega
    have hpl : w.heap.size + 1 < wr.heap.size := by omega
    have hrl : w.heap.size + 1 + 1 < wr.heap.size := by omega
    have hgl : g < wr.heap.size := by omega
    have hg1 : ¬ g = w.heap.size + 1 := by omega
    have hg2 : ¬ g = w.heap.size + 1 + 1 := by omega
    have hgw : ¬ g = wr.heap.size := by omega
    have hwg : ¬ wr.heap.size = g := by omega
    have hB : w.heap.size ≤ g := by omega
    clear hbw i1 i2 i3 i4 hbon hws
    by_cases hlt : k < n
    · obtain ⟨b, off, rfl, hb1, c0, c1, hby, hrg⟩ := (HB.out.1.below hbel (Nat.le_refl _)).pen k (by rw [HL.out.1]; exact hlt)
      have hln := HML.out k
      have hmv := HMV.out k
      have hll : (es.getD k de).ls.length ≤ maxLen := hrg.len
      have hpos : 0 ≤ (es.getD k de).n := HB.out.2 _ (getD_memE (es := es) (k := k) (by rw [HL.out.1]; exact hlt))
      generalize hs : es.getD k de = q at *
      obtain ⟨sn, qa, qc, sl⟩ := q
      simp only at c0 c1 hby hll hpos
      obtain ⟨q, rfl⟩ := Int.eq_ofNat_of_zero_le hpos
      have hon2 : Only (fun b => b = g) W1 (wr.alloc (Obj.cells #[Value.int IntKind.i64 (q : Nat), Value.slice qa sl.length qc] 74)) := hon.alloc _
      have how2 : OwP (wr.alloc (Obj.cells #[Value.int IntKind.i64 (q : Nat), Value.slice qa sl.length qc] 74)) B g vc (mvL s es ps k) := OVp.below how ((Below.refl _ _).alloc (Nat.le_refl _) _)
      have HOW : Hid (OwP wr B g vc (mvL s es ps k)) := how
      have HON : Hid (Only (fun b => b = g) W1 wr) := hon
      clear hby hrg hs how hon hpos hbel
      by_cases hin : q < m
      rotate_left 1
      · rw [mvS_no (by simp only [hln]; omega)] at hmv
        have HN : Hid (OwP (wr.alloc (Obj.cells #[Value.int IntKind.i64 (q : Nat), Value.slice qa sl.length qc] 74)) B g vc (mvL s es ps (k + 1)) ∧ Only (fun b => b = g) W1 (wr.alloc (Obj.cells #[Value.int IntKind.i64 (q : Nat), Value.slice qa sl.length qc] 74))) := ⟨by rw [hmv]; exact how2, hon2⟩
        clear hmv how2 hon2 hln
        go_wp2
        go_roundw
        case rel => exact ⟨k + 1, by omega, by go_num, HN.out.1, HN.out.2⟩
        case measure => simp [intOf]; omega
      · obtain ⟨x0, x1⟩ := HOW.out.cell q (by omega)
        have f0 := HOW.out.frozen (q * 2)
        have f1 := HOW.out.frozen (q * 2 + 1)
        have R1' := HOW.out.store q (by omega) dp rP_dp
        by_cases hz : 0 < sl.length
        · have R2 := R1'.store q (by simp; omega) (s, (k : Int)) ⟨hr, by simp only; omega, by simp only; omega⟩
          rw [List.set_set, ← mvS_yes (a := qa) (c := qc) (by omega) hz, ← hmv] at R2
          have HN : Hid (OwP (((((wr.setCell ⟨g, q * 2, none⟩ (.int .i64 0)).setCell ⟨g, q * 2 + 1, none⟩ (.int .i64 0)).setCell ⟨g, q * 2, none⟩ (.int .i64 s)).setCell ⟨g, q * 2 + 1, none⟩ (.int .i64 k)).alloc (Obj.cells #[Value.int IntKind.i64 (q : Nat), Value.slice qa sl.length qc] 74)) B g vc (mvL s es ps (k + 1)) ∧ Only (fun b => b = g) W1 (((((wr.setCell ⟨g, q * 2, none⟩ (.int .i64 0)).setCell ⟨g, q * 2 + 1, none⟩ (.int .i64 0)).setCell ⟨g, q * 2, none⟩ (.int .i64 s)).setCell ⟨g, q * 2 + 1, none⟩ (.int .i64 k)).alloc (Obj.cells #[Value.int IntKind.i64 (q : Nat), Value.slice qa sl.length qc] 74))) :=
            ⟨OVp.below R2 ((Below.refl _ _).alloc (Nat.le_refl _) _), ((((HON.out.setCell (.inl rfl) _).setCell (.inl rfl) _).setCell (.inl rfl) _).setCell (.inl rfl) _).alloc _⟩
          clear R1' R2 hmv how2 hon2 hln
          go_wp2
          go_roundw
          case rel => exact ⟨k + 1, by omega, by go_num, HN.out.1, HN.out.2⟩
          case measure => simp [intOf]; omega
        · rw [← mvS_zero (s := s) (a := qa) (c := qc) (i := k) (by omega) hz, ← hmv] at R1'
          have HN : Hid (OwP (((wr.setCell ⟨g, q * 2, none⟩ (.int .i64 0)).setCell ⟨g, q * 2 + 1, none⟩ (.int .i64 0)).alloc (Obj.cells #[Value.int IntKind.i64 (q : Nat), Value.slice qa sl.length qc] 74)) B g vc (mvL s es ps (k + 1)) ∧ Only (fun b => b = g) W1 (((wr.setCell ⟨g, q * 2, none⟩ (.int .i64 0)).setCell ⟨g, q * 2 + 1, none⟩ (.int .i64 0)).alloc (Obj.cells #[Value.int IntKind.i64 (q : Nat), Value.slice qa sl.length qc] 74))) :=
            ⟨OVp.below R1' ((Below.refl _ _).alloc (Nat.le_refl _) _), ((HON.out.setCell (.inl rfl) _).setCell (.inl rfl) _).alloc _⟩
          clear R1' hmv how2 hon2 hln
          go_wp2
          go_roundw
          case rel => exact ⟨k + 1, by omega, by go_num, HN.out.1, HN.out.2⟩
          case measure => simp [intOf]; omega
    · have hkn : k = n := by omega
      subst hkn
      have HF : Hid (OwP (wr.setCell ⟨w.heap.size + 1 + 1, 0, none⟩ (.slice (some ⟨g, 0, none⟩) m vc)) w.heap.size g vc (mvL s es ps k) ∧ Below w.heap.size w (wr.setCell ⟨w.heap.size + 1 + 1, 0, none⟩ (.slice (some ⟨g, 0, none⟩) m vc))) :=
        ⟨OVp.weak (how.other (by simp only; omega) _) (by have := HI.out.2.2.1; omega), hbel.setCell (by simp only; omega) _⟩
      clear how hbel
      go_wp2
      exact bodyPost_ret (v := .agg #[.slice (some ⟨g, 0, none⟩) m vc]) (by simp [results, Tryz.results20, go_sem, r0]) rfl ⟨⟨g, vc, rfl, HF.out.1⟩, HF.out.2⟩
end Go.Proofs.YtennmikgehidiaaGreatDoor
namespace Go.Proofs.YtennmikgehidiaaGreatDoor
open Go.RowKit
set_option linter.unusedVariables false
set_option linter.unusedSimpArgs false

/-- What MapGet answers. -/
def gtP (ps : List (Int × Int)) (x : Int) : Int × Int := if mapB ps then plcO ps x else dp
def gtB (ps : List (Int × Int)) (x : Int) : Bool := mapB ps && !nwh (plcO ps x)
theorem okT_get (ps : List (Int × Int)) (n i : Nat) (h : okT ps n = true) (hi : i < n) : nwh (ps.getD i dp) = true ∨ rgt (ps.getD i dp) = true := by
  have h1 := okT_le ps n (i + 1) h (by omega)
  simp only [okT, Bool.and_eq_true, stpP, Bool.or_eq_true] at h1
  rcases h1.2 with h2 | h2
  · exact .inl h2
  · exact .inr h2.1
theorem gt_pos (ps : List (Int × Int)) (i : Nat) (h : mapB ps = true) (hi : i < ps.length) : (!nwh (ps.getD i dp)) = decide (0 < (ps.getD i dp).1) := by
  rcases okT_get ps _ i (mapB_okT ps h) hi with h1 | h1
  · have h2 := h1
    unfold nwh at h2
    simp only [Bool.and_eq_true, beq_iff_eq] at h2
    rw [h1, h2.1]
    rfl
  · have h2 := h1
    unfold rgt at h2
    simp only [decide_eq_true_eq] at h2
    have h3 : nwh (ps.getD i dp) = false := by
      unfold nwh
      simp only [Bool.and_eq_false_iff, beq_eq_false_iff_ne]
      omega
    rw [h3, decide_eq_true (by omega)]
    rfl
end Go.Proofs.YtennmikgehidiaaGreatDoor
namespace Go.Proofs.YtennmikgehidiaaGreatDoor
open Go.RowKit
set_option linter.unusedVariables false

/-- A slice value (nil, or a row of the call's own from block B on) that has the numbers zs. -/
def OVI (w : World) (B : Nat) (v : Value) (zs : List Int) : Prop := w.ownsRow B 3 1 v zs.length (zs.map (Value.int .i64)) ∧ ∀ z ∈ zs, -9223372036854775808 ≤ z ∧ z ≤ 9223372036854775807

theorem OVI.nil (w : World) (B : Nat) : OVI w B (.slice none 0 0) [] := ⟨⟨rfl, .inl ⟨rfl, rfl⟩⟩, by simp⟩
theorem OVI.form {w : World} {B : Nat} {v : Value} {zs : List Int} (h : OVI w B v zs) : ∃ (a : Option Addr) (c : Nat), v = .slice a zs.length c := by
  rcases h.1.2 with ⟨rfl, h0⟩ | ⟨g, cap, cur, rfl, _⟩
  · exact ⟨none, 0, by rw [h0]⟩
  · exact ⟨_, _, rfl⟩
theorem OVI.blk {w : World} {B : Nat} {v : Value} {zs : List Int} (h : OVI w B v zs) {k : Nat} (hk : v.ownBlock = some k) : B ≤ k := by
  rcases h.1.2 with ⟨rfl, h0⟩ | ⟨g, cap, cur, rfl, hg, _⟩
  · simp [Value.ownBlock] at hk
  · simp [Value.ownBlock] at hk
    omega
theorem OVI.mine {w : World} {B : Nat} {v : Value} {zs : List Int} (h : OVI w B v zs) : ∃ (a : Option Addr) (cp : Nat), v = .slice a zs.length cp ∧ MinI w B w.heap.size a cp zs := by
  rcases h.1.2 with ⟨rfl, h0⟩ | ⟨g, cap, cur, rfl, hg, hh, r⟩
  · exact ⟨none, 0, by rw [h0], .inl ⟨rfl, List.eq_nil_of_length_eq_zero h0, rfl⟩⟩
  · exact ⟨some ⟨g, 0, none⟩, cap, rfl, OwI.mine (cap := cap) h⟩
theorem OVI.app {w1 : World} {B g cap n : Nat} {zs : List Int} {x : Int} (hl : zs.length = n) (hr : ∀ z ∈ zs, -9223372036854775808 ≤ z ∧ z ≤ 9223372036854775807) (hx : -9223372036854775808 ≤ x ∧ x ≤ 9223372036854775807)
    (hown : w1.ownsRow B 3 1 (.slice (some ⟨g, 0, none⟩) (n + 1) cap) (n + 1) (zs.map (Value.int .i64) ++ [.int .i64 x])) : OVI w1 B (.slice (some ⟨g, 0, none⟩) (n + 1) cap) (zs ++ [x]) := by
  refine ⟨?_, ?_⟩
  · have e : (zs ++ [x]).length = n + 1 := by simp [hl]
    rw [e]
    simpa using hown
  · intro z hz
    simp only [List.mem_append, List.mem_singleton] at hz
    rcases hz with hz | rfl
    · exact hr z hz
    · exact hx
theorem app_below {w0 wr w1 : World} {B : Nat} {o : Obj} {v : Value} {zs : List Int} (hbel : Below B w0 wr) (hB : B ≤ wr.heap.size) (h : OVI wr B v zs) (hg : (wr.alloc o).grownBy w1 v.ownBlock) : Below B w0 w1 :=
  (hbel.alloc hB o).grown hg (by simp; omega) (fun k hk => h.blk hk)
theorem OVI.only {S : Nat → Prop} {w w' : World} {B : Nat} {v : Value} {zs : List Int} (h : OVI w B v zs) (ho : Only S w w') (hs : ∀ k, B ≤ k → ¬ S k) : OVI w' B v zs := by
  refine ⟨⟨h.1.1, ?_⟩, h.2⟩
  rcases h.1.2 with h' | ⟨g, cap, cur, h', hg, hh, r⟩
  · exact .inl h'
  · exact .inr ⟨g, cap, cur, h', hg, (ho.block g (Array.getElem?_eq_some_iff.1 hh).1 (hs g hg)).trans hh, r⟩
end Go.Proofs.YtennmikgehidiaaGreatDoor
