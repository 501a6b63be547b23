/-
  The model's l2get: symbol after symbol.
-/
import Derived.Test.YtpmagpjiacpheaaDoorHGet1
import Derived.Test.YtpmagpjiacpheaaDoorCodes3
import Derived.Test.YtpmagpjiacpheaaDoorIApp
import Derived.Deep.AppendLies
namespace Go.Proofs.YtpmagpjiacpheaaDoor
open Go.RowKit
set_option linter.unusedVariables false

theorem OVI.stay {S : Nat → Prop} {w w' : World} {B : Nat} {v : Value} {zs : List Int} (h : OVI w B v zs) (ho : Only S w w') (hs : ∀ k, B ≤ k → ¬ S k) : OVI w' B v zs := by
  refine ⟨⟨h.1.1, ?_⟩, h.2⟩
  rcases h.1.2 with h' | ⟨g, cap, cur, h', hg, hh, r⟩
  · exact .inl h'
  · exact .inr ⟨g, cap, cur, h', hg, (ho.block g (Array.getElem?_eq_some_iff.1 hh).1 (hs g hg)).trans hh, r⟩

theorem OVI.weak {w : World} {B B' : Nat} {v : Value} {zs : List Int} (h : OVI w B v zs) (hB : B' ≤ B) : OVI w B' v zs := by
  refine ⟨⟨h.1.1, ?_⟩, h.2⟩
  rcases h.1.2 with h' | ⟨g, cap, cur, h', hg, r⟩
  · exact .inl h'
  · exact .inr ⟨g, cap, cur, h', by omega, r⟩

/-- From bit p on comes symbol i, k bits long. -/
def One (ls cs : List Int) (n v p i k : Nat) : Prop := 1 ≤ k ∧ k ≤ 12 ∧ p + k ≤ n ∧ i < ls.length ∧ Hit ls cs v p k i ∧ (∀ j, j < i → ¬ Hit ls cs v p k j) ∧ NoHit ls cs v p (k - 1)
/-- From bit p up to bit e come the symbols. -/
inductive Reads (ls cs : List Int) (n v p : Nat) : List Int → Nat → Prop
  | nil : Reads ls cs n v p [] p
  | snoc {q : List Int} {e i k : Nat} : Reads ls cs n v p q e → One ls cs n v e i k → Reads ls cs n v p (q ++ [(i : Int)]) (e + k)

set_option maxRecDepth 20000 in
set_option maxHeartbeats 4000000 in
theorem l2get_any (a : Option Addr) (ca : Nat) (ls : List Int) (x : Option Addr) (cx : Nat) (zs : List Int) (n v p N : Nat) (w : World) (ha : Ins w a ls) (hx : Byt w x zs) (hz : zs = enc n v) (hn : n ≤ 4104) (hp : p ≤ n) (hl : ls.length ≤ 80) (hN : N ≤ 300) :
    Calls Tryd.prog 50 #[.slice a ls.length ca, .agg #[.slice x zs.length cx, .int .i64 n], .int .i64 p, .int .i64 N] w fun e w' => Below w.heap.size w w' ∧
      ((∃ q E u, q.length = N ∧ Reads ls (crun ls (sbL ls 12)).2.2 n v p q E ∧ OVI w' w.heap.size u q ∧ e = .returned (.tuple #[u, .int .i64 (E : Nat), .bool true])) ∨
       (∃ q E, q.length < N ∧ Reads ls (crun ls (sbL ls 12)).2.2 n v p q E ∧ NoHit ls (crun ls (sbL ls 12)).2.2 v E (min 12 (n - E)) ∧ e = .returned (.tuple #[.slice none 0 0, .int .i64 (-1), .bool false]))) := by
  obtain ⟨i0, hi, hz0, hz1, hz2⟩ := info_parts Tryd.infoI64
  have hw : Below w.heap.size w (w.alloc (Obj.cells #[Value.slice x zs.length cx, Value.int IntKind.i64 n] 33)) := (Below.refl _ _).alloc (Nat.le_refl _) _
  have r0 : (w.alloc (Obj.cells #[Value.slice x zs.length cx, Value.int IntKind.i64 n] 33)).cell? ⟨w.heap.size, 0, none⟩ = some (.slice x zs.length cx) := by simp
  have r1 : (w.alloc (Obj.cells #[Value.slice x zs.length cx, Value.int IntKind.i64 n] 33)).cell? ⟨w.heap.size, 1, none⟩ = some (.int .i64 n) := by simp
  have HSZ : Hid (w.heap.size < (w.alloc (Obj.cells #[Value.slice x zs.length cx, Value.int IntKind.i64 n] 33)).heap.size) := by simp [Hid]
  have HLC := l2codes_any a ca ls _ (ha.below hw (Nat.le_refl _)) hl
  have HCL : Hid _ := crun_len ls (sbL ls 12)
  have HZ : Hid (zs = enc n v) := hz
  clear hz
  go_enter Tryd.func50, Tryd.ntmps50
  go_wp2_with fail
  generalize w.alloc (Obj.cells #[Value.slice x zs.length cx, Value.int IntKind.i64 n] 33) = W at *
  refine HLC.mono ?_
  clear HLC
  rintro e w1 ⟨rfl, hc1, hb1⟩
  have hbw1 : Below w.heap.size w w1 := hw.trans (hb1.mono (Nat.le_of_lt HSZ.out))
  have HBW : Hid (Below w.heap.size w w1) := hbw1
  have HA : Hid (Ins w1 a ls) := ha.below hbw1 (Nat.le_refl _)
  have HX : Hid (Byt w1 x zs) := hx.below hbw1 (Nat.le_refl _)
  have HCC : Hid (Ins w1 (some ⟨W.heap.size, 0, none⟩) (crun ls (sbL ls 12)).2.2) := hc1.byt
  have HR : Hid (w1.cell? ⟨w.heap.size, 0, none⟩ = some (.slice x zs.length cx) ∧ w1.cell? ⟨w.heap.size, 1, none⟩ = some (.int .i64 n)) := ⟨keep hb1 HSZ.out r0, keep hb1 HSZ.out r1⟩
  have HS1 : Hid (w.heap.size < w1.heap.size) := by have := HSZ.out; have := hb1.size; unfold Hid; omega
  clear hw r0 r1 HSZ hc1 hb1 hbw1 ha hx
  generalize W.heap.size = gc at *
  generalize hcs0 : (crun ls (sbL ls 12)).2.2 = cs at *
  have HCSE : Hid ((crun ls (sbL ls 12)).2.2 = cs) := hcs0
  clear hcs0
  generalize hB : w1.heap.size = B at *
  have HB : Hid (w1.heap.size = B) := hB
  clear hB
  go_wp2
  go_loopw [2, 12, 13] (fun t o i wr => ∃ (k : Nat) (q : List Int) (P : Nat), k ≤ N ∧ i = .int .i64 k ∧ t = .int .i64 P ∧ P ≤ n ∧ OVI wr B o q ∧ q.length = k ∧ Reads ls cs n v p q P ∧ Below B w1 wr) (fun _ _ i _ => N - (intOf i).toNat)
  case atStart => exact ⟨0, [], p, Nat.zero_le _, rfl, rfl, hp, OVI.nil _ _, rfl, .nil, Below.refl _ _⟩
  case round =>
    obtain ⟨k, q, P, hk, rfl, rfl, hP, hov, hql, hrd, hbel⟩ := hrel
    obtain ⟨au, cu, rfl⟩ := hov.form
    have HQL : Hid (q.length = k) := hql
    rw [hql] at hov ⊢
    have HOV : Hid (OVI wr B (.slice au k cu) q) := hov
    have HRD : Hid (Reads ls cs n v p q P) := hrd
    have HBL : Hid (Below B w1 wr) := hbel
    have c0 := keep hbel HS1.out HR.out.1
    have c1 := keep hbel HS1.out HR.out.2
    have HBB : Hid (Below w.heap.size w wr) := HBW.out.trans (hbel.mono (Nat.le_of_lt HS1.out))
    have HZW : Hid (B ≤ wr.heap.size) := by have := hbel.size; have := HB.out; unfold Hid; omega
    clear hov hql hrd hbel
    by_cases hlt : k < N
    · have HONE := l2one_any a ca ls (some ⟨gc, 0, none⟩) ls.length cs x cx zs n v P wr (HA.out.below HBL.out (by rw [HB.out]; exact Nat.le_refl _)) (HCC.out.below HBL.out (by rw [HB.out]; exact Nat.le_refl _)) (HX.out.below HBL.out (by rw [HB.out]; exact Nat.le_refl _)) HZ.out hn hP hl HCL.out
      go_wp2_with fail
      refine HONE.mono ?_
      clear HONE
      rintro e w2 ⟨hb2, ⟨m, i, g1, g2, g3, g4, g5, g6, g7, rfl⟩ | ⟨hno, rfl⟩⟩
      · have HB2 : Hid (Below B w1 w2) := HBL.out.trans (hb2.mono HZW.out)
        have HOV2 : Hid (OVI w2 B (.slice au k cu) q) := HOV.out.stay (Only.ofBelow (S := fun _ => False) hb2 (Nat.le_refl _)) (by simp)
        have HRD2 : Hid (Reads ls cs n v p (q ++ [(i : Int)]) (P + m)) := .snoc HRD.out ⟨g1, g2, g3, g4, g5, g6, g7⟩
        have hz3 : B ≤ w2.heap.size := Nat.le_trans HZW.out hb2.size
        have hu : w2.ownsRow B 3 1 (.slice au k cu) k (q.map (Value.int .i64)) := by have := HOV2.out.1; rw [HQL.out] at this; exact this
        clear hb2 g5 g6 g7 HRD HOV HBL c0 c1
        generalize P + m = P2 at *
        generalize hiz : (i : Int) = iz at *
        have hir : 0 ≤ iz ∧ iz ≤ 80 := by omega
        clear hiz g1 g2 g4
        have HN3 : Hid (k + 1 ≤ 300) := by unfold Hid; omega
        have hk3 : k + 1 ≤ 300 := HN3.out
        clear hN hn hl hp hP
        go_wp2_with (at_builtin; (refine wpList_append_lies _ rfl (.tmp 33) (.tmp 35) 22 rfl B 3 i0 (.int .i64 0) 1 8 Tryd.underlying22 hi hz0 hz1 hz2 rfl (by decide) (.slice au k cu) k (q.map (Value.int .i64)) rfl (hu.alloc _) ⟨w2.heap.size, 0, none⟩ 1 1 [.int .i64 iz] rfl rfl (by intro j y hj; match j, hj with | 0, hj => (simp at hj; subst hj; simp [Addr.add])) (by intro y hy; simp at hy; subst hy; rfl) (by have := HN3.out; omega) (by have := HN3.out; unfold maxLen; omega) (by have := HN3.out; omega) (by simp; omega) _ rfl ?_); intro g cap1 w4 hown hgrow hat hlt1)
        have HOV4 : Hid (OVI w4 B (.slice (some ⟨g, 0, none⟩) (k + 1) cap1) (q ++ [iz])) := OVI.app HQL.out HOV2.out.2 (by omega) hown
        have HB4 : Hid (Below B w1 w4) := app_below HB2.out hz3 HOV2.out hgrow
        clear hown hgrow hat hlt1 HOV2 HB2 hu
        go_wp2
        go_roundw
        case rel => exact ⟨k + 1, q ++ [iz], P2, by omega, by go_num, rfl, g3, HOV4.out, by rw [List.length_append, HQL.out]; rfl, HRD2.out, HB4.out⟩
        case measure => simp [intOf]; omega
      · have HB2 : Hid (Below w.heap.size w w2) := HBB.out.trans (hb2.mono (by have := HZW.out; have := HS1.out; omega))
        have HNO : Hid (NoHit ls cs v P (min 12 (n - P))) := hno
        clear hb2 hno HOV HBL c0 c1
        go_wp2
        refine bodyPost_ret (v := .tuple #[.slice none 0 0, .int .i64 (-1), .bool false]) (by simp [results, Tryd.results50, go_sem]) rfl ?_
        rw [HCSE.out]
        exact ⟨HB2.out, .inr ⟨q, P, by rw [HQL.out]; exact hlt, HRD.out, HNO.out, rfl⟩⟩
    · have hkn : k = N := by omega
      subst hkn
      go_wp2
      refine bodyPost_ret (v := .tuple #[.slice au k cu, .int .i64 (P : Nat), .bool true]) (by simp [results, Tryd.results50, go_sem]) rfl ?_
      rw [HCSE.out]
      exact ⟨HBB.out, .inl ⟨q, P, _, HQL.out, HRD.out, HOV.out.weak (Nat.le_of_lt HS1.out), rfl⟩⟩
end Go.Proofs.YtpmagpjiacpheaaDoor
